/- SemiflowKeeps: for every input it answers true. -/
import Derived.Test.YtpnghgihepnepaaDoorDf
import Derived.Test.YtpnghgihepnepaaDoorGr
import Derived.Test.YtpnghgihepnepaaDoorDt
import Derived.Test.YtpnghgihepnepaaDoorCards
import Derived.Test.YtpnghgihepnepaaDoorTie
import Derived.StillTailTactics
import Derived.Outline
import Derived.BigRegion
import Derived.Deep.RegionHeld3
namespace Go.Proofs.YtpnghgihepnepaaDoor
open Go.ChangeShapes Go.WideShapes Go.ChangeAt Go.RowKit
set_option linter.unusedVariables false

set_option maxRecDepth 100000 in
set_option maxHeartbeats 2000000 in
theorem walkSemiflowKeeps (a0 : Option Addr) (len0 cap0 : Nat) (z0 : List Int) (w : World) (w0 : IsRow .i64 w a0 len0 cap0 z0) (hT : TabW w) :
    Calls Tryd.prog 6 #[.slice a0 len0 cap0] w fun e w' => e = .returned (.bool true) ∧ Below w.heap.size w w' := by
  obtain ⟨hI, hlen⟩ := w0.ints
  generalize z0.take len0 = zs at hI hlen
  subst hlen
  have HI := Lib.hid hI; have HT := Lib.hid hT
  clear hI w0 hT
  by_cases hfew : (zs.length : Int) ≤ 400
  · go_enter Tryd.func6, Tryd.ntmps6
    go_wp2_with fail
    refine (awake11_any _ HT.out).mono ?_
    rintro e w1 ⟨rfl, hg⟩
    have HG := Lib.hid hg
    clear hg
    go_wp2_with fail
    refine (few_any _ _ _ _).mono ?_
    rintro e w2 ⟨rfl, rfl⟩
    rw [decide_eq_true hfew]
    go_wp2_with fail
    refine (new_st (HI.out.same HG.out) HG.out).mono ?_
    rintro e w3 ⟨p, d, rfl, hs⟩
    have HS := Lib.hid hs
    clear hs HG HI
    go_wp2_with fail
    refine (next_st HS.out _ (by omega) (by omega)).mono ?_
    rintro e w4 ⟨y, rfl, hy0, hy1, hs, hg⟩
    replace HS := Lib.hid hs
    clear hs hg
    obtain ⟨r, hr⟩ : ∃ r : Nat, 1 + y = (r : Int) := ⟨(1 + y).toNat, by omega⟩
    have hr1 : 1 ≤ r := by omega
    have hr2 : r ≤ 4 := by omega
    have ir : IntKind.i64.wrap (1 + y) = (r : Int) := by rw [hr]; exact IntWalk.i64_in _ (by omega)
    clear hr hy0 hy1
    go_wp2_with fail
    refine (next_st HS.out _ (by omega) (by omega)).mono ?_
    rintro e w5 ⟨y, rfl, hy0, hy1, hs, hg⟩
    replace HS := Lib.hid hs
    clear hs hg
    obtain ⟨c, hc⟩ : ∃ c : Nat, 1 + y = (c : Int) := ⟨(1 + y).toNat, by omega⟩
    have hc1 : 1 ≤ c := by omega
    have hc2 : c ≤ 3 := by omega
    have ic : IntKind.i64.wrap (1 + y) = (c : Int) := by rw [hc]; exact IntWalk.i64_in _ (by omega)
    clear hc hy0 hy1
    go_wp2_with fail
    clear ir ic
    refine (matrix_st HS.out r c (by omega) (by omega)).mono ?_
    rintro e w6 ⟨vm, ps, rfl, hpl, hdm, hM, hs, hg⟩
    have HM := Lib.hid (MatD.mk HS.out hM)
    replace HS := Lib.hid hs; have HOK := Lib.hid (dealt_ok hpl hdm hr1 (by omega) hc1 (by omega) (by omega))
    clear hpl hdm hM hs hg
    obtain ⟨C, hC⟩ : ∃ C, C = ps.map Prod.snd := ⟨_, rfl⟩
    have HC := Lib.hid hC
    have HCL : Hid (C.length = r) := Lib.hid (by rw [hC, List.length_map]; exact HOK.out.1)
    clear hC
    go_wp2_with fail
    refine (small_st HS.out (r : Int) 6 (by omega) (by omega) (by omega)).mono ?_
    rintro e w7 ⟨vs, st, rfl, hsl, hsp, hV, hs, hg⟩
    have hsl2 : st.length = r := by omega
    replace HM := Lib.hid (HM.out.deal hg); replace HS := Lib.hid hs
    have HSL := Lib.hid hsl2; have HV := Lib.hid hV; have HSP := Lib.hid hsp
    obtain ⟨as', cs', rfl, -⟩ := hV.slice
    clear hs hg hsl hsl2 hV hsp
    rw [HSL.out] at HV ⊢
    go_wp2_with (at_builtin; refine app_ints2 rfl _ _ rfl w7.heap.size (.slice none 0 0) [] rfl (OwnI.nil _ _) (.slice as' r cs') st rfl HV.out.1 (by rw [HSL.out]; simp; omega) (Nat.le_refl _) ?_)
    intro a8 n8 c8 w8 e8 ho hg
    (try simp only [List.nil_append] at e8); (try simp only [List.nil_append] at ho)
    have e9 : r = n8 := by rw [e8, HSL.out]
    clear e8
    subst e9
    have HNW : Hid (∃ nw, Vec w8 d (.slice a8 r c8) nw ∧ KeepI C c r st (6 + 16 * (0 : Nat)) nw) := Lib.hid ⟨st, ho.vec (fun x hx => by have := HSP.out x hx; omega) HS.out.lt, KeepI.start HSL.out HSP.out⟩
    replace HS := Lib.hid (HS.out.step hg); replace HM := Lib.hid (HM.out.step hg); replace HV := Lib.hid (HV.out.step hg)
    clear ho hg
    go_wp2_with fail
    go_loopw [9, 8] (fun i v wr => ∃ (k : Nat) (a : Option Addr) (cp : Nat), i = .int .i64 k ∧ v = .slice a r cp ∧ k ≤ 8 ∧ Hid (∃ nw, Vec wr d (.slice a r cp) nw ∧ KeepI C c r st (6 + 16 * (k : Nat)) nw) ∧ Hid (St w wr p d) ∧ Hid (MatD wr d vm ps) ∧ Hid (Vec wr d (.slice as' r cs') st)) (fun i _ _ => 8 - (intOf i).toNat)
    case atStart => exact ⟨0, a8, c8, rfl, rfl, Nat.zero_le _, HNW, HS, HM, HV⟩
    case round =>
      clear HNW HS HM HV
      obtain ⟨i, an, cn, rfl, rfl, hi, HNW, HS, HM, HV⟩ := hrel
      rename World => wk
      by_cases hib : i < 8
      · have h3 : (i : Int) < 8 := by omega
        have i1 : IntKind.i64.wrap ((i : Int) + 1) = (i : Int) + 1 := IntWalk.i64_in _ (by omega)
        go_wp2_with fail
        refine (next_st HS.out _ (by omega) (by omega)).mono ?_
        rintro e w9 ⟨y, rfl, hy0, hy1, hs, hg⟩
        obtain ⟨j, rfl⟩ : ∃ j : Nat, y = (j : Int) := ⟨y.toNat, by omega⟩
        have hjc : j < c := by omega
        obtain ⟨nw, hN, hK⟩ := HNW.out
        have HN := Lib.hid (hN.deal hg); have HK := Lib.hid hK
        replace HM := Lib.hid (HM.out.deal hg); replace HV := Lib.hid (HV.out.deal hg); replace HS := Lib.hid hs
        clear hs hg hN hK HNW hy0 hy1
        go_wp2_with (at_builtin; refine app_ints2 rfl _ _ rfl w9.heap.size (.slice none 0 0) [] rfl (OwnI.nil _ _) (.slice an r cn) nw rfl HN.out.1 (by rw [HK.out.len]; simp; omega) (Nat.le_refl _) ?_)
        intro a10 n10 c10 w10 e10 ho hg
        (try simp only [List.nil_append] at e10); (try simp only [List.nil_append] at ho)
        have e11 : r = n10 := by rw [e10, HK.out.len]
        clear e10
        subst e11
        obtain ⟨g, cp, hgv, hgb⟩ := ho.head1 (by rw [HK.out.len]; omega)
        simp only [Value.slice.injEq] at hgv
        obtain ⟨rfl, -, rfl⟩ := hgv
        have HGB := Lib.hid hgb
        have HL : Hid (∃ L, OwnI w10 w9.heap.size (.slice (some ⟨g, 0, none⟩) r c10) L ∧ AddR nw (colI C j) r 0 L) := Lib.hid ⟨nw, ho, AddR.start HK.out.len⟩
        have HG : Hid (w9.grownBy w10 none) := Lib.hid hg
        clear ho hg hgb
        go_wp2_with fail
        go_loopw [56, 12] (fun t' b' wr => ∃ (t : Nat) (b : Bool), t' = .int .i64 t ∧ b' = .bool b ∧ t ≤ r ∧ Hid (∃ L, OwnI wr w9.heap.size (.slice (some ⟨g, 0, none⟩) r c10) L ∧ AddR nw (colI C j) r t L) ∧ Hid (b = true → ∀ q, q < t → 0 ≤ nw[q]?.getD 0 + (colI C j)[q]?.getD 0) ∧ Hid (w9.grownBy wr none)) (fun t' _ _ => r - (intOf t').toNat)
        case atStart => exact ⟨0, true, rfl, rfl, Nat.zero_le _, HL, Lib.hid (fun _ q hq => by omega), HG⟩
        case round =>
          clear HL HG
          obtain ⟨t, b, rfl, rfl, ht, HL, HB, HG⟩ := hrel
          rename World => wt
          by_cases htb : t < r
          · have h4 : (t : Int) < (r : Int) := by omega
            have i2 : IntKind.i64.wrap ((t : Int) + 1) = (t : Int) + 1 := IntWalk.i64_in _ (by omega)
            have h5 : (j : Int) < (c : Int) := by omega
            obtain ⟨L, hO, hA⟩ := HL.out
            have HD := Lib.hid (hO.kept (grown_drew wt none) (by simp)); have GD := Lib.hid (grown_trans HG.out (grown_drew wt none))
            have hLl := hA.1
            have hcz := (HD.out.cell t (by omega)).1; have hfz := (HD.out.cell t (by omega)).2
            have hat := hA.2 t htb
            rw [if_neg (by omega)] at hat
            rw [hat] at hcz
            have hpl := HOK.out.1
            have h6 : (t : Int) < (ps.length : Int) := by omega
            obtain ⟨am, cm, rfl, -⟩ : ∃ a cap, vm = .slice a ps.length cap ∧ True := by obtain ⟨a, cap, h, -⟩ := HM.out.rows; exact ⟨a, cap, h, trivial⟩
            obtain ⟨b', off', ar, cr, rfl, hcr, hri⟩ := row_ints HM.out.rows (show t < ps.length by omega)
            have hql := HOK.out.2.2.2.2.2.2 _ (List.getElem_mem (show t < ps.length by omega))
            obtain ⟨_, _, hxv, -, -, hxc⟩ := hri
            simp only [Value.slice.injEq] at hxv
            obtain ⟨rfl, -, rfl⟩ := hxv
            obtain ⟨bx, ox, rfl, hcx⟩ := Ints.at hxc (show j < ps[t].2.length by rw [hql.1]; exact hjc)
            rw [hql.1] at hcr
            have hcr2 := GD.out.cell hcr (by simp); have hcx2 := GD.out.cell hcx (by simp)
            have hzb := mem_at (P := fun y => -16 ≤ y ∧ y ≤ 16) hql.2 (show j < ps[t].2.length by rw [hql.1]; exact hjc)
            have HCP : Hid ((colI C j)[t]?.getD 0 = ps[t].2[j]?.getD 0) := Lib.hid (by rw [HC.out]; exact colP (by omega))
            have hxb : 0 ≤ nw[t]?.getD 0 ∧ nw[t]?.getD 0 ≤ 134 := by
              rw [List.getElem?_eq_getElem (by rw [HK.out.len]; exact htb)]
              have := HK.out.bd _ (List.getElem_mem (show t < nw.length by rw [HK.out.len]; exact htb))
              simp only [Option.getD_some]; omega
            have HAN : Hid (AddR nw (colI C j) r (t + 1) (L.set t (nw[t]?.getD 0 + (colI C j)[t]?.getD 0))) := Lib.hid (hA.put htb)
            rw [HCP.out] at HAN
            generalize hz : ps[t].2[j]?.getD 0 = z at *
            generalize hx : nw[t]?.getD 0 = x at *
            have HX := Lib.hid hx
            obtain ⟨s, hs⟩ : ∃ s, x + z = s := ⟨_, rfl⟩
            have hsb : -1000 ≤ s ∧ s ≤ 1000 := by omega
            have m1 : IntKind.i64.wrap (x + z) = s := by rw [hs]; exact IntWalk.i64_in _ (by omega)
            rw [hs] at HAN
            have HBN : Hid ((b = true ∧ 0 ≤ s) → ∀ q, q < t + 1 → 0 ≤ nw[q]?.getD 0 + (colI C j)[q]?.getD 0) := Lib.hid (fun ⟨h1, h2⟩ q hq => by
              by_cases e : q = t
              · subst e; rw [HX.out, HCP.out, hs]; exact h2
              · exact HB.out h1 q (by omega))
            have HON := Lib.hid (HD.out.stored t s)
            have hcs := (HON.out.cell t (by rw [List.length_set]; omega)).1
            rw [List.getElem?_set, if_pos rfl, if_pos (by omega)] at hcs
            simp only [Option.getD_some] at hcs
            have HLN : Hid (∃ L, OwnI (wt.drew.setCell ⟨g, t, none⟩ (.int .i64 s)) w9.heap.size (.slice (some ⟨g, 0, none⟩) r c10) L ∧ AddR nw (colI C j) r (t + 1) L) := Lib.hid ⟨_, HON.out, HAN.out⟩
            have HGN : Hid (w9.grownBy (wt.drew.setCell ⟨g, t, none⟩ (.int .i64 s)) none) := Lib.hid (grown_then GD.out (grown_set _ _ _) (by rintro k ⟨⟩; exact .inl HGB.out))
            have HGM : Hid (MatD wt.drew d (.slice (some ⟨b', off', none⟩) ps.length cm) ps) := Lib.hid (HM.out.step GD.out)
            have HSS := Lib.hid hsb
            clear hO hA HL hLl hat hpl hcr hql hxc hcx hzb HCP hxb HAN hz hx HX hs HB HON HD GD HG HGM hsb
            cases b with
            | false =>
              clear HBN
              go_wp2_with fail
              go_still_tail 13, (by kernel_rfl)
              change wpList _ _ _ _ _ wt.drew
              generalize wt.drew = wd at *
              go_wp2_with fail
              clear hcz hfz hcr2 hcx2 hcs
              go_roundw
              case rel => exact ⟨t + 1, false, by go_num, rfl, by omega, HLN, Lib.hid (fun h => by cases h), HGN⟩
              case measure => simp [intOf]; omega
            | true =>
              by_cases hs0 : 0 ≤ s
              · have q1 : decide (0 ≤ s) = true := by simpa using hs0
                have HBT := Lib.hid (HBN.out ⟨rfl, hs0⟩)
                clear HBN hs0
                go_wp2_with fail
                go_still_tail 13, (by kernel_rfl)
                change wpList _ _ _ _ _ wt.drew
                generalize wt.drew = wd at *
                go_wp2_with fail
                clear hcz hfz hcr2 hcx2 hcs
                go_roundw
                case rel => exact ⟨t + 1, true, by go_num, rfl, by omega, HLN, Lib.hid (fun _ => HBT.out), HGN⟩
                case measure => simp [intOf]; omega
              · have q1 : decide (0 ≤ s) = false := by simpa using hs0
                clear HBN hs0
                go_wp2_with fail
                go_still_tail 13, (by kernel_rfl)
                change wpList _ _ _ _ _ wt.drew
                generalize wt.drew = wd at *
                go_wp2_with fail
                clear hcz hfz hcr2 hcx2 hcs
                go_roundw
                case rel => exact ⟨t + 1, false, by go_num, rfl, by omega, HLN, Lib.hid (fun h => by cases h), HGN⟩
                case measure => simp [intOf]; omega
          · obtain rfl : t = r := by omega
            have h4 : ¬ (t : Int) < (t : Int) := by omega
            have HSN := Lib.hid (HS.out.step HG.out); have HMN := Lib.hid (HM.out.step HG.out); have HVN := Lib.hid (HV.out.step HG.out)
            cases b with
            | false =>
              have HNN : Hid (∃ nw, Vec wt d (.slice an t cn) nw ∧ KeepI C c t st (6 + 16 * ((i + 1 : Nat) : Nat)) nw) := Lib.hid ⟨nw, HN.out.step HG.out, HK.out.len, fun x hx => by have := HK.out.bd x hx; omega, HK.out.dot⟩
              go_wp2_with fail
              go_roundw
              case rel => exact ⟨i + 1, an, cn, by go_num, rfl, by omega, HNN, HSN, HMN, HVN⟩
              case measure => simp [intOf]; omega
            | true =>
              have HNN : Hid (∃ nw, Vec wt d (.slice (some ⟨g, 0, none⟩) t c10) nw ∧ KeepI C c t st (6 + 16 * ((i + 1 : Nat) : Nat)) nw) := Lib.hid (by
                obtain ⟨L, hO, hA⟩ := HL.out
                have hk := HK.out.step HCL.out hjc hA (fun q hq => by
                  have hpq : q < ps.length := by have := HOK.out.1; omega
                  rw [HC.out, colP hpq]
                  have hql := HOK.out.2.2.2.2.2.2 _ (List.getElem_mem hpq)
                  have := mem_at (P := fun y => -16 ≤ y ∧ y ≤ 16) hql.2 (show j < ps[q].2.length by rw [hql.1]; exact hjc)
                  exact this.2) (HB.out rfl)
                have e : (6 + 16 * ((i + 1 : Nat) : Int)) = 6 + 16 * (i : Int) + 16 := by omega
                refine ⟨L, hO.vec (fun x hx => by have := hk.bd x hx; omega) HS.out.lt, ?_⟩
                rw [e]; exact hk)
              go_wp2_with fail
              go_roundw
              case rel => exact ⟨i + 1, some ⟨g, 0, none⟩, c10, by go_num, rfl, by omega, HNN, HSN, HMN, HVN⟩
              case measure => simp [intOf]; omega
      · obtain rfl : i = 8 := by omega
        have h3 : ¬ ((8 : Nat) : Int) < 8 := by omega
        obtain ⟨nw, hN, hK⟩ := HNW.out
        have HN := Lib.hid hN; have HK := Lib.hid hK
        clear hN hK HNW
        have HTW := Lib.hid (HT.out.same HS.out.2.1)
        go_wp2_with fail
        refine (allows_any HM.out.rows HOK.out (by omega) HTW.out HV.out.1 HSL.out (fun x hx => by have := HSP.out x hx; omega) HN.out.1 HK.out.len (fun x hx => by have := HK.out.bd x hx; omega) (fun y hy => HK.out.dot y (by rw [HC.out]; exact hy))).mono ?_
        rintro e w9 ⟨rfl, hg⟩
        replace HS := Lib.hid (HS.out.step hg); replace HM := Lib.hid (HM.out.step hg); replace HV := Lib.hid (HV.out.step hg); replace HN := Lib.hid (HN.out.step hg); replace HTW := Lib.hid (HTW.out.same hg)
        have HG := Lib.hid (grown_refl w9 none)
        clear hg
        go_wp2_with fail
        go_loopw [92] (fun p' wr => ∃ q : Nat, p' = .int .i64 q ∧ q ≤ r ∧ Hid (w9.grownBy wr none)) (fun p' _ => r - (intOf p').toNat)
        case atStart => exact ⟨0, rfl, Nat.zero_le _, HG⟩
        case round =>
          clear HG
          obtain ⟨q, rfl, hq, HG⟩ := hrel
          rename World => wt
          by_cases hqb : q < r
          · have h4 : (q : Int) < (r : Int) := by omega
            have i2 : IntKind.i64.wrap ((q : Int) + 1) = (q : Int) + 1 := IntWalk.i64_in _ (by omega)
            go_wp2_with fail
            refine (bound_any (HM.out.step HG.out).rows HOK.out (by omega) (HTW.out.same HG.out) (HV.out.step HG.out).1 HSL.out (fun x hx => by have := HSP.out x hx; omega) hqb).mono ?_
            rintro e w10 ⟨bv, ok, rfl, hA, -, hg⟩
            replace HG := Lib.hid (grown_trans HG.out hg)
            cases ok with
            | false =>
              clear hA hg
              go_wp2_with fail
              go_roundw
              case rel => exact ⟨q + 1, by go_num, by omega, HG⟩
              case measure => simp [intOf]; omega
            | true =>
              have hle : nw[q]?.getD 0 ≤ bv := bound_le HK.out (by rw [HC.out]; exact hA rfl)
              obtain ⟨_, _, hxv, -, -, hxc⟩ := (HN.out.step HG.out).1
              simp only [Value.slice.injEq] at hxv
              obtain ⟨rfl, -, rfl⟩ := hxv
              obtain ⟨bx, ox, rfl, hcx⟩ := Ints.at hxc (show q < nw.length by rw [HK.out.len]; exact hqb)
              generalize nw[q]?.getD 0 = x at *
              have q1 : decide (bv < x) = false := by simpa using hle
              clear hA hg hxc hle
              go_wp2_with fail
              clear hcx
              go_roundw
              case rel => exact ⟨q + 1, by go_num, by omega, HG⟩
              case measure => simp [intOf]; omega
          · obtain rfl : q = r := by omega
            have h4 : ¬ (q : Int) < (q : Int) := by omega
            go_wp2_with fail
            refine (rcheck10_any (HM.out.step HG.out).rows HOK.out).mono ?_
            rintro e w10 ⟨rfl, hg⟩
            replace HG := Lib.hid (grown_trans HG.out hg)
            clear hg
            go_wp2_with fail
            go_ret
            exact ⟨rfl, (HS.out.step HG.out).below⟩
  · go_enter Tryd.func6, Tryd.ntmps6
    go_wp2_with fail
    refine (awake11_any _ HT.out).mono ?_
    rintro e w1 ⟨rfl, hg⟩
    have HG := Lib.hid hg
    clear hg
    go_wp2_with fail
    refine (few_any _ _ _ _).mono ?_
    rintro e w2 ⟨rfl, rfl⟩
    rw [decide_eq_false (by omega)]
    go_wp2_with fail
    refine (awake11_any _ (HT.out.same HG.out)).mono ?_
    rintro e w3 ⟨rfl, hg⟩
    have HG := Lib.hid (grown_trans HG.out hg)
    clear hg
    go_wp2_with fail
    go_ret
    exact ⟨rfl, below_of HG.out⟩


/-! ### SemiflowKeeps: the statement and its card, from the walk -/
theorem contractSemiflowKeeps (H : Type) (enc : TypeId × Value → H) (W : World) (base : Nat) (args : Array Value) (ds gs : List (DataW H)) (before : List MemPlace)
    (hval0 : ∀ (j : Nat) t v, Tryd.f6.params[j]? = some t → args[j]? = some v → Value.okWide Tryd.prog W .any base t v)
    (hW : DataW.Whole enc Tryd.prog Tryd.f6.params.toList Rows.semiflowKeepsSpec.vars false W args.toList ds gs before) (hL : laidMetH Tryd.prog Rows.semiflowKeepsRow.laid W) :
    Calls Tryd.prog 6 args W fun e W' => ∃ v, e = .returned v ∧ Rows.semiflowKeepsSpec.post enc Tryd.prog Tryd.f6 false true false false W args v W' := by
  have hval : ∀ (j : Nat) t v, Tryd.f6.params[j]? = some t → args[j]? = some v → Value.okWide Tryd.prog W .any base t v := hval0
  have hW' := hW
  obtain ⟨p, q, hA0, hV, rfl, hfz, hnd⟩ := hW
  have hA : DataW.TrodAll enc Tryd.prog W 0 (fun _ => true) true Tryd.f6.params.toList args.toList ds p := hA0
  rw [Tryd.params6] at hA hval
  obtain ⟨v0, vs0, d0, ds0, p0, q0, hargs, rfl, rfl, h0, r0⟩ := trodAll_cons hA
  obtain ⟨rfl, rfl, rfl⟩ := trodAll_nil r0
  obtain rfl : args = #[v0] := by cases args; simp_all
  obtain ⟨rfl, rfl⟩ := trodVars_none hV
  obtain ⟨a0, len0, cap0, rfl⟩ := okWide_slice Tryd.underlying22 (hval 0 22 v0 rfl rfl)
  have k0 := h0
  have lt0 : ∀ x ∈ p0, x.block < W.heap.size := by obtain ⟨m, hm⟩ := k0; exact DataW.trod_lt m _ _ _ hm
  obtain ⟨z0, w0⟩ : ∃ zs, IsRow .i64 W a0 len0 cap0 zs := by
    obtain ⟨fuel, hf⟩ := h0
    rcases open_ints Tryd.underlying22 Tryd.underlying3 (by kernel_rfl) hf with ⟨hcs, _⟩ | ⟨x, l, c, zs, hcs, _, hl, hm, hz, _, hcell, hwz⟩
    · simp [Value.cells] at hcs
      obtain ⟨rfl, rfl, rfl⟩ := hcs
      exact ⟨[], .inl ⟨rfl, rfl, rfl, rfl⟩⟩
    · simp [Value.cells] at hcs
      obtain ⟨rfl, rfl, rfl⟩ := hcs
      exact ⟨zs, .inr ⟨_, rfl, hl, hm, by simpa using hz, hcell, hwz⟩⟩
  clear hA0 hval0
  refine (walkSemiflowKeeps a0 len0 cap0 z0 W w0 (tabW_of hL)).mono fun e W' ⟨he, bel⟩ => ?_
  subst he
  exact ⟨_, rfl, _, _, _, [], _, [], hW', trodAll_mk1 (shut_bool Tryd.underlying4 _), (trodAll_cons_mk (Below.trod laidOut (by kernel_rfl) (of_decide_eq_true (by kernel_rfl)) k0 bel lt0) trodAll_mk0), rfl, bel.frame _, fun h => by cases h⟩
theorem readsSemiflowKeeps (os : Os) {H : Type} (enc : TypeId × Value → H) : ∃ places, DataW.whole enc Tryd.prog ((laidWorld os).forCall (fun _ _ => 0) ⟨#[], #[.slice none 0 0], []⟩).memory Tryd.f6.params.toList Rows.semiflowKeepsSpec.vars false #[Value.slice none 0 0].toList 8 = some ([.nil], [], places) :=
  ⟨[], by kernel_rfl⟩
set_option maxRecDepth 100000 in
theorem liftedSemiflowKeeps (os : Os) (started : os.Started) (H : Type) (enc : TypeId × Value → H) (F : Stop.Interp) :
    ReturnsInHanded {} Tryd.checked os 6 .any ((OpenSpec.ofChange Rows.semiflowKeepsSpec).preRow enc Tryd.prog Tryd.f6 Rows.semiflowKeepsRow.domain false Rows.semiflowKeepsRow.laid) (((OpenSpec.ofChange Rows.semiflowKeepsSpec).at F).post enc Tryd.prog Tryd.f6 false true false false) := by
  obtain ⟨places, hx⟩ := readsSemiflowKeeps os enc
  refine returnsInHanded_of_row (C := Tryd.checked) (s := OpenSpec.ofChange Rows.semiflowKeepsSpec) ownK started (by kernel_rfl) Tryd.func6
    (witness_row_at (enc := enc) (C := Tryd.checked) false (laidWorld os) #[.slice none 0 0] rfl (by kernel_rfl) (by kernel_rfl) (by kernel_rfl)
      (OpenSpec.preRow_of_cond 8 hx (by kernel_rfl) (fun k hk => by cases hk) (by kernel_rfl) (laid_met os))) ?_
  intro W base args ds gs before hval hW _ _ _ hL _ _
  exact contractSemiflowKeeps H enc W base args ds gs before hval hW hL
theorem semiflowKeeps_said : Rows.SemiflowKeepsSaid :=
  OpenClaim.holds_of_cond 6 Tryd.f6 rfl rfl rfl rfl rfl rfl rfl ⟨rfl, rfl, rfl, rfl, rfl⟩ rfl rfl rfl rfl rfl (by kernel_rfl) Tryd.func6 (by kernel_rfl)
    (of_decide_eq_true (by kernel_rfl)) (by unfold Func.isWrapper; first | (rw [if_pos (by decide +kernel)]; kernel_rfl) | (rw [if_neg (by decide +kernel)]; exact ⟨rfl, rfl⟩))
    (fun os started H enc _ F => by rw [OpenClaim.pre_eq_preRow]; exact liftedSemiflowKeeps os started H enc F)
theorem plainSemiflowKeeps (f : FuncId) (fn : Func) (hf : Tryd.pinned.checked.prog.funcNamed "coverability/coverabilitylaw11.SemiflowKeeps" = some f) (hfn : Tryd.pinned.checked.prog.funcs[f]? = some fn) :
    false = Tryd.pinned.checked.prog.looks [] ∧ ∀ (j : Nat) t, fn.params[j]? = some t → Tryd.pinned.checked.prog.wantsStandIn t = false := by
  obtain rfl : f = 6 := Option.some.inj ((show Tryd.prog.funcNamed "coverability/coverabilitylaw11.SemiflowKeeps" = some 6 by kernel_rfl).symm.trans hf) |>.symm
  obtain rfl : fn = Tryd.f6 := (Option.some.inj (Tryd.func6.symm.trans hfn)).symm
  refine ⟨by kernel_rfl, fun j t ht => ?_⟩
  rw [Tryd.params6] at ht
  obtain rfl : t = 22 := by simpa using Array.mem_of_getElem? ht
  exact (show Tryd.prog.wantsStandIn 22 = false by kernel_rfl)
theorem semiflowKeeps_card : Rows.SemiflowKeepsCardSaid :=
  Claim7.holds_tied_plain_at .later [] _ _ _ _ semiflowKeeps_said (fun _ h => by cases h) (by kernel_rfl) (fun _ h => by cases h) semiflowKeeps_row_tie rfl ⟨rfl, rfl⟩ (by kernel_rfl) rfl plainSemiflowKeeps (by kernel_rfl)
#print axioms semiflowKeeps_card
end Go.Proofs.YtpnghgihepnepaaDoor
