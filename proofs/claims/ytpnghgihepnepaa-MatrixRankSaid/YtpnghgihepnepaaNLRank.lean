/- MatrixRank: for every input it answers true. -/
import Derived.Test.YtpnghgihepnepaaNl
import Derived.Test.YtpnghgihepnepaaBf
import Derived.Outline
import Derived.BigRegion
import Derived.Deep.RegionHeld3
namespace Go.Proofs.Ytpnghgihepnepaa
open Go.ChangeShapes Go.WideShapes Go.ChangeAt Go.RowKit
set_option linter.unusedVariables false

set_option maxRecDepth 100000 in
set_option maxHeartbeats 2000000 in
theorem walkMatrixRank (a0 : Option Addr) (len0 cap0 : Nat) (z0 : List Int) (w : World) (w0 : IsRow .i64 w a0 len0 cap0 z0) :
    Calls Try.prog 5 #[.slice a0 len0 cap0] w fun e w' => e = .returned (.bool true) ∧ Below w.heap.size w w' := by
  obtain ⟨hI, hlen⟩ := w0.ints
  generalize z0.take len0 = zs at hI hlen
  subst hlen
  have HI := Lib.hid hI
  clear hI w0
  by_cases hfew : (zs.length : Int) ≤ 400
  · go_enter Try.func5, Try.ntmps5
    go_wp2_with fail
    refine (awake10_any _).mono ?_
    rintro e w1 ⟨rfl, hg⟩
    have HG := Lib.hid hg
    clear hg
    go_wp2_with fail
    refine (few_any _ _ _ _).mono ?_
    rintro e w2 ⟨rfl, rfl⟩
    rw [decide_eq_true hfew]
    go_wp2_with fail
    refine (new_st (HI.out.same HG.out) HG.out).mono ?_
    rintro e w3 ⟨p, d, rfl, hs⟩
    have HS := Lib.hid hs
    clear hs HG HI
    go_wp2_with fail
    refine (next_st HS.out _ (by omega) (by omega)).mono ?_
    rintro e w4 ⟨y, rfl, hy0, hy1, hs, hg⟩
    replace HS := Lib.hid hs
    clear hs hg
    obtain ⟨r, hr⟩ : ∃ r : Nat, 2 + y = (r : Int) := ⟨(2 + y).toNat, by omega⟩
    have hr1 : 2 ≤ r := by omega
    have hr2 : r ≤ 4 := by omega
    have ir : IntKind.i64.wrap (2 + y) = (r : Int) := by rw [hr]; exact IntWalk.i64_in _ (by omega)
    clear hr hy0 hy1
    go_wp2_with fail
    refine (next_st HS.out _ (by omega) (by omega)).mono ?_
    rintro e w5 ⟨y, rfl, hy0, hy1, hs, hg⟩
    replace HS := Lib.hid hs
    clear hs hg
    obtain ⟨c, hc⟩ : ∃ c : Nat, 1 + y = (c : Int) := ⟨(1 + y).toNat, by omega⟩
    have hc1 : 1 ≤ c := by omega
    have hc2 : c ≤ 4 := by omega
    have ic : IntKind.i64.wrap (1 + y) = (c : Int) := by rw [hc]; exact IntWalk.i64_in _ (by omega)
    clear hc hy0 hy1
    go_wp2_with fail
    clear ir ic
    refine (matrix_st HS.out r c (by omega) (by omega)).mono ?_
    rintro e w6 ⟨vm, ps0, rfl, hpl, hdm, hM, hs, hg⟩
    have HMvm := Lib.hid (MatD.mk HS.out hM)
    replace HS := Lib.hid hs; have HOKvm := Lib.hid (dealt_ok hpl hdm (by omega) (by omega) hc1 (by omega) (by omega))
    clear hpl hdm hM hs hg
    obtain ⟨bM, hdM, hMM⟩ := HMvm.out
    obtain ⟨gM, cM, rfl, -⟩ := hMM.head (by have := HOKvm.out.1; omega)
    have HM0 : Hid (∃ ps, MatO w6 bM (.slice (some ⟨gM, 0, none⟩) r cM) ps ∧ ClampR 3 r c 0 0 ps) := Lib.hid ⟨ps0, by have e := HOKvm.out.1; rw [e] at hMM; exact hMM, ClampR.start HOKvm.out⟩
    have HPL := Lib.hid HOKvm.out.1
    have epl := HPL.out
    rw [epl]
    clear hMM HMvm HOKvm epl HPL
    go_wp2_with fail
    go_loopw [42] (fun i wr => ∃ i' : Nat, i = .int .i64 i' ∧ i' ≤ r ∧ Hid (∃ ps, MatO wr bM (.slice (some ⟨gM, 0, none⟩) r cM) ps ∧ ClampR 3 r c i' 0 ps) ∧ Hid (St w wr p d)) (fun i _ => r - (intOf i).toNat)
    case atStart => exact ⟨0, rfl, Nat.zero_le _, HM0, HS⟩
    case round =>
      clear HM0 HS
      obtain ⟨i, rfl, hi, HM, HS⟩ := hrel
      rename World => wk
      by_cases hib : i < r
      · have h3 : (i : Int) < (r : Int) := by omega
        have i1 : IntKind.i64.wrap ((i : Int) + 1) = (i : Int) + 1 := IntWalk.i64_in _ (by omega)
        have hci : ∃ b cb, wk.cell? ⟨gM, i, none⟩ = some (.slice (some ⟨b, 0, none⟩) c cb) := by
          obtain ⟨ps, h1, h2⟩ := HM.out
          have hl : i < ps.length := by have := h2.len; omega
          have hw := h2.wid _ (List.getElem_mem hl)
          obtain ⟨b, cb, hb, -⟩ := h1.row hl (by omega)
          have := (h1.own.cell i hl).1
          rw [hb, hw] at this
          exact ⟨b, cb, this⟩
        obtain ⟨b, cb, hcb⟩ := hci
        go_wp2_with fail
        clear hcb
        go_loopw [50] (fun i' wr => ∃ k : Nat, i' = .int .i64 k ∧ k ≤ c ∧ Hid (∃ ps, MatO wr bM (.slice (some ⟨gM, 0, none⟩) r cM) ps ∧ ClampR 3 r c i k ps) ∧ Hid (St w wr p d)) (fun i _ => c - (intOf i).toNat)
        case atStart => exact ⟨0, rfl, Nat.zero_le _, HM, HS⟩
        case round =>
          clear HM HS
          obtain ⟨k, rfl, hk, HM, HS⟩ := hrel
          rename World => wt
          by_cases hkb : k < c
          · have h4 : (k : Int) < (c : Int) := by omega
            have i2 : IntKind.i64.wrap ((k : Int) + 1) = (k : Int) + 1 := IntWalk.i64_in _ (by omega)
            obtain ⟨ps, hM, hC⟩ := HM.out
            have hl : i < ps.length := by have := hC.len; omega
            have hw := hC.wid _ (List.getElem_mem hl)
            obtain ⟨b, cb, hb, hbb⟩ := hM.row hl (by omega)
            have HD := Lib.hid (hM.same (grown_drew wt none))
            have hci := (HD.out.own.cell i hl).1
            rw [hb, hw] at hci
            rw [hw] at hb
            have hcx := HD.out.cell hl hb (show k < ps[i].2.length by omega)
            have hcx1 := hcx.1; have hcx2 := hcx.2
            have hset := HD.out.set hl hb k
            have hput := hC.put hl hkb
            generalize hx : ps[i].2[k]?.getD 0 = x at *
            have HZ : Hid (-3 ≤ min 3 (max (-3) x) ∧ min 3 (max (-3) x) ≤ 3) := Lib.hid (by omega)
            generalize hz : min 3 (max (-3) x) = z at *
            have HN : Hid (∃ ps, MatO (wt.drew.setCell ⟨b, k, none⟩ (.int .i64 z)) bM (.slice (some ⟨gM, 0, none⟩) r cM) ps ∧ ClampR 3 r c i (k + 1) ps) := Lib.hid ⟨_, hset z (by have := HZ.out; omega), hput z (by have := HZ.out; omega) (by omega)⟩
            have HSN : Hid (St w (wt.drew.setCell ⟨b, k, none⟩ (.int .i64 z)) p d) := Lib.hid ((HS.out.step (grown_drew wt none)).put (grown_set _ _ _) (by show d < b; omega))
            clear hM hC hl hw hb hbb hcx hset hput hx HM HS HD
            go_wp2_with fail
            go_still_tail 15, (by kernel_rfl)
            change wpList _ _ _ _ _ wt.drew
            generalize wt.drew = wd at *
            go_wp2_with fail
            clear hci hcx1 hcx2
            go_roundw
            case rel => exact ⟨k + 1, by go_num, by omega, HN, HSN⟩
            case measure => simp [intOf]; omega
          · obtain rfl : k = c := by omega
            have h4 : ¬ (k : Int) < (k : Int) := by omega
            have HN : Hid (∃ ps, MatO wt bM (.slice (some ⟨gM, 0, none⟩) r cM) ps ∧ ClampR 3 r k (i + 1) 0 ps) := Lib.hid (by obtain ⟨ps, h1, h2⟩ := HM.out; exact ⟨ps, h1, h2.next⟩)
            go_wp2_with fail
            go_roundw
            case rel => exact ⟨i + 1, by go_num, by omega, HN, HS⟩
            case measure => simp [intOf]; omega
      · obtain rfl : i = r := by omega
        have h3 : ¬ (i : Int) < (i : Int) := by omega
        obtain ⟨ps, hMM, hC⟩ := HM.out
        have HMM := Lib.hid hMM; have H3 := Lib.hid hC.done; have HOK := Lib.hid (hC.ok (by omega) (by omega) hc1 (by omega) (by omega))
        have HPL := Lib.hid hC.len
        clear hMM hC HM
        obtain ⟨vm, hvm⟩ : ∃ vm, vm = Value.slice (some ⟨gM, 0, none⟩) i cM := ⟨_, rfl⟩
        have HROWS := Lib.hid HMM.out.rowsP
        have HWD : Hid (∀ x ∈ ps.map Prod.snd, x.length = c) := Lib.hid (fun x hx => by
          obtain ⟨q, hq, rfl⟩ := List.mem_map.1 hx
          exact (HOK.out.2.2.2.2.2.2 q hq).1)
        have HFIT : Hid (RedFit ps c) := Lib.hid (redFit_any (fun q hq => (HOK.out.2.2.2.2.2.2 q hq).1) (fun q hq => (HOK.out.2.2.2.2.2.2 q hq).2) (by have := HOK.out.1; omega))
        clear hvm
        go_wp2_with fail
        refine (Transpose_any HROWS.out HOK.out).mono ?_
        rintro e w7 ⟨vt, ts, rfl, hT, hts, hg⟩
        obtain ⟨at', ct', rfl⟩ := hT.slice
        have HT := Lib.hid hT; have HTS := Lib.hid hts; replace HMM := Lib.hid (HMM.out.same hg); replace HS := Lib.hid (HS.out.step hg)
        have HTOK := Lib.hid (turn_ok HOK.out hts)
        have etl : ts.length = c := by
          have := congrArg List.length hts
          unfold turnL at this
          simpa using this
        have HTL := Lib.hid etl
        rw [etl]
        clear hT hts hg etl
        go_wp2_with fail
        refine (Rank_any HMM.out.rowsP HOK.out HFIT.out).mono ?_
        rintro e w8 ⟨qs, hq, rfl, hg⟩
        have HR1 := Lib.hid (RankIs.mk hq HWD.out)
        generalize (redN (qs, [], 1) c).2.1.length = n1 at *
        replace HMM := Lib.hid (HMM.out.same hg); replace HS := Lib.hid (HS.out.step hg); replace HT := Lib.hid (HT.out.same hg)
        clear hq hg
        have HTW : Hid (∀ x ∈ ts.map Prod.snd, x.length = i) := Lib.hid (fun x hx => by
          obtain ⟨q, hq, rfl⟩ := List.mem_map.1 hx
          exact (HTOK.out.2.2.2.2.2.2 q hq).1)
        have HTF : Hid (RedFit ts i) := Lib.hid (redFit_any (fun q hq => (HTOK.out.2.2.2.2.2.2 q hq).1) (fun q hq => (HTOK.out.2.2.2.2.2.2 q hq).2) (by have := HTOK.out.1; omega))
        go_wp2_with fail
        refine (Rank_any (by have := HT.out.rowsP; rw [HTL.out] at this; exact this) HTOK.out HTF.out).mono ?_
        rintro e w9 ⟨qs, hq, rfl, hg⟩
        have HR2 := Lib.hid (RankIs.mk hq HTW.out)
        have HTT : Hid (Turned (ps.map Prod.snd) (ts.map Prod.snd) i c) := Lib.hid (by
          have := turn_turned ps c
          rw [HPL.out] at this
          rw [HTS.out]; exact this)
        have e2 : (redN (qs, [], 1) i).2.1.length = n1 := (HR1.out.turned HR2.out HTT.out).symm
        rw [e2]
        replace HMM := Lib.hid (HMM.out.same hg); replace HS := Lib.hid (HS.out.step hg)
        clear hq hg e2 HR2 HTT HTF HTW HT HTOK HTS HTL HROWS
        -- the first two rows
        have hp0 : 0 < ps.length := by have := HPL.out; omega
        have hp1 : 1 < ps.length := by have := HPL.out; omega
        have hw0 := (HOK.out.2.2.2.2.2.2 _ (List.getElem_mem hp0)).1
        have hw1 := (HOK.out.2.2.2.2.2.2 _ (List.getElem_mem hp1)).1
        obtain ⟨b0, c0, hb0, -⟩ := HMM.out.row hp0 (by omega)
        obtain ⟨b1, c1, hb1, -⟩ := HMM.out.row hp1 (by omega)
        have hr0 := (HMM.out.own.cell 0 hp0).1
        have hr1c := (HMM.out.own.cell 1 hp1).1
        have HC0 : Hid (∀ t, t < ps[0].2.length → w9.cell? ⟨b0, t, none⟩ = some (.int .i64 (ps[0].2[t]?.getD 0))) := Lib.hid (fun t ht => (HMM.out.cell hp0 hb0 ht).1)
        have HC1 : Hid (∀ t, t < ps[1].2.length → w9.cell? ⟨b1, t, none⟩ = some (.int .i64 (ps[1].2[t]?.getD 0))) := Lib.hid (fun t ht => (HMM.out.cell hp1 hb1 ht).1)
        rw [hb0, hw0] at hr0
        rw [hb1, hw1] at hr1c
        have HB0 := Lib.hid (H3.out _ (List.getElem_mem hp0)); have HB1 := Lib.hid (H3.out _ (List.getElem_mem hp1))
        have HW0 := Lib.hid hw0; have HWQ := Lib.hid hw1; have HW1 := Lib.hid hw1
        have HE0 : Hid (ps[0].2 ∈ ps.map Prod.snd) := Lib.hid (List.mem_map_of_mem (List.getElem_mem hp0))
        have HE1 : Hid (ps[1].2 ∈ ps.map Prod.snd) := Lib.hid (List.mem_map_of_mem (List.getElem_mem hp1))
        have HS1 : Hid (∃ t, t ≠ 0 ∧ t < ps.length ∧ (ps.map Prod.snd)[t]? = some ps[1].2) := Lib.hid ⟨1, by omega, hp1, by rw [List.getElem?_map, List.getElem?_eq_getElem hp1]; rfl⟩
        have HS0 : Hid ((ps.map Prod.snd)[0]? = some ps[0].2) := Lib.hid (by rw [List.getElem?_map, List.getElem?_eq_getElem hp0]; rfl)
        generalize ps[0].2 = x0 at *
        generalize ps[1].2 = x1 at *
        have HR0 := Lib.hid hr0; have HR1c := Lib.hid hr1c
        clear hw0 hw1 hb0 hb1 hr1c
        go_wp2_with fail
        have HG9 := Lib.hid (grown_refl w9 none)
        clear hr0
        go_loopw [89, 14] (fun t o wr => ∃ k : Nat, t = .int .i64 k ∧ k ≤ c ∧ Hid (OwnI wr w9.heap.size o ((sum2 x0 x1).take k)) ∧ Hid (w9.grownBy wr none)) (fun t _ _ => c - (intOf t).toNat)
        case atStart => exact ⟨0, rfl, Nat.zero_le _, Lib.hid (by simpa using OwnI.nil _ _), HG9⟩
        case round =>
          clear HG9
          obtain ⟨k, rfl, hk, hO, hG⟩ := hrel
          rename World => wt
          by_cases hkb : k < c
          · have h4 : (k : Int) < (c : Int) := by omega
            have i2 : IntKind.i64.wrap ((k : Int) + 1) = (k : Int) + 1 := IntWalk.i64_in _ (by omega)
            have hk0 : k < x0.length := by have := HW0.out; omega
            have hk1 : k < x1.length := by have := HW1.out; omega
            have GD := Lib.hid (grown_trans hG.out (grown_drew wt none))
            have hcu := GD.out.cell (HC0.out k hk0) (by simp)
            have hcv := GD.out.cell (HC1.out k hk1) (by simp)
            have hru := GD.out.cell HR0.out (by simp)
            have hrv := GD.out.cell HR1c.out (by simp)
            have b1 := mem_at (P := fun y => -3 ≤ y ∧ y ≤ 3) HB0.out hk0
            have b2 := mem_at (P := fun y => -3 ≤ y ∧ y ≤ 3) HB1.out hk1
            have HN : Hid ((sum2 x0 x1).take k ++ [x0[k]?.getD 0 + 2 * x1[k]?.getD 0] = (sum2 x0 x1).take (k + 1)) := Lib.hid (sum2_next hk0 hk1)
            generalize x0[k]?.getD 0 = x at *
            generalize x1[k]?.getD 0 = y at *
            have m1 : IntKind.i64.wrap (2 * y) = 2 * y := IntWalk.i64_in _ (by omega)
            have m2 : IntKind.i64.wrap (x + 2 * y) = x + 2 * y := IntWalk.i64_in _ (by omega)
            have HKL : Hid (((sum2 x0 x1).take k).length ≤ 1000000000000) := Lib.hid (by have := List.length_take_le k (sum2 x0 x1); omega)
            clear b1 b2 hk0 hk1
            have z0 : 0 < i := by omega
            have z1 : (1 : Int) < (i : Int) := by omega
            go_wp2_with fail
            go_region_law (refine step_app_int rfl _ _ rfl w9.heap.size _ _ rfl (hO.out.kept (grown_trans (World.grownBy_alloc _ _ none) (grown_drew _ none)) (by simp)) wt.heap.size (x + 2 * y) rfl (cell_new_drew rfl) HKL.out (by have := hG.out.size; simp; omega) ?_; intro v' w9' ho2 hg2; have HO9 := Lib.hid ho2; have HG9 := Lib.hid (grown_then (grown_trans hG.out (grown_trans (World.grownBy_alloc _ _ none) (grown_drew _ none))) hg2 (fun j hj => .inl (hO.out.fresh j hj).1)); clear ho2 hg2)
            all_goals
              go_wp2_with fail
              go_roundw
              case rel => exact ⟨k + 1, by go_num, by omega, Lib.hid (by rw [← HN.out]; exact HO9.out), HG9⟩
              case measure => simp [intOf]; omega
          · obtain rfl : k = c := by omega
            have h4 : ¬ (k : Int) < (k : Int) := by omega
            have hO2 := hO.out
            have HSL : Hid ((sum2 x0 x1).length = k) := Lib.hid (by unfold sum2; rw [List.length_zipWith, HW0.out, HW1.out, Nat.min_self])
            rw [List.take_of_length_le (by rw [HSL.out]; exact Nat.le_refl _)] at hO2
            have HSB : Hid (∀ y ∈ sum2 x0 x1, -9 ≤ y ∧ y ≤ 9) := Lib.hid (sum2_bd HB0.out HB1.out)
            obtain ⟨aS, cS, rfl⟩ := ownI_sl' hO2
            have es : (sum2 x0 x1).length = k := HSL.out
            have HVS : Hid (OwnI wt w9.heap.size (.slice aS k cS) (sum2 x0 x1)) := Lib.hid (by rw [es] at hO2; exact hO2)
            rw [es]
            replace HMM := Lib.hid (HMM.out.same hG.out); replace HS := Lib.hid (HS.out.step hG.out); replace HR0 := Lib.hid (hG.out.cell HR0.out (by simp))
            have HSUM : Hid (InSp (ps.map Prod.snd) (fun j => (sum2 x0 x1)[j]?.getD 0)) := Lib.hid (sum2_sp HE0.out HE1.out (by rw [HW0.out, HW1.out]))
            clear hO hO2 hG es
            have HPR := Lib.hid HMM.out.rowsP
            have HVR : Hid (RowOk wt (.slice aS k cS, sum2 x0 x1)) := Lib.hid (HVS.out.row (fun x hx => by have := HSB.out x hx; omega))
            have HVF : Hid (∀ g, (Value.slice aS k cS).ownBlock = some g → g < wt.heap.size) := Lib.hid (fun g hg => (HVS.out.fresh g hg).2)
            have HSQ : Hid ((sum2 x0 x1).length = k ∧ ∀ x ∈ sum2 x0 x1, -16 ≤ x ∧ x ≤ 16) := Lib.hid ⟨HSL.out, fun x hx => by have := HSB.out x hx; omega⟩
            have hp4 : ps.length ≤ 4 := by have := HPL.out; omega
            generalize hsm : sum2 x0 x1 = sm at *
            have HSM := Lib.hid hsm
            clear hp0 hp1 HVS hsm HSL
            go_wp2_with (at_builtin; refine app_all rfl _ _ rfl wt.heap.size (.slice none 0 0) [] rfl (OwnP.nil _ _) (.slice (some ⟨gM, 0, none⟩) i cM) ps rfl HPR.out (nil_far ps) (by simp; omega) (Nat.le_refl _) ?_)
            intro a1 n1' cc1 wa hn1 ho1 hg1
            have en1 : n1' = i := by rw [hn1]; simpa using HPL.out
            subst en1
            have HO1 := Lib.hid ho1; have HGA := Lib.hid hg1
            clear hn1 ho1 hg1
            go_wp2_with (at_builtin; refine app_row rfl _ _ rfl wt.heap.size (.slice a1 n1' cc1) ps rfl (HO1.out.same (World.grownBy_alloc _ _ none)) wa.heap.size (.slice aS k cS, sm) rfl (cell_new rfl) ((HVR.out.same HGA.out).same (World.grownBy_alloc _ _ none)) (fun g hg e => by have := HVF.out g hg; have := (HO1.out.fresh g e).1; omega) (by omega) (Nat.le_trans HGA.out.size (World.grownBy_alloc _ _ none).size) ?_)
            intro v2 wb ho2 hg2
            have HGB : Hid (wt.grownBy wb none) := Lib.hid (grown_then (grown_trans HGA.out (World.grownBy_alloc _ _ none)) hg2 (fun j hj => .inl (HO1.out.fresh j hj).1))
            obtain ⟨a2, cc2, rfl⟩ := ho2.slice
            have el : (ps ++ [(Value.slice aS k cS, sm)]).length = n1' + 1 := by rw [List.length_append, HPL.out]; rfl
            have HO2 : Hid (RowsP wb (.slice a2 (n1' + 1) cc2) (ps ++ [(Value.slice aS k cS, sm)])) := Lib.hid (by have := ho2.rows; rw [el] at this; exact this)
            rw [el]
            have HOK1 : Hid (MatOkP (n1' + 1) k (ps ++ [(.slice aS k cS, sm)])) := Lib.hid ⟨by rw [List.length_append, HPL.out]; rfl, by omega, by omega, hc1, by omega, by omega, fun q hq => by
              rcases List.mem_append.1 hq with hq | hq
              · exact HOK.out.2.2.2.2.2.2 q hq
              · rw [List.mem_singleton.1 hq]; exact HSQ.out⟩
            have HW1 : Hid (∀ x ∈ (ps ++ [(Value.slice aS k cS, sm)]).map Prod.snd, x.length = k) := Lib.hid (fun x hx => by
              obtain ⟨q, hq, rfl⟩ := List.mem_map.1 hx
              exact (HOK1.out.2.2.2.2.2.2 q hq).1)
            have HF1 : Hid (RedFit (ps ++ [(Value.slice aS k cS, sm)]) k) := Lib.hid (redFit_any (fun q hq => (HOK1.out.2.2.2.2.2.2 q hq).1) (fun q hq => (HOK1.out.2.2.2.2.2.2 q hq).2) (by have := HOK1.out.1; omega))
            clear ho2 hg2 el
            go_wp2_with fail
            refine (Rank_any HO2.out HOK1.out HF1.out).mono ?_
            rintro e wc ⟨qs, hq, rfl, hg⟩
            have e3 : (redN (qs, [], 1) k).2.1.length = n1 := by
              have h1 := RankIs.mk hq HW1.out
              rw [List.map_append] at h1
              exact rank_more HSUM.out HR1.out h1
            rw [e3]
            have HGC := Lib.hid (grown_trans HGB.out hg)
            clear hq hg e3 HO1 HGA HGB HO2 HOK1 HW1 HF1
            have HPC := Lib.hid (HPR.out.same HGC.out); have HVC := Lib.hid (HVR.out.same HGC.out)
            have HVF2 : Hid (∀ g, (Value.slice aS k cS).ownBlock = some g → g < wc.heap.size) := Lib.hid (fun g hg => by have := HVF.out g hg; have := HGC.out.size; omega)
            go_wp2_with (at_builtin; refine app_all rfl _ _ rfl wc.heap.size (.slice none 0 0) [] rfl (OwnP.nil _ _) (.slice (some ⟨gM, 0, none⟩) n1' cM) ps rfl HPC.out (nil_far ps) (by simp; omega) (Nat.le_refl _) ?_)
            intro a3 n3 cc3 wd hn3 ho3 hg3
            have en3 : n3 = n1' := by rw [hn3]; simpa using HPL.out
            rw [en3] at ho3 ⊢
            clear hn3 en3
            have hp0 : 0 < ps.length := by have := HPL.out; omega
            obtain ⟨gu, cu, hvu⟩ : ∃ gu cu, Value.slice a3 n1' cc3 = .slice (some ⟨gu, 0, none⟩) n1' cu := by
              rcases ho3.1.2 with ⟨hv, h0⟩ | ⟨g, cap, cur, hv, -⟩
              · omega
              · rw [HPL.out] at hv; exact ⟨g, cap, hv⟩
            simp only [Value.slice.injEq] at hvu
            obtain ⟨rfl, -, rfl⟩ := hvu
            have hgu := (ho3.fresh gu rfl).1
            have hcz := ho3.cell 0 hp0
            have hcz2 := hcz.2
            obtain ⟨zz, hcz1⟩ : ∃ z, wd.cell? ⟨gu, 0, none⟩ = some z := ⟨_, hcz.1⟩
            have HO4 := Lib.hid (ho3.stored 0 (.slice aS k cS, sm) (HVC.out.same hg3) (fun j hj => by have := HVF2.out j hj; omega))
            have HG4 : Hid (wt.grownBy (wd.setCell ⟨gu, 0, none⟩ (.slice aS k cS)) none) := Lib.hid (grown_then (grown_trans HGC.out (grown_trans hg3 (grown_refl _ _))) (grown_set _ _ _) (by rintro j ⟨⟩; have := HGC.out.size; exact .inl (by show wt.heap.size ≤ gu; omega)))
            have HOK2 : Hid (MatOkP n1' k (ps.set 0 (.slice aS k cS, sm))) := Lib.hid ⟨by rw [List.length_set]; exact HPL.out, by omega, by omega, hc1, by omega, by omega, fun q hq => by
              rcases List.mem_or_eq_of_mem_set hq with hq | rfl
              · exact HOK.out.2.2.2.2.2.2 q hq
              · exact HSQ.out⟩
            have HW2 : Hid (∀ x ∈ (ps.set 0 (Value.slice aS k cS, sm)).map Prod.snd, x.length = k) := Lib.hid (fun x hx => by
              obtain ⟨q, hq, rfl⟩ := List.mem_map.1 hx
              exact (HOK2.out.2.2.2.2.2.2 q hq).1)
            have HF2 : Hid (RedFit (ps.set 0 (Value.slice aS k cS, sm)) k) := Lib.hid (redFit_any (fun q hq => (HOK2.out.2.2.2.2.2.2 q hq).1) (fun q hq => (HOK2.out.2.2.2.2.2.2 q hq).2) (by have := HOK2.out.1; omega))
            have z0 : 0 < n1' := by omega
            clear ho3 hg3 hp0 hgu hcz
            go_wp2_with fail
            clear hcz1 hcz2
            refine (Rank_any HO4.out.rows HOK2.out HF2.out).mono ?_
            rintro e we ⟨qs, hq, rfl, hg⟩
            have e4 : (redN (qs, [], 1) k).2.1.length = n1 := by
              have h1 := RankIs.mk hq HW2.out
              rw [List.map_set] at h1
              have e5 := HSM.out
              subst e5
              exact rank_other (by rw [HW0.out, HWQ.out]) HS0.out (by obtain ⟨t, h2, h3, h4⟩ := HS1.out; exact ⟨t, h2, by rw [List.length_map]; exact h3, h4⟩) HR1.out h1
            rw [e4]
            have HGE := Lib.hid (grown_trans HG4.out hg)
            have hn1c : n1 ≤ k := HR1.out.bd.1
            have hn1r : n1 ≤ n1' := by have := HR1.out.bd.2; rw [List.length_map, HPL.out] at this; exact this
            have hcf := HGE.out.cell (HR0.out) (by simp)
            clear hq hg e4 HO4 HG4 HOK2 HW2 HF2 HPC HVC
            have t1 : (n1 : Int) ≤ min (n1' : Int) (k : Int) := by omega
            have t2 : ((n1 : Int) == (n1 : Int)) = true := by simp
            go_wp2_with fail
            go_ret
            exact ⟨rfl, (HS.out.step HGE.out).below⟩
  · go_enter Try.func5, Try.ntmps5
    go_wp2_with fail
    refine (awake10_any _).mono ?_
    rintro e w1 ⟨rfl, hg⟩
    have HG := Lib.hid hg
    clear hg
    go_wp2_with fail
    refine (few_any _ _ _ _).mono ?_
    rintro e w2 ⟨rfl, rfl⟩
    rw [decide_eq_false (by omega)]
    go_wp2_with fail
    refine (awake10_any _).mono ?_
    rintro e w3 ⟨rfl, hg⟩
    have HG := Lib.hid (grown_trans HG.out hg)
    clear hg
    go_wp2_with fail
    go_ret
    exact ⟨rfl, below_of HG.out⟩

/-! ### MatrixRank: the statement, from its walk -/
set_option maxRecDepth 100000 in
theorem liftedMatrixRank (os : Os) (started : os.Started) (H : Type) (enc : TypeId × Value → H) :
    ReturnsInHanded {} Try.checked os 5 .any (Rows.matrixRankSpec.pre6 enc Try.prog Try.f5 Rows.matrixRankRow.domain false) (Rows.matrixRankSpec.post enc Try.prog Try.f5 false true false false) := by
  refine returnsInHanded_of_change (C := Try.checked) own started (by kernel_rfl) Try.func5
    (ChangeSpec.witness6 (enc := enc) (C := Try.checked) false ⟨#[], #[.slice none 0 0], []⟩ 8 (by kernel_rfl) (by kernel_rfl) (by kernel_rfl) (by kernel_rfl)) ?_
  intro W base args ds gs before hval0 hW hcnd _
  have hval : ∀ (j : Nat) t v, Try.f5.params[j]? = some t → args[j]? = some v → Value.okWide Try.prog W .any base t v := hval0
  have hW' := hW
  obtain ⟨p, q, hA0, hV, rfl, hfz, hnd⟩ := hW
  have hA : DataW.TrodAll enc Try.prog W 0 (fun _ => true) true Try.f5.params.toList args.toList ds p := hA0
  rw [Try.params5] at hA hval
  obtain ⟨v0, vs0, d0, ds0, p0, q0, hargs, rfl, rfl, h0, r0⟩ := trodAll_cons hA
  obtain ⟨rfl, rfl, rfl⟩ := trodAll_nil r0
  obtain rfl : args = #[v0] := by cases args; simp_all
  obtain ⟨rfl, rfl⟩ := trodVars_none hV
  obtain ⟨a0, len0, cap0, rfl⟩ := okWide_slice Try.underlying22 (hval 0 22 v0 rfl rfl)
  have k0 := h0
  have lt0 : ∀ x ∈ p0, x.block < W.heap.size := by obtain ⟨m, hm⟩ := k0; exact DataW.trod_lt m _ _ _ hm
  obtain ⟨z0, w0⟩ : ∃ zs, IsRow .i64 W a0 len0 cap0 zs := by
    obtain ⟨fuel, hf⟩ := h0
    rcases open_ints Try.underlying22 Try.underlying3 (by kernel_rfl) hf with ⟨hcs, _⟩ | ⟨x, l, c, zs, hcs, _, hl, hm, hz, _, hcell, hwz⟩
    · simp [Value.cells] at hcs
      obtain ⟨rfl, rfl, rfl⟩ := hcs
      exact ⟨[], .inl ⟨rfl, rfl, rfl, rfl⟩⟩
    · simp [Value.cells] at hcs
      obtain ⟨rfl, rfl, rfl⟩ := hcs
      exact ⟨zs, .inr ⟨_, rfl, hl, hm, by simpa using hz, hcell, hwz⟩⟩
  clear hA0 hval0
  refine (walkMatrixRank a0 len0 cap0 z0 W w0).mono fun e W' ⟨he, bel⟩ => ?_
  subst he
  exact ⟨_, rfl, _, _, _, [], _, [], hW', trodAll_mk1 (shut_bool Try.underlying4 _), (trodAll_cons_mk (Below.trod laidOut (by kernel_rfl) (of_decide_eq_true (by kernel_rfl)) k0 bel lt0) trodAll_mk0), rfl, bel.frame _, fun h => by cases h⟩

theorem matrixRank_holds : Rows.MatrixRankSaid :=
  OpenClaim.holds_of_wide 5 Try.f5 rfl rfl rfl rfl rfl rfl rfl ⟨rfl, rfl, rfl, rfl, rfl⟩ rfl rfl rfl rfl rfl (by kernel_rfl) Try.func5 (by kernel_rfl)
    (of_decide_eq_true (by kernel_rfl)) (by unfold Func.isWrapper; first | (rw [if_pos (by decide +kernel)]; kernel_rfl) | (rw [if_neg (by decide +kernel)]; exact ⟨rfl, rfl⟩))
    (fun os started H enc _ => liftedMatrixRank os started H enc)
#print axioms matrixRank_holds
end Go.Proofs.Ytpnghgihepnepaa
