/- SemiflowHolds: for every input it answers true. -/
import Derived.Test.YtpnghgihepnepaaDoorDe
import Derived.Test.YtpnghgihepnepaaDoorGr
import Derived.Test.YtpnghgihepnepaaDoorDt
import Derived.Test.YtpnghgihepnepaaDoorCards
import Derived.Test.YtpnghgihepnepaaDoorTie
import Derived.StillTailTactics
import Derived.Outline
import Derived.BigRegion
import Derived.Deep.RegionHeld3
namespace Go.Proofs.YtpnghgihepnepaaDoor
open Go.ChangeShapes Go.WideShapes Go.ChangeAt Go.RowKit
set_option linter.unusedVariables false

set_option maxRecDepth 100000 in
set_option maxHeartbeats 2000000 in
theorem walkSemiflowHolds (a0 : Option Addr) (len0 cap0 : Nat) (z0 : List Int) (w : World) (w0 : IsRow .i64 w a0 len0 cap0 z0) (hT : TabW w) :
    Calls Tryd.prog 4 #[.slice a0 len0 cap0] w fun e w' => e = .returned (.bool true) ∧ Below w.heap.size w w' := by
  obtain ⟨hI, hlen⟩ := w0.ints
  generalize z0.take len0 = zs at hI hlen
  subst hlen
  have HI := Lib.hid hI; have HT := Lib.hid hT
  clear hI w0 hT
  by_cases hfew : (zs.length : Int) ≤ 400
  · go_enter Tryd.func4, Tryd.ntmps4
    go_wp2_with fail
    refine (awake11_any _ HT.out).mono ?_
    rintro e w1 ⟨rfl, hg⟩
    have HG := Lib.hid hg
    clear hg
    go_wp2_with fail
    refine (few_any _ _ _ _).mono ?_
    rintro e w2 ⟨rfl, rfl⟩
    rw [decide_eq_true hfew]
    go_wp2_with fail
    refine (new_st (HI.out.same HG.out) HG.out).mono ?_
    rintro e w3 ⟨p, d, rfl, hs⟩
    have HS := Lib.hid hs
    clear hs HG HI
    go_wp2_with fail
    refine (next_st HS.out _ (by omega) (by omega)).mono ?_
    rintro e w4 ⟨y, rfl, hy0, hy1, hs, hg⟩
    replace HS := Lib.hid hs
    clear hs hg
    obtain ⟨r, hr⟩ : ∃ r : Nat, 1 + y = (r : Int) := ⟨(1 + y).toNat, by omega⟩
    have hr1 : 1 ≤ r := by omega
    have hr2 : r ≤ 5 := by omega
    have ir : IntKind.i64.wrap (1 + y) = (r : Int) := by rw [hr]; exact IntWalk.i64_in _ (by omega)
    clear hr hy0 hy1
    go_wp2_with fail
    refine (next_st HS.out _ (by omega) (by omega)).mono ?_
    rintro e w5 ⟨y, rfl, hy0, hy1, hs, hg⟩
    replace HS := Lib.hid hs
    clear hs hg
    obtain ⟨c, hc⟩ : ∃ c : Nat, 1 + y = (c : Int) := ⟨(1 + y).toNat, by omega⟩
    have hc1 : 1 ≤ c := by omega
    have hc2 : c ≤ 3 := by omega
    have ic : IntKind.i64.wrap (1 + y) = (c : Int) := by rw [hc]; exact IntWalk.i64_in _ (by omega)
    clear hc hy0 hy1
    go_wp2_with fail
    clear ir ic
    refine (matrix_st HS.out r c (by omega) (by omega)).mono ?_
    rintro e w6 ⟨vm, ps, rfl, hpl, hdm, hM, hs, hg⟩
    have HM := Lib.hid (MatD.mk HS.out hM)
    replace HS := Lib.hid hs; have HOK := Lib.hid (dealt_ok hpl hdm hr1 (by omega) hc1 (by omega) (by omega))
    clear hpl hdm hM hs hg
    have HTW := Lib.hid (HT.out.same HS.out.2.1)
    obtain ⟨C, hC⟩ : ∃ C, C = ps.map Prod.snd := ⟨_, rfl⟩
    have HC := Lib.hid hC
    have HCL : Hid (C.length = r) := Lib.hid (by rw [hC, List.length_map]; exact HOK.out.1)
    go_wp2_with fail
    refine (of_any HM.out.rows HOK.out (by omega) HTW.out).mono ?_
    rintro e w7 ⟨vf, fs, rfl, hF, hL, hsrt, hg⟩
    rw [← hC] at hL
    have HF := Lib.hid hF; have HL := Lib.hid hL; have HSRT := Lib.hid hsrt
    replace HM := Lib.hid (HM.out.step hg); replace HS := Lib.hid (HS.out.step hg)
    obtain ⟨af, cf, rfl, -⟩ : ∃ a cap, vf = .slice a fs.length cap ∧ True := by obtain ⟨a, cap, h, -⟩ := hF; exact ⟨a, cap, h, trivial⟩
    have hfl : fs.length ≤ maxLen := by obtain ⟨_, _, -, h, -⟩ := hF; exact h
    unfold maxLen at hfl
    clear hF hL hsrt hg hC HTW
    go_wp2_with fail
    have HG0 := Lib.hid (grown_refl w7 none)
    go_loopw [40] (fun i wr => ∃ k : Nat, i = .int .i64 k ∧ k ≤ fs.length ∧ Hid (w7.grownBy wr none)) (fun i _ => fs.length - (intOf i).toNat)
    case atStart => exact ⟨0, rfl, Nat.zero_le _, HG0⟩
    case round =>
      clear HG0
      obtain ⟨i, rfl, hi, HG⟩ := hrel
      rename World => wk
      by_cases hib : i < fs.length
      · have h3 : (i : Int) < (fs.length : Int) := by omega
        have i1 : IntKind.i64.wrap ((i : Int) + 1) = (i : Int) + 1 := IntWalk.i64_in _ (by omega)
        obtain ⟨bf, off, a2, c2, rfl, hcf, hri⟩ := row_ints HF.out hib
        have hfb := fl_bd HL.out hib
        have hyl : fs[i].2.length = r := by rw [hfb.1, HCL.out]
        rw [hyl] at hcf hri
        have HCF := Lib.hid hcf
        have HRI := Lib.hid hri; have HB := Lib.hid hfb.2; have HYL := Lib.hid hyl
        have hcf2 := HG.out.cell hcf (by simp)
        have HAT : Hid (∃ s, 1 ≤ s ∧ s < 2 ^ r ∧ FlowAt C c (bitB s) fs[i].2) := Lib.hid (by
          obtain ⟨s, h1, h2, h3, -⟩ := HL.out.all _ (List.mem_map_of_mem (List.getElem_mem hib))
          exact ⟨s, h1, h2, h3⟩)
        have HLT : Hid (∀ j (hj : j < fs.length), j + 1 = i → compareI fs[j].2 fs[i].2 < 0) := Lib.hid (fun j hj e => by
          have h1 := List.pairwise_iff_getElem.1 HSRT.out j i (by simpa using hj) (by simpa using hib) (by omega)
          rw [List.getElem_map, List.getElem_map] at h1
          have h2 : compareI fs[j].2 fs[i].2 ≠ 0 := fun e2 => by
            have e3 := (compareI_zero _ _).1 e2
            have h4 := List.pairwise_iff_getElem.1 HL.out.nodup j i (by simpa using hj) (by simpa using hib) (by omega)
            rw [List.getElem_map, List.getElem_map] at h4
            exact h4 e3
          omega)
        have HEX : Hid (∀ k (hk : k < fs.length), (∀ p, p < r → fs[k].2[p]?.getD 0 = 0 ∨ 0 < fs[i].2[p]?.getD 0) → k = i) := Lib.hid (fun k hk h => by
          obtain ⟨s, s1, s2, s3⟩ := HAT.out
          obtain ⟨t, t1, t2, t3, -⟩ := HL.out.all _ (List.mem_map_of_mem (List.getElem_mem hk))
          have hp := pow_6 r (by omega)
          have hb : ∀ p, p < C.length → bitB t p = bitB s p := at_within t3 s3 (by
            by_cases e : ∃ p, p < C.length ∧ bitB t p = true
            · exact e
            · exfalso
              have hz : t = 0 := bit_same (n := r) (by omega) (s := t) (t := 0) (by omega) t2 (by omega) (by omega) (fun p hp => by
                have e0 : bitB 0 p = false := by
                  have := bit_zero r (by omega)
                  cases e1 : bitB 0 p with
                  | false => rfl
                  | true => have h5 := idxs_mem hp e1; rw [this] at h5; cases h5
                rw [e0]
                cases e1 : bitB t p with
                | false => rfl
                | true => exact absurd ⟨p, by rw [HCL.out]; exact hp, e1⟩ e)
              omega) (fun p hp hI => by
            have h1 := t3.on p hp hI
            rcases h p (by rw [← HCL.out]; exact hp) with h2 | h2
            · omega
            · rw [at_bit s3 hp]; simpa using h2)
          have hst : t = s := bit_same (n := r) (by omega) (by omega) t2 (by omega) s2 (fun p hp => hb p (by rw [HCL.out]; exact hp))
          subst hst
          have heq := t3.uniq s3
          by_cases e : k = i
          · exact e
          · exfalso
            rcases Nat.lt_or_gt_of_ne e with h5 | h5
            · have h4 := List.pairwise_iff_getElem.1 HL.out.nodup k i (by simpa using hk) (by simpa using hib) h5
              rw [List.getElem_map, List.getElem_map] at h4
              exact h4 heq
            · have h4 := List.pairwise_iff_getElem.1 HL.out.nodup i k (by simpa using hib) (by simpa using hk) h5
              rw [List.getElem_map, List.getElem_map] at h4
              exact h4 heq.symm)
        have HHT : Hid (Flow C c fs[i].2 ∧ ∃ p : Nat, 0 < fs[i].2[p]?.getD 0) := Lib.hid (by
          obtain ⟨s, h1, h2, h3⟩ := HAT.out
          refine ⟨h3.flow, ?_⟩
          by_cases e : ∃ p, p < C.length ∧ bitB s p = true
          · obtain ⟨p, hp, hI⟩ := e; exact ⟨p, h3.on p hp hI⟩
          · exfalso
            have hpw := pow_6 r (by omega)
            have hz : s = 0 := bit_same (n := r) (by omega) (s := s) (t := 0) (by omega) h2 (by omega) (by omega) (fun p hp => by
              have e0 : bitB 0 p = false := by
                have := bit_zero r (by omega)
                cases e1 : bitB 0 p with
                | false => rfl
                | true => have h5 := idxs_mem hp e1; rw [this] at h5; cases h5
              rw [e0]
              cases e1 : bitB s p with
              | false => rfl
              | true => exact absurd ⟨p, by rw [HCL.out]; exact hp, e1⟩ e)
            omega)
        generalize hy : fs[i].2 = y at *
        have HY := Lib.hid hy
        clear hcf hri hfb hyl HAT hy
        go_wp2_with fail
        clear hcf2
        refine (holds_any (y := y) ((HM.out.step HG.out).rows) HOK.out (by omega) (HRI.out.same HG.out) HYL.out HB.out).mono ?_
        rintro e w8 ⟨bb, rfl, hbb, hw⟩
        subst hw
        have ebb : bb = true := hbb.2 (by rw [← HC.out]; exact HHT.out)
        subst ebb
        clear hbb HHT
        have h3n : ((i - 1 : Nat) : Int) < (fs.length : Int) := by omega
        have i2 : IntKind.i64.wrap ((i : Int) - 1) = (i : Int) - 1 := IntWalk.i64_in _ (by omega)
        by_cases hi0 : i = 0
        all_goals first
          | (have q1 : decide (0 < i) = false := by (simp; exact hi0)
             clear hi0
             go_wp2_with fail
             go_loopw [65] (fun k' wr => ∃ k : Nat, k' = .int .i64 k ∧ k ≤ fs.length ∧ Hid (w7.grownBy wr none)) (fun k' _ => fs.length - (intOf k').toNat)
             case atStart => exact ⟨0, rfl, Nat.zero_le _, HG⟩)
          | (have q1 : decide (0 < i) = true := by (simp; omega)
             have hib2 : i - 1 < fs.length := by omega
             have z1 : (1 : Int) ≤ (i : Int) := by omega
             have z2 : (i : Int) - 1 < (fs.length : Int) := by omega
             obtain ⟨bf', off', a3, c3, hbe, hcg, hrj⟩ := row_ints HF.out hib2
             simp only [Option.some.injEq, Addr.mk.injEq, and_true] at hbe
             obtain ⟨rfl, rfl⟩ := hbe
             have hyl2 : fs[i - 1].2.length = r := by rw [(fl_bd HL.out hib2).1, HCL.out]
             rw [hyl2] at hcg hrj
             have HRJ := Lib.hid hrj
             have hcg2 := HG.out.cell hcg (by simp)
             have HCM := Lib.hid (HLT.out (i - 1) hib2 (by omega))
             generalize fs[i - 1].2 = yj at *
             clear hcg hrj hyl2 hi0
             go_wp2_with fail
             refine (rcompare_any _ _ yj y _ (HRJ.out.same HG.out) (HRI.out.same HG.out)).mono ?_
             rintro e w9 ⟨rfl, hd⟩
             replace HG := Lib.hid (grown_trans HG.out (hd.grown none))
             have q3 : decide (0 ≤ compareI yj y) = false := by have := HCM.out; simp; omega
             generalize compareI yj y = z at *
             clear hd hcg2 hib2
             go_wp2_with fail
             go_loopw [65] (fun k' wr => ∃ k : Nat, k' = .int .i64 k ∧ k ≤ fs.length ∧ Hid (w7.grownBy wr none)) (fun k' _ => fs.length - (intOf k').toNat)
             case atStart => exact ⟨0, rfl, Nat.zero_le _, HG⟩)
        all_goals
          clear HG
          obtain ⟨k, rfl, hk, HG⟩ := hrel
          rename World => wt
          by_cases hkb : k < fs.length
          · have h4 : (k : Int) < (fs.length : Int) := by omega
            have i3 : IntKind.i64.wrap ((k : Int) + 1) = (k : Int) + 1 := IntWalk.i64_in _ (by omega)
            obtain ⟨bf', off', a3, c3, hbe, hcg, hrj⟩ := row_ints HF.out hkb
            simp only [Option.some.injEq, Addr.mk.injEq, and_true] at hbe
            obtain ⟨rfl, rfl⟩ := hbe
            have hyl2 : fs[k].2.length = r := by rw [(fl_bd HL.out hkb).1, HCL.out]
            rw [hyl2] at hcg hrj
            have HRJ := Lib.hid hrj
            have hcg2 := HG.out.cell hcg (by simp)
            have HEK : Hid ((∀ p, p < r → fs[k].2[p]?.getD 0 = 0 ∨ 0 < y[p]?.getD 0) → k = i) := Lib.hid (HEX.out k hkb)
            have HXL := Lib.hid hyl2
            generalize fs[k].2 = x at *
            clear hcg hrj hyl2
            go_wp2_with fail
            clear hcg2
            go_loopw [72, 11] (fun p' b' wr => ∃ (p : Nat) (b : Bool), p' = .int .i64 p ∧ b' = .bool b ∧ p ≤ r ∧ Hid (b = true → ∀ q, q < p → x[q]?.getD 0 = 0 ∨ 0 < y[q]?.getD 0) ∧ Hid (w7.grownBy wr none)) (fun p' _ _ => r - (intOf p').toNat)
            case atStart => exact ⟨0, true, rfl, rfl, Nat.zero_le _, Lib.hid (fun _ q hq => by omega), HG⟩
            case round =>
              clear HG
              obtain ⟨pp, b, rfl, rfl, hp, HBB, HG⟩ := hrel
              rename World => we
              by_cases hpb : pp < r
              · have h5 : (pp : Int) < (r : Int) := by omega
                have i4 : IntKind.i64.wrap ((pp : Int) + 1) = (pp : Int) + 1 := IntWalk.i64_in _ (by omega)
                cases b with
                | false =>
                  go_wp2_with fail
                  go_roundw
                  case rel => exact ⟨pp + 1, false, by go_num, rfl, by omega, Lib.hid (fun h => by cases h), HG⟩
                  case measure => simp [intOf]; omega
                | true =>
                  obtain ⟨_, _, hxv, -, -, hxc⟩ := HRJ.out
                  simp only [Value.slice.injEq] at hxv
                  obtain ⟨rfl, -, rfl⟩ := hxv
                  obtain ⟨bx, ox, rfl, hcx⟩ := Ints.at hxc (show pp < x.length by have := HXL.out; omega)
                  obtain ⟨_, _, hxv, -, -, hyc⟩ := HRI.out
                  simp only [Value.slice.injEq] at hxv
                  obtain ⟨rfl, -, rfl⟩ := hxv
                  obtain ⟨by', oy, rfl, hcy⟩ := Ints.at hyc (show pp < y.length by have := HYL.out; omega)
                  have hcx2 := HG.out.cell hcx (by simp)
                  have hcy2 := HG.out.cell hcy (by simp)
                  have HBN : Hid (x[pp]?.getD 0 = 0 ∨ 0 < y[pp]?.getD 0 → ∀ q, q < pp + 1 → x[q]?.getD 0 = 0 ∨ 0 < y[q]?.getD 0) := Lib.hid (fun h q hq => by
                    by_cases e : q = pp
                    · subst e; exact h
                    · exact HBB.out (by trivial) q (by omega))
                  obtain ⟨u, hu⟩ : ∃ u, x[pp]?.getD 0 = u := ⟨_, rfl⟩
                  obtain ⟨v, hv⟩ : ∃ v, y[pp]?.getD 0 = v := ⟨_, rfl⟩
                  rw [hu] at hcx2
                  rw [hv] at hcy2
                  have HU := Lib.hid hu; have HV := Lib.hid hv
                  clear hxc hyc hcx hcy hu hv
                  by_cases hu0 : u = 0
                  · subst hu0
                    have q2 : ((0 : Int) == 0) = true := by decide
                    go_wp2_with fail
                    clear hcx2 hcy2
                    go_roundw
                    case rel => exact ⟨pp + 1, true, by go_num, rfl, by omega, Lib.hid (fun _ => HBN.out (.inl HU.out)), HG⟩
                    case measure => simp [intOf]; omega
                  · have q2 : (u == 0) = false := by simpa using hu0
                    clear hu0
                    by_cases hv0 : 0 < v
                    · have q4 : decide (0 < v) = true := by simpa using hv0
                      have HV0 := Lib.hid hv0
                      clear hv0
                      go_wp2_with fail
                      clear hcx2 hcy2
                      go_roundw
                      case rel => exact ⟨pp + 1, true, by go_num, rfl, by omega, Lib.hid (fun _ => HBN.out (.inr (by rw [HV.out]; exact HV0.out))), HG⟩
                      case measure => simp [intOf]; omega
                    · have q4 : decide (0 < v) = false := by simpa using hv0
                      clear hv0
                      go_wp2_with fail
                      clear hcx2 hcy2
                      go_roundw
                      case rel => exact ⟨pp + 1, false, by go_num, rfl, by omega, Lib.hid (fun h => by cases h), HG⟩
                      case measure => simp [intOf]; omega
              · obtain rfl : pp = r := by omega
                have h5 : ¬ (pp : Int) < (pp : Int) := by omega
                cases b with
                | false =>
                  go_wp2_with fail
                  go_roundw
                  case rel => exact ⟨k + 1, by go_num, by omega, HG⟩
                  case measure => simp [intOf]; omega
                | true =>
                  have eki : k = i := HEK.out (HBB.out (by trivial))
                  have q5 : ((k : Int) != (i : Int)) = false := by rw [eki]; simp
                  clear eki
                  go_wp2_with fail
                  go_roundw
                  case rel => exact ⟨k + 1, by go_num, by omega, HG⟩
                  case measure => simp [intOf]; omega
          · obtain rfl : k = fs.length := by omega
            have h4 : ¬ (fs.length : Int) < (fs.length : Int) := by omega
            go_wp2_with fail
            go_roundw
            case rel => exact ⟨i + 1, by go_num, by omega, HG⟩
            case measure => simp [intOf]; omega
      · obtain rfl : i = fs.length := by omega
        have h3 : ¬ (fs.length : Int) < (fs.length : Int) := by omega
        go_wp2_with fail
        go_ret
        exact ⟨rfl, (HS.out.step HG.out).below⟩
  · go_enter Tryd.func4, Tryd.ntmps4
    go_wp2_with fail
    refine (awake11_any _ HT.out).mono ?_
    rintro e w1 ⟨rfl, hg⟩
    have HG := Lib.hid hg
    clear hg
    go_wp2_with fail
    refine (few_any _ _ _ _).mono ?_
    rintro e w2 ⟨rfl, rfl⟩
    rw [decide_eq_false (by omega)]
    go_wp2_with fail
    refine (awake11_any _ (HT.out.same HG.out)).mono ?_
    rintro e w3 ⟨rfl, hg⟩
    have HG := Lib.hid (grown_trans HG.out hg)
    clear hg
    go_wp2_with fail
    go_ret
    exact ⟨rfl, below_of HG.out⟩


/-! ### SemiflowHolds: the statement and its card, from the walk -/
theorem contractSemiflowHolds (H : Type) (enc : TypeId × Value → H) (W : World) (base : Nat) (args : Array Value) (ds gs : List (DataW H)) (before : List MemPlace)
    (hval0 : ∀ (j : Nat) t v, Tryd.f4.params[j]? = some t → args[j]? = some v → Value.okWide Tryd.prog W .any base t v)
    (hW : DataW.Whole enc Tryd.prog Tryd.f4.params.toList Rows.semiflowHoldsSpec.vars false W args.toList ds gs before) (hL : laidMetH Tryd.prog Rows.semiflowHoldsRow.laid W) :
    Calls Tryd.prog 4 args W fun e W' => ∃ v, e = .returned v ∧ Rows.semiflowHoldsSpec.post enc Tryd.prog Tryd.f4 false true false false W args v W' := by
  have hval : ∀ (j : Nat) t v, Tryd.f4.params[j]? = some t → args[j]? = some v → Value.okWide Tryd.prog W .any base t v := hval0
  have hW' := hW
  obtain ⟨p, q, hA0, hV, rfl, hfz, hnd⟩ := hW
  have hA : DataW.TrodAll enc Tryd.prog W 0 (fun _ => true) true Tryd.f4.params.toList args.toList ds p := hA0
  rw [Tryd.params4] at hA hval
  obtain ⟨v0, vs0, d0, ds0, p0, q0, hargs, rfl, rfl, h0, r0⟩ := trodAll_cons hA
  obtain ⟨rfl, rfl, rfl⟩ := trodAll_nil r0
  obtain rfl : args = #[v0] := by cases args; simp_all
  obtain ⟨rfl, rfl⟩ := trodVars_none hV
  obtain ⟨a0, len0, cap0, rfl⟩ := okWide_slice Tryd.underlying22 (hval 0 22 v0 rfl rfl)
  have k0 := h0
  have lt0 : ∀ x ∈ p0, x.block < W.heap.size := by obtain ⟨m, hm⟩ := k0; exact DataW.trod_lt m _ _ _ hm
  obtain ⟨z0, w0⟩ : ∃ zs, IsRow .i64 W a0 len0 cap0 zs := by
    obtain ⟨fuel, hf⟩ := h0
    rcases open_ints Tryd.underlying22 Tryd.underlying3 (by kernel_rfl) hf with ⟨hcs, _⟩ | ⟨x, l, c, zs, hcs, _, hl, hm, hz, _, hcell, hwz⟩
    · simp [Value.cells] at hcs
      obtain ⟨rfl, rfl, rfl⟩ := hcs
      exact ⟨[], .inl ⟨rfl, rfl, rfl, rfl⟩⟩
    · simp [Value.cells] at hcs
      obtain ⟨rfl, rfl, rfl⟩ := hcs
      exact ⟨zs, .inr ⟨_, rfl, hl, hm, by simpa using hz, hcell, hwz⟩⟩
  clear hA0 hval0
  refine (walkSemiflowHolds a0 len0 cap0 z0 W w0 (tabW_of hL)).mono fun e W' ⟨he, bel⟩ => ?_
  subst he
  exact ⟨_, rfl, _, _, _, [], _, [], hW', trodAll_mk1 (shut_bool Tryd.underlying4 _), (trodAll_cons_mk (Below.trod laidOut (by kernel_rfl) (of_decide_eq_true (by kernel_rfl)) k0 bel lt0) trodAll_mk0), rfl, bel.frame _, fun h => by cases h⟩
theorem readsSemiflowHolds (os : Os) {H : Type} (enc : TypeId × Value → H) : ∃ places, DataW.whole enc Tryd.prog ((laidWorld os).forCall (fun _ _ => 0) ⟨#[], #[.slice none 0 0], []⟩).memory Tryd.f4.params.toList Rows.semiflowHoldsSpec.vars false #[Value.slice none 0 0].toList 8 = some ([.nil], [], places) :=
  ⟨[], by kernel_rfl⟩
set_option maxRecDepth 100000 in
theorem liftedSemiflowHolds (os : Os) (started : os.Started) (H : Type) (enc : TypeId × Value → H) (F : Stop.Interp) :
    ReturnsInHanded {} Tryd.checked os 4 .any ((OpenSpec.ofChange Rows.semiflowHoldsSpec).preRow enc Tryd.prog Tryd.f4 Rows.semiflowHoldsRow.domain false Rows.semiflowHoldsRow.laid) (((OpenSpec.ofChange Rows.semiflowHoldsSpec).at F).post enc Tryd.prog Tryd.f4 false true false false) := by
  obtain ⟨places, hx⟩ := readsSemiflowHolds os enc
  refine returnsInHanded_of_row (C := Tryd.checked) (s := OpenSpec.ofChange Rows.semiflowHoldsSpec) ownK started (by kernel_rfl) Tryd.func4
    (witness_row_at (enc := enc) (C := Tryd.checked) false (laidWorld os) #[.slice none 0 0] rfl (by kernel_rfl) (by kernel_rfl) (by kernel_rfl)
      (OpenSpec.preRow_of_cond 8 hx (by kernel_rfl) (fun k hk => by cases hk) (by kernel_rfl) (laid_met os))) ?_
  intro W base args ds gs before hval hW _ _ _ hL _ _
  exact contractSemiflowHolds H enc W base args ds gs before hval hW hL
theorem semiflowHolds_said : Rows.SemiflowHoldsSaid :=
  OpenClaim.holds_of_cond 4 Tryd.f4 rfl rfl rfl rfl rfl rfl rfl ⟨rfl, rfl, rfl, rfl, rfl⟩ rfl rfl rfl rfl rfl (by kernel_rfl) Tryd.func4 (by kernel_rfl)
    (of_decide_eq_true (by kernel_rfl)) (by unfold Func.isWrapper; first | (rw [if_pos (by decide +kernel)]; kernel_rfl) | (rw [if_neg (by decide +kernel)]; exact ⟨rfl, rfl⟩))
    (fun os started H enc _ F => by rw [OpenClaim.pre_eq_preRow]; exact liftedSemiflowHolds os started H enc F)
theorem plainSemiflowHolds (f : FuncId) (fn : Func) (hf : Tryd.pinned.checked.prog.funcNamed "coverability/coverabilitylaw11.SemiflowHolds" = some f) (hfn : Tryd.pinned.checked.prog.funcs[f]? = some fn) :
    false = Tryd.pinned.checked.prog.looks [] ∧ ∀ (j : Nat) t, fn.params[j]? = some t → Tryd.pinned.checked.prog.wantsStandIn t = false := by
  obtain rfl : f = 4 := Option.some.inj ((show Tryd.prog.funcNamed "coverability/coverabilitylaw11.SemiflowHolds" = some 4 by kernel_rfl).symm.trans hf) |>.symm
  obtain rfl : fn = Tryd.f4 := (Option.some.inj (Tryd.func4.symm.trans hfn)).symm
  refine ⟨by kernel_rfl, fun j t ht => ?_⟩
  rw [Tryd.params4] at ht
  obtain rfl : t = 22 := by simpa using Array.mem_of_getElem? ht
  exact (show Tryd.prog.wantsStandIn 22 = false by kernel_rfl)
theorem semiflowHolds_card : Rows.SemiflowHoldsCardSaid :=
  Claim7.holds_tied_plain_at .later [] _ _ _ _ semiflowHolds_said (fun _ h => by cases h) (by kernel_rfl) (fun _ h => by cases h) semiflowHolds_row_tie rfl ⟨rfl, rfl⟩ (by kernel_rfl) rfl plainSemiflowHolds (by kernel_rfl)
#print axioms semiflowHolds_card
end Go.Proofs.YtpnghgihepnepaaDoor
