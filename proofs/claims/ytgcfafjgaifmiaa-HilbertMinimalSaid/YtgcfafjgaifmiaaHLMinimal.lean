/- HilbertMinimal: for every input it answers true. -/
import Derived.Test.YtgcfafjgaifmiaaEq
import Derived.BigRegion
import Derived.Deep.RegionHeld3
namespace Go.Proofs.Ytgcfafjgaifmiaa
open Go.ChangeShapes Go.WideShapes Go.ChangeAt Go.RowKit
set_option linter.unusedVariables false

set_option maxRecDepth 100000 in
set_option maxHeartbeats 2000000 in
theorem walkHilbertMinimal (a0 : Option Addr) (len0 cap0 : Nat) (z0 : List Int) (w : World) (w0 : IsRow .i64 w a0 len0 cap0 z0) :
    Calls Try.prog 4 #[.slice a0 len0 cap0] w fun e w' => e = .returned (.bool true) ∧ Below w.heap.size w w' := by
  obtain ⟨hI, hlen⟩ := w0.ints
  generalize z0.take len0 = zs at hI hlen
  subst hlen
  have HI := Lib.hid hI
  clear hI w0
  by_cases hfew : (zs.length : Int) ≤ 400
  · go_enter Try.func4, Try.ntmps4
    go_wp2_with fail
    refine (awake12_any _).mono ?_
    rintro e w1 ⟨rfl, hg⟩
    have HG := Lib.hid hg
    clear hg
    go_wp2_with fail
    refine (few_any _ _ _ _).mono ?_
    rintro e w2 ⟨rfl, rfl⟩
    rw [decide_eq_true hfew]
    go_wp2_with fail
    refine (new_st (HI.out.same HG.out) HG.out).mono ?_
    rintro e w3 ⟨p, d, rfl, hs⟩
    have HS := Lib.hid hs
    clear hs HG HI
    go_wp2_with fail
    refine (next_st HS.out _ (by omega) (by omega)).mono ?_
    rintro e w4 ⟨y, rfl, hy0, hy1, hs, hg⟩
    replace HS := Lib.hid hs
    clear hs hg
    obtain ⟨c, hc⟩ : ∃ c : Nat, 1 + y = (c : Int) := ⟨(1 + y).toNat, by omega⟩
    have hc1 : 1 ≤ c := by omega
    have hc2 : c ≤ 4 := by omega
    have ic : IntKind.i64.wrap (1 + y) = (c : Int) := by rw [hc]; exact IntWalk.i64_in _ (by omega)
    clear hc hy0 hy1
    go_wp2_with fail
    refine (next_st HS.out _ (by omega) (by omega)).mono ?_
    rintro e w5 ⟨yr, rfl, hyr0, hyr1, hs, hg⟩
    replace HS := Lib.hid hs
    clear hs hg
    obtain ⟨r, hr⟩ : ∃ r : Nat, 1 + yr = (r : Int) := ⟨(1 + yr).toNat, by omega⟩
    have hr1 : 1 ≤ r := by omega
    have hr2 : r ≤ 2 := by omega
    have ir : IntKind.i64.wrap (1 + yr) = (r : Int) := by rw [hr]; exact IntWalk.i64_in _ (by omega)
    clear hr hyr0 hyr1
    go_wp2_with fail
    clear ir ic
    refine (matrix_st HS.out r c (by omega) (by omega)).mono ?_
    rintro e w6 ⟨vm, ps, rfl, hpl, hdm, hM, hs, hg⟩
    have HMvm := Lib.hid (MatD.mk HS.out hM)
    replace HS := Lib.hid hs; have HOKvm := Lib.hid (dealt_ok hpl hdm hr1 (by omega) hc1 (by omega) (by omega))
    clear hpl hdm hM hs hg
    obtain ⟨aM, cM, rfl⟩ := HMvm.out.slice
    have hpl2 : ps.length ≤ 2 := by have := HOKvm.out.1; omega
    have hpl1 : 1 ≤ ps.length := by have := HOKvm.out.1; omega
    have hpl3 : (ps.length : Int) ≤ 2 := by omega
    go_wp2_with fail
    refine (next_st HS.out _ (by omega) (by omega)).mono ?_
    rintro e w7 ⟨x, rfl, hx0, hx1, hs, hg⟩
    replace HS := Lib.hid hs
    replace HMvm := Lib.hid (HMvm.out.deal hg); clear hs hg
    go_wp2_with fail
    refine (next_st HS.out _ (by omega) (by omega)).mono ?_
    rintro e w8 ⟨y, rfl, hy0, hy1, hs, hg⟩
    replace HS := Lib.hid hs
    replace HMvm := Lib.hid (HMvm.out.deal hg); clear hs hg
    go_wp2_with fail
    have hpt := pair_take (x := x) (y := y) HS.out HOKvm.out.1 hpl1 hpl2 (by omega) (by omega)
    have HG9 := Lib.hid (World.grownBy_alloc w8 (.cells #[.int .i64 x, .int .i64 y] 3) none)
    obtain ⟨bs, hbs⟩ : ∃ bs, bs = [x, y].take ps.length := ⟨_, rfl⟩
    rw [← hbs] at hpt
    have HBO := Lib.hid hpt.1; have VB := Lib.hid hpt.2
    replace HMvm := Lib.hid (HMvm.out.step HG9.out); replace HS := Lib.hid (HS.out.step HG9.out)
    clear hpt hbs hx0 hx1 hy0 hy1 HG9
    generalize w8.alloc (.cells #[.int .i64 x, .int .i64 y] 3) = w9 at *
    refine (Minimal_any (mst := 5) HMvm.out.rows HOKvm.out (by omega) (by omega) VB.out.1 HBO.out (by omega)).mono ?_
    rintro e w10 ⟨vq, qs, rfl, ho, hq, hg⟩
    have HMQ := Lib.hid (MatD.mk HS.out ho); have HQ := Lib.hid hq
    replace HMvm := Lib.hid (HMvm.out.step hg); replace HS := Lib.hid (HS.out.step hg); replace VB := Lib.hid (VB.out.step hg)
    have HQO : Hid (∀ q ∈ qs, VecOk c q.2 ∧ solB ps bs q.2 = true) := Lib.hid (fun q hq' => by
      have h1 := minL_ok (show 5 ≤ 10 by omega) q.2 (HQ.out ▸ List.mem_map_of_mem hq')
      exact ⟨h1.1, good_sol h1.2.2.1⟩)
    have HQL : Hid (qs.length ≤ 1000000000) := Lib.hid (by
      have h7 := minL_len (goodB ps bs (fun _ => true)) (vecs c 5)
      rw [← HQ.out, List.length_map] at h7
      have h8 := vecs_len c 5
      have h9 : (5 + 1) ^ c ≤ 6 ^ 6 := Nat.pow_le_pow_right (by omega) (by omega)
      have h10 : (6 : Nat) ^ 6 = 46656 := by decide
      omega)
    obtain ⟨aQ, cQ, rfl⟩ := HMQ.out.slice
    clear ho hq hg
    go_wp2_with fail
    have HG10 := Lib.hid (grown_refl w10 none)
    go_loopw [56] (fun i wr => ∃ k : Nat, i = .int .i64 k ∧ k ≤ qs.length ∧ Hid (w10.grownBy wr none)) (fun i _ => qs.length - (intOf i).toNat)
    case atStart => exact ⟨0, rfl, Nat.zero_le _, HG10⟩
    case round =>
      obtain ⟨k, rfl, hk, hG⟩ := hrel
      rename World => wk
      have hql := HQL.out
      by_cases hkb : k < qs.length
      · have h3 : (k : Int) < (qs.length : Int) := by omega
        have i1 : IntKind.i64.wrap ((k : Int) + 1) = (k : Int) + 1 := IntWalk.i64_in _ (by omega)
        obtain ⟨bq, oq, a2, c2, rfl, hcell, -, hri⟩ := (HMQ.out.step hG.out).rows.row hkb
        have HRI := Lib.hid hri
        have HQK := Lib.hid (HQO.out _ (List.getElem_mem hkb))
        clear hri hql
        go_wp2_with fail
        refine (hsolves_any (HMvm.out.step hG.out).rows HOKvm.out (by omega) (by omega) (VB.out.step hG.out).1 HBO.out HRI.out HQK.out.1).mono ?_
        rintro e wx ⟨rfl, hg⟩
        rw [HQK.out.2]
        replace HRI := Lib.hid (HRI.out.same hg)
        have HGX := Lib.hid (grown_trans hG.out hg)
        clear hcell hg hG
        go_wp2_with fail
        go_loopw [68] (fun i wr => ∃ j : Nat, i = .int .i64 j ∧ j ≤ qs.length ∧ Hid (wx.grownBy wr none)) (fun i _ => qs.length - (intOf i).toNat)
        case atStart => exact ⟨0, rfl, Nat.zero_le _, Lib.hid (grown_refl _ _)⟩
        case round =>
          obtain ⟨j, rfl, hj, hG⟩ := hrel
          rename World => wj
          have hql := HQL.out
          by_cases hjb : j < qs.length
          · have h4 : (j : Int) < (qs.length : Int) := by omega
            have i2 : IntKind.i64.wrap ((j : Int) + 1) = (j : Int) + 1 := IntWalk.i64_in _ (by omega)
            obtain ⟨_, _, a3, c3, e9, hcell, -, hri⟩ := (HMQ.out.step (grown_trans HGX.out hG.out)).rows.row hjb
            cases e9
            have HRJ := Lib.hid hri
            have HQJ := Lib.hid (HQO.out _ (List.getElem_mem hjb))
            clear hri hql
            by_cases hne : k = j
            · have p1 : ((k : Int) != (j : Int)) = false := by simp; omega
              clear hne
              go_wp2_with fail
              go_roundw
              case rel => exact ⟨j + 1, by go_num, by omega, hG⟩
              case measure => simp [intOf]; omega
            · have p1 : ((k : Int) != (j : Int)) = true := by simp; omega
              have HAP : Hid (leqB qs[j].2 qs[k].2 = false) := Lib.hid (by rw [leqB_is (by omega) HQJ.out.1 HQK.out.1]; exact min_apart HQ.out hjb hkb (fun e => hne e.symm))
              clear hne
              go_wp2_with fail
              refine (rleq_any _ _ _ _ _ HRJ.out (HRI.out.same hG.out)).mono ?_
              rintro e wl ⟨rfl, hd⟩
              rw [HAP.out]
              have HGL := Lib.hid (grown_trans hG.out (hd.grown none))
              clear hd hcell
              go_wp2_with fail
              go_roundw
              case rel => exact ⟨j + 1, by go_num, by omega, HGL⟩
              case measure => simp [intOf]; omega
          · have h4 : ¬ (j : Int) < (qs.length : Int) := by omega
            have HGY := Lib.hid (grown_trans HGX.out hG.out)
            clear hql
            go_wp2_with fail
            go_roundw
            case rel => exact ⟨k + 1, by go_num, by omega, HGY⟩
            case measure => simp [intOf]; omega
      · have h3 : ¬ (k : Int) < (qs.length : Int) := by omega
        replace HMvm := Lib.hid (HMvm.out.step hG.out); replace HS := Lib.hid (HS.out.step hG.out); replace VB := Lib.hid (VB.out.step hG.out); replace HMQ := Lib.hid (HMQ.out.step hG.out)
        clear hql hk hkb hG
        go_wp2_with fail
        go_loopw [13] (fun i wr => ∃ t : Nat, i = .int .i64 t ∧ t ≤ 12 ∧ Hid (St w wr p d) ∧ Hid (MatD wr d (.slice aM ps.length cM) ps) ∧ Hid (Vec wr d (.slice (some ⟨w8.heap.size, 0, none⟩) ps.length 2) bs) ∧ Hid (MatD wr d (.slice aQ qs.length cQ) qs)) (fun i _ => 12 - (intOf i).toNat)
        case atStart => exact ⟨0, rfl, Nat.zero_le _, HS, HMvm, VB, HMQ⟩
        case round =>
          clear HMvm HS VB HMQ
          obtain ⟨t, rfl, ht, HS, HMvm, VB, HMQ⟩ := hrel
          rename World => wt
          by_cases htb : t < 12
          · have h4 : (t : Int) < 12 := by omega
            have i2 : IntKind.i64.wrap ((t : Int) + 1) = (t : Int) + 1 := IntWalk.i64_in _ (by omega)
            go_wp2_with fail
            refine (small_st HS.out (c : Int) 1 (by omega) (by omega) (by omega)).mono ?_
            rintro e w11 ⟨vx, xs, rfl, hul, hub, hv, hs, hg⟩
            replace HMvm := Lib.hid (HMvm.out.deal hg); replace HMQ := Lib.hid (HMQ.out.deal hg); replace VB := Lib.hid (VB.out.deal hg)
            have VX := Lib.hid hv
            replace HS := Lib.hid hs
            have HXL : Hid (xs.length = c) := Lib.hid (by rw [hul]; rfl); have HXB := Lib.hid hub
            have HXO : Hid (VecOk c xs) := Lib.hid ⟨HXL.out, fun z hz => by have := HXB.out z hz; omega⟩
            clear hul hub hv hs hg
            obtain ⟨aX, cX, rfl, -⟩ := VX.out.slice
            go_wp2_with fail
            refine (hsolves_any HMvm.out.rows HOKvm.out (by omega) (by omega) VB.out.1 HBO.out VX.out.1 HXO.out).mono ?_
            rintro e w12 ⟨rfl, hg⟩
            replace HMvm := Lib.hid (HMvm.out.step hg); replace HMQ := Lib.hid (HMQ.out.step hg); replace VB := Lib.hid (VB.out.step hg); replace VX := Lib.hid (VX.out.step hg); replace HS := Lib.hid (HS.out.step hg)
            clear hg
            cases hsb : solB ps bs xs with
            | false =>
              go_wp2_with fail
              go_roundw
              case rel => exact ⟨t + 1, by go_num, by omega, HS, HMvm, VB, HMQ⟩
              case measure => simp [intOf]; omega
            | true =>
              have HBL : Hid (qs.any (fun q => leqI q.2 xs) = true) := Lib.hid (min_below HQ.out ⟨HXO.out.1, fun z hz => (HXO.out.2 z hz).1⟩ (by
                have := sumI_ub (M := 1) (l := xs) (fun y hy => (HXB.out y hy).2)
                rw [HXL.out] at this
                omega) (by unfold goodB; rw [hsb]; rfl))
              clear hsb
              go_wp2_with fail
              go_loopw [97, 15] (fun i f wr => ∃ j : Nat, i = .int .i64 j ∧ j ≤ qs.length ∧ f = .bool ((qs.take j).any (fun q => leqI q.2 xs)) ∧ Hid (w12.grownBy wr none)) (fun i _ _ => qs.length - (intOf i).toNat)
              case atStart => exact ⟨0, rfl, Nat.zero_le _, rfl, Lib.hid (grown_refl _ _)⟩
              case round =>
                obtain ⟨j, rfl, hj, rfl, hG⟩ := hrel
                rename World => wj
                have hql := HQL.out
                by_cases hjb : j < qs.length
                · have h5 : (j : Int) < (qs.length : Int) := by omega
                  have i3 : IntKind.i64.wrap ((j : Int) + 1) = (j : Int) + 1 := IntWalk.i64_in _ (by omega)
                  obtain ⟨b9, o9, a3, c3, rfl, hcell, -, hri⟩ := (HMQ.out.step hG.out).rows.row hjb
                  have HRJ := Lib.hid hri
                  have HQJ := Lib.hid (HQO.out _ (List.getElem_mem hjb))
                  have HLB : Hid (leqB qs[j].2 xs = leqI qs[j].2 xs) := Lib.hid (leqB_is (by omega) HQJ.out.1 HXO.out)
                  have HSN := Lib.hid (any_snoc (fun q => leqI q.2 xs) qs j hjb)
                  clear hri hql
                  cases hf : (qs.take j).any (fun q => leqI q.2 xs) with
                  | true =>
                    have HF := Lib.hid hf
                    clear hf
                    go_wp2_with fail
                    go_roundw
                    case rel => exact ⟨j + 1, by go_num, by omega, by rw [HSN.out, HF.out]; rfl, hG⟩
                    case measure => simp [intOf]; omega
                  | false =>
                    have HF := Lib.hid hf
                    clear hf
                    go_wp2_with fail
                    refine (rleq_any _ _ _ _ _ HRJ.out (VX.out.step hG.out).1).mono ?_
                    rintro e wl ⟨rfl, hd⟩
                    rw [HLB.out]
                    have HGL := Lib.hid (grown_trans hG.out (hd.grown none))
                    clear hd hcell
                    go_wp2_with fail
                    go_roundw
                    case rel => exact ⟨j + 1, by go_num, by omega, by rw [HSN.out, HF.out]; rfl, HGL⟩
                    case measure => simp [intOf]; omega
                · have h5 : ¬ (j : Int) < (qs.length : Int) := by omega
                  have e1 : (qs.take j).any (fun q => leqI q.2 xs) = true := by rw [List.take_of_length_le (by omega)]; exact HBL.out
                  rw [e1]
                  replace HMvm := Lib.hid (HMvm.out.step hG.out); replace HMQ := Lib.hid (HMQ.out.step hG.out); replace VB := Lib.hid (VB.out.step hG.out); replace HS := Lib.hid (HS.out.step hG.out)
                  clear e1 hql
                  go_wp2_with fail
                  go_roundw
                  case rel => exact ⟨t + 1, by go_num, by omega, HS, HMvm, VB, HMQ⟩
                  case measure => simp [intOf]; omega
          · have h4 : ¬ (t : Int) < 12 := by omega
            go_wp2_with fail
            go_ret
            exact ⟨rfl, HS.out.below⟩
  · go_enter Try.func4, Try.ntmps4
    go_wp2_with fail
    refine (awake12_any _).mono ?_
    rintro e w1 ⟨rfl, hg⟩
    have HG := Lib.hid hg
    clear hg
    go_wp2_with fail
    refine (few_any _ _ _ _).mono ?_
    rintro e w2 ⟨rfl, rfl⟩
    rw [decide_eq_false (by omega)]
    go_wp2_with fail
    refine (awake12_any _).mono ?_
    rintro e w3 ⟨rfl, hg⟩
    have HG := Lib.hid (grown_trans HG.out hg)
    clear hg
    go_wp2_with fail
    go_ret
    exact ⟨rfl, below_of HG.out⟩

/-! ### HilbertMinimal: the statement, from its walk -/
set_option maxRecDepth 100000 in
theorem liftedHilbertMinimal (os : Os) (started : os.Started) (H : Type) (enc : TypeId × Value → H) :
    ReturnsInHanded {} Try.checked os 4 .any (Rows.hilbertMinimalSpec.pre6 enc Try.prog Try.f4 Rows.hilbertMinimalRow.domain false) (Rows.hilbertMinimalSpec.post enc Try.prog Try.f4 false true false false) := by
  refine returnsInHanded_of_change (C := Try.checked) own started (by kernel_rfl) Try.func4
    (ChangeSpec.witness6 (enc := enc) (C := Try.checked) false ⟨#[], #[.slice none 0 0], []⟩ 8 (by kernel_rfl) (by kernel_rfl) (by kernel_rfl) (by kernel_rfl)) ?_
  intro W base args ds gs before hval0 hW hcnd _
  have hval : ∀ (j : Nat) t v, Try.f4.params[j]? = some t → args[j]? = some v → Value.okWide Try.prog W .any base t v := hval0
  have hW' := hW
  obtain ⟨p, q, hA0, hV, rfl, hfz, hnd⟩ := hW
  have hA : DataW.TrodAll enc Try.prog W 0 (fun _ => true) true Try.f4.params.toList args.toList ds p := hA0
  rw [Try.params4] at hA hval
  obtain ⟨v0, vs0, d0, ds0, p0, q0, hargs, rfl, rfl, h0, r0⟩ := trodAll_cons hA
  obtain ⟨rfl, rfl, rfl⟩ := trodAll_nil r0
  obtain rfl : args = #[v0] := by cases args; simp_all
  obtain ⟨rfl, rfl⟩ := trodVars_none hV
  obtain ⟨a0, len0, cap0, rfl⟩ := okWide_slice Try.underlying22 (hval 0 22 v0 rfl rfl)
  have k0 := h0
  have lt0 : ∀ x ∈ p0, x.block < W.heap.size := by obtain ⟨m, hm⟩ := k0; exact DataW.trod_lt m _ _ _ hm
  obtain ⟨z0, w0⟩ : ∃ zs, IsRow .i64 W a0 len0 cap0 zs := by
    obtain ⟨fuel, hf⟩ := h0
    rcases open_ints Try.underlying22 Try.underlying3 (by kernel_rfl) hf with ⟨hcs, _⟩ | ⟨x, l, c, zs, hcs, _, hl, hm, hz, _, hcell, hwz⟩
    · simp [Value.cells] at hcs
      obtain ⟨rfl, rfl, rfl⟩ := hcs
      exact ⟨[], .inl ⟨rfl, rfl, rfl, rfl⟩⟩
    · simp [Value.cells] at hcs
      obtain ⟨rfl, rfl, rfl⟩ := hcs
      exact ⟨zs, .inr ⟨_, rfl, hl, hm, by simpa using hz, hcell, hwz⟩⟩
  clear hA0 hval0
  refine (walkHilbertMinimal a0 len0 cap0 z0 W w0).mono fun e W' ⟨he, bel⟩ => ?_
  subst he
  exact ⟨_, rfl, _, _, _, [], _, [], hW', trodAll_mk1 (shut_bool Try.underlying4 _), (trodAll_cons_mk (Below.trod laidOut (by kernel_rfl) (of_decide_eq_true (by kernel_rfl)) k0 bel lt0) trodAll_mk0), rfl, bel.frame _, fun h => by cases h⟩

theorem hilbertMinimal_holds : Rows.HilbertMinimalSaid :=
  OpenClaim.holds_of_wide 4 Try.f4 rfl rfl rfl rfl rfl rfl rfl ⟨rfl, rfl, rfl, rfl, rfl⟩ rfl rfl rfl rfl rfl (by kernel_rfl) Try.func4 (by kernel_rfl)
    (of_decide_eq_true (by kernel_rfl)) (by unfold Func.isWrapper; first | (rw [if_pos (by decide +kernel)]; kernel_rfl) | (rw [if_neg (by decide +kernel)]; exact ⟨rfl, rfl⟩))
    (fun os started H enc _ => liftedHilbertMinimal os started H enc)
#print axioms hilbertMinimal_holds
end Go.Proofs.Ytgcfafjgaifmiaa
