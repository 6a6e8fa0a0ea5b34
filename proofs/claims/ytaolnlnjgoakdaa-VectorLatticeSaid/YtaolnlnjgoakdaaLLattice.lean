/- VectorLattice: for every input it answers true. -/
import Derived.Test.YtaolnlnjgoakdaaM
namespace Go.Proofs.Ytaolnlnjgoakdaa
open Go.ChangeShapes Go.WideShapes Go.ChangeAt Go.RowKit
set_option linter.unusedVariables false

set_option maxHeartbeats 4000000 in
theorem walkVectorLattice (a0 : Option Addr) (len0 cap0 : Nat) (z0 : List Int) (w : World) (w0 : IsRow .i64 w a0 len0 cap0 z0) :
    Calls Try.prog 5 #[.slice a0 len0 cap0] w fun e w' => e = .returned (.bool true) ∧ Below w.heap.size w w' := by
  obtain ⟨hI, hlen⟩ := w0.ints
  generalize z0.take len0 = zs at hI hlen
  subst hlen
  have HI := Lib.hid hI
  clear hI w0
  by_cases hfew : (zs.length : Int) ≤ 400
  · go_enter Try.func5, Try.ntmps5
    go_wp2_with fail
    refine (awake_any _).mono ?_
    rintro e w1 ⟨rfl, hg⟩
    have HG := Lib.hid hg
    clear hg
    go_wp2_with fail
    refine (few_any _ _ _ _).mono ?_
    rintro e w2 ⟨rfl, rfl⟩
    rw [decide_eq_true hfew]
    go_wp2_with fail
    refine (new_st (HI.out.same HG.out) HG.out).mono ?_
    rintro e w3 ⟨p, d, rfl, hs⟩
    have HS := Lib.hid hs
    clear hs HG HI
    go_wp2_with fail
    refine (next_st HS.out _ (by omega) (by omega)).mono ?_
    rintro e w4 ⟨n, rfl, hn0, hn1, hs, hg⟩
    replace HS := Lib.hid hs
    clear hs hg
    go_wp2_with fail
    refine (vector_st HS.out _ (by omega)).mono ?_
    rintro e w5 ⟨va, A, rfl, hlA, hpA, hv, hs, hg⟩
    have Vva := Lib.hid hv; replace HS := Lib.hid hs; have LA := Lib.hid hlA; have PA := Lib.hid hpA
    clear hv hs hg hlA hpA
    go_wp2_with fail
    refine (vector_st HS.out _ (by omega)).mono ?_
    rintro e w6 ⟨vb, B, rfl, hlB, hpB, hv, hs, hg⟩
    replace Vva := Lib.hid (Vva.out.deal hg)
    have Vvb := Lib.hid hv; replace HS := Lib.hid hs; have LB := Lib.hid hlB; have PB := Lib.hid hpB
    clear hv hs hg hlB hpB
    go_wp2_with fail
    refine (vector_st HS.out _ (by omega)).mono ?_
    rintro e w7 ⟨vc, C, rfl, hlC, hpC, hv, hs, hg⟩
    replace Vva := Lib.hid (Vva.out.deal hg)
    replace Vvb := Lib.hid (Vvb.out.deal hg)
    have Vvc := Lib.hid hv; replace HS := Lib.hid hs; have LC := Lib.hid hlC; have PC := Lib.hid hpC
    clear hv hs hg hlC hpC
    have hA := elem_valid (by have := LA.out; omega) PA.out
    have hB := elem_valid (by have := LB.out; omega) PB.out
    have hC := elem_valid (by have := LC.out; omega) PC.out
    obtain ⟨U, HM, pU, hU1, hU2, hU3⟩ := max_facts hA hB (by have := LA.out; have := LB.out; omega) PA.out PB.out
    obtain ⟨D, HN, pD, hD1, hD2, hD3⟩ := min_facts hA hB (by have := LA.out; have := LB.out; omega) PA.out PB.out
    have HU3 := Lib.hid (hU3 C hC (by have := LA.out; have := LC.out; omega)); have HD3 := Lib.hid (hD3 C hC (by have := LA.out; have := LC.out; omega))
    have HM := Lib.hid HM; have HN := Lib.hid HN; have PU := Lib.hid pU; have PD := Lib.hid pD
    have HU1 := Lib.hid hU1; have HU2 := Lib.hid hU2; have HD1 := Lib.hid hD1; have HD2 := Lib.hid hD2
    clear hA hB hC pU pD hU1 hU2 hU3 hD1 hD2 hD3
    go_wp2_with fail
    have HD := Lib.hid HS.out.lt
    refine (max_any _ _ _ _ _ Vva.out.1 Vvb.out.1).mono ?_
    rintro e w8 ⟨vu, rfl, ho, hg⟩
    replace Vva := Lib.hid (Vva.out.step hg)
    replace Vvb := Lib.hid (Vvb.out.step hg)
    replace Vvc := Lib.hid (Vvc.out.step hg)
    replace HS := Lib.hid (HS.out.step hg); have Ovu := Lib.hid ho
    clear ho hg
    rw [HM.out] at Ovu ⊢
    have Vvu := Lib.hid (Ovu.out.vec (elem_bd PU.out) HD.out)
    clear Ovu HD
    go_wp2_with fail
    have HD := Lib.hid HS.out.lt
    refine (min_any _ _ _ _ _ Vva.out.1 Vvb.out.1).mono ?_
    rintro e w9 ⟨vd, rfl, ho, hg⟩
    replace Vva := Lib.hid (Vva.out.step hg)
    replace Vvb := Lib.hid (Vvb.out.step hg)
    replace Vvc := Lib.hid (Vvc.out.step hg)
    replace Vvu := Lib.hid (Vvu.out.step hg)
    replace HS := Lib.hid (HS.out.step hg); have Ovd := Lib.hid ho
    clear ho hg
    rw [HN.out] at Ovd ⊢
    have Vvd := Lib.hid (Ovd.out.vec (elem_bd PD.out) HD.out)
    clear Ovd HD
    go_wp2_with fail
    refine (leq_any _ _ _ _ _ Vva.out.1 Vvu.out.1).mono ?_
    rintro e w10 ⟨rfl, rfl⟩
    rw [HU1.out]
    go_wp2_with fail
    refine (leq_any _ _ _ _ _ Vvb.out.1 Vvu.out.1).mono ?_
    rintro e w11 ⟨rfl, rfl⟩
    rw [HU2.out]
    go_wp2_with fail
    refine (leq_any _ _ _ _ _ Vvd.out.1 Vva.out.1).mono ?_
    rintro e w12 ⟨rfl, rfl⟩
    rw [HD1.out]
    go_wp2_with fail
    refine (leq_any _ _ _ _ _ Vvd.out.1 Vvb.out.1).mono ?_
    rintro e w13 ⟨rfl, rfl⟩
    rw [HD2.out]
    cases hr : leqB A C
    all_goals (have HR := Lib.hid hr; clear hr)
    · go_wp2_with fail
      refine (leq_any _ _ _ _ _ Vva.out.1 Vvc.out.1).mono ?_
      rintro e w14 ⟨rfl, rfl⟩
      rw [HR.out]
      have HY : Hid (leqB U C = false) := Lib.hid (by rw [← HU3.out, HR.out]; rfl)
      go_wp2_with fail
      refine (leq_any _ _ _ _ _ Vvu.out.1 Vvc.out.1).mono ?_
      rintro e w15 ⟨rfl, rfl⟩
      rw [HY.out]
      cases ht : leqB C A
      all_goals (have HT := Lib.hid ht; clear ht)
      · go_wp2_with fail
        refine (leq_any _ _ _ _ _ Vvc.out.1 Vva.out.1).mono ?_
        rintro e w16 ⟨rfl, rfl⟩
        rw [HT.out]
        have HZ : Hid (leqB C D = false) := Lib.hid (by rw [← HD3.out, HT.out]; rfl)
        go_wp2_with fail
        refine (leq_any _ _ _ _ _ Vvc.out.1 Vvd.out.1).mono ?_
        rintro e w17 ⟨rfl, rfl⟩
        rw [HZ.out]
        go_wp2_with fail
        go_ret
        exact ⟨rfl, HS.out.below⟩
      · go_wp2_with fail
        refine (leq_any _ _ _ _ _ Vvc.out.1 Vva.out.1).mono ?_
        rintro e w16 ⟨rfl, rfl⟩
        rw [HT.out]
        cases hv : leqB C B
        all_goals (have HV := Lib.hid hv; clear hv)
        · go_wp2_with fail
          refine (leq_any _ _ _ _ _ Vvc.out.1 Vvb.out.1).mono ?_
          rintro e w17 ⟨rfl, rfl⟩
          rw [HV.out]
          have HZ : Hid (leqB C D = false) := Lib.hid (by rw [← HD3.out, HT.out, HV.out]; rfl)
          go_wp2_with fail
          refine (leq_any _ _ _ _ _ Vvc.out.1 Vvd.out.1).mono ?_
          rintro e w18 ⟨rfl, rfl⟩
          rw [HZ.out]
          go_wp2_with fail
          go_ret
          exact ⟨rfl, HS.out.below⟩
        · go_wp2_with fail
          refine (leq_any _ _ _ _ _ Vvc.out.1 Vvb.out.1).mono ?_
          rintro e w17 ⟨rfl, rfl⟩
          rw [HV.out]
          have HZ : Hid (leqB C D = true) := Lib.hid (by rw [← HD3.out, HT.out, HV.out]; rfl)
          go_wp2_with fail
          refine (leq_any _ _ _ _ _ Vvc.out.1 Vvd.out.1).mono ?_
          rintro e w18 ⟨rfl, rfl⟩
          rw [HZ.out]
          go_wp2_with fail
          go_ret
          exact ⟨rfl, HS.out.below⟩
    · go_wp2_with fail
      refine (leq_any _ _ _ _ _ Vva.out.1 Vvc.out.1).mono ?_
      rintro e w14 ⟨rfl, rfl⟩
      rw [HR.out]
      cases hq : leqB B C
      all_goals (have HQ := Lib.hid hq; clear hq)
      · go_wp2_with fail
        refine (leq_any _ _ _ _ _ Vvb.out.1 Vvc.out.1).mono ?_
        rintro e w15 ⟨rfl, rfl⟩
        rw [HQ.out]
        have HY : Hid (leqB U C = false) := Lib.hid (by rw [← HU3.out, HR.out, HQ.out]; rfl)
        go_wp2_with fail
        refine (leq_any _ _ _ _ _ Vvu.out.1 Vvc.out.1).mono ?_
        rintro e w16 ⟨rfl, rfl⟩
        rw [HY.out]
        cases ht : leqB C A
        all_goals (have HT := Lib.hid ht; clear ht)
        · go_wp2_with fail
          refine (leq_any _ _ _ _ _ Vvc.out.1 Vva.out.1).mono ?_
          rintro e w17 ⟨rfl, rfl⟩
          rw [HT.out]
          have HZ : Hid (leqB C D = false) := Lib.hid (by rw [← HD3.out, HT.out]; rfl)
          go_wp2_with fail
          refine (leq_any _ _ _ _ _ Vvc.out.1 Vvd.out.1).mono ?_
          rintro e w18 ⟨rfl, rfl⟩
          rw [HZ.out]
          go_wp2_with fail
          go_ret
          exact ⟨rfl, HS.out.below⟩
        · go_wp2_with fail
          refine (leq_any _ _ _ _ _ Vvc.out.1 Vva.out.1).mono ?_
          rintro e w17 ⟨rfl, rfl⟩
          rw [HT.out]
          cases hv : leqB C B
          all_goals (have HV := Lib.hid hv; clear hv)
          · go_wp2_with fail
            refine (leq_any _ _ _ _ _ Vvc.out.1 Vvb.out.1).mono ?_
            rintro e w18 ⟨rfl, rfl⟩
            rw [HV.out]
            have HZ : Hid (leqB C D = false) := Lib.hid (by rw [← HD3.out, HT.out, HV.out]; rfl)
            go_wp2_with fail
            refine (leq_any _ _ _ _ _ Vvc.out.1 Vvd.out.1).mono ?_
            rintro e w19 ⟨rfl, rfl⟩
            rw [HZ.out]
            go_wp2_with fail
            go_ret
            exact ⟨rfl, HS.out.below⟩
          · go_wp2_with fail
            refine (leq_any _ _ _ _ _ Vvc.out.1 Vvb.out.1).mono ?_
            rintro e w18 ⟨rfl, rfl⟩
            rw [HV.out]
            have HZ : Hid (leqB C D = true) := Lib.hid (by rw [← HD3.out, HT.out, HV.out]; rfl)
            go_wp2_with fail
            refine (leq_any _ _ _ _ _ Vvc.out.1 Vvd.out.1).mono ?_
            rintro e w19 ⟨rfl, rfl⟩
            rw [HZ.out]
            go_wp2_with fail
            go_ret
            exact ⟨rfl, HS.out.below⟩
      · go_wp2_with fail
        refine (leq_any _ _ _ _ _ Vvb.out.1 Vvc.out.1).mono ?_
        rintro e w15 ⟨rfl, rfl⟩
        rw [HQ.out]
        have HY : Hid (leqB U C = true) := Lib.hid (by rw [← HU3.out, HR.out, HQ.out]; rfl)
        go_wp2_with fail
        refine (leq_any _ _ _ _ _ Vvu.out.1 Vvc.out.1).mono ?_
        rintro e w16 ⟨rfl, rfl⟩
        rw [HY.out]
        cases ht : leqB C A
        all_goals (have HT := Lib.hid ht; clear ht)
        · go_wp2_with fail
          refine (leq_any _ _ _ _ _ Vvc.out.1 Vva.out.1).mono ?_
          rintro e w17 ⟨rfl, rfl⟩
          rw [HT.out]
          have HZ : Hid (leqB C D = false) := Lib.hid (by rw [← HD3.out, HT.out]; rfl)
          go_wp2_with fail
          refine (leq_any _ _ _ _ _ Vvc.out.1 Vvd.out.1).mono ?_
          rintro e w18 ⟨rfl, rfl⟩
          rw [HZ.out]
          go_wp2_with fail
          go_ret
          exact ⟨rfl, HS.out.below⟩
        · go_wp2_with fail
          refine (leq_any _ _ _ _ _ Vvc.out.1 Vva.out.1).mono ?_
          rintro e w17 ⟨rfl, rfl⟩
          rw [HT.out]
          cases hv : leqB C B
          all_goals (have HV := Lib.hid hv; clear hv)
          · go_wp2_with fail
            refine (leq_any _ _ _ _ _ Vvc.out.1 Vvb.out.1).mono ?_
            rintro e w18 ⟨rfl, rfl⟩
            rw [HV.out]
            have HZ : Hid (leqB C D = false) := Lib.hid (by rw [← HD3.out, HT.out, HV.out]; rfl)
            go_wp2_with fail
            refine (leq_any _ _ _ _ _ Vvc.out.1 Vvd.out.1).mono ?_
            rintro e w19 ⟨rfl, rfl⟩
            rw [HZ.out]
            go_wp2_with fail
            go_ret
            exact ⟨rfl, HS.out.below⟩
          · go_wp2_with fail
            refine (leq_any _ _ _ _ _ Vvc.out.1 Vvb.out.1).mono ?_
            rintro e w18 ⟨rfl, rfl⟩
            rw [HV.out]
            have HZ : Hid (leqB C D = true) := Lib.hid (by rw [← HD3.out, HT.out, HV.out]; rfl)
            go_wp2_with fail
            refine (leq_any _ _ _ _ _ Vvc.out.1 Vvd.out.1).mono ?_
            rintro e w19 ⟨rfl, rfl⟩
            rw [HZ.out]
            go_wp2_with fail
            go_ret
            exact ⟨rfl, HS.out.below⟩
  · go_enter Try.func5, Try.ntmps5
    go_wp2_with fail
    refine (awake_any _).mono ?_
    rintro e w1 ⟨rfl, hg⟩
    have HG := Lib.hid hg
    clear hg
    go_wp2_with fail
    refine (few_any _ _ _ _).mono ?_
    rintro e w2 ⟨rfl, rfl⟩
    rw [decide_eq_false (by omega)]
    go_wp2_with fail
    refine (awake_any _).mono ?_
    rintro e w3 ⟨rfl, hg⟩
    have HG := Lib.hid (grown_trans HG.out hg)
    clear hg
    go_wp2_with fail
    go_ret
    exact ⟨rfl, below_of HG.out⟩

/-! ### VectorLattice: the statement, from its walk -/
set_option maxRecDepth 100000 in
theorem liftedVectorLattice (os : Os) (started : os.Started) (H : Type) (enc : TypeId × Value → H) :
    ReturnsInHanded {} Try.checked os 5 .any (Rows.vectorLatticeSpec.pre6 enc Try.prog Try.f5 Rows.vectorLatticeRow.domain false) (Rows.vectorLatticeSpec.post enc Try.prog Try.f5 false true false false) := by
  refine returnsInHanded_of_change (C := Try.checked) own started (by kernel_rfl) Try.func5
    (ChangeSpec.witness6 (enc := enc) (C := Try.checked) false ⟨#[], #[.slice none 0 0], []⟩ 8 (by kernel_rfl) (by kernel_rfl) (by kernel_rfl) (by kernel_rfl)) ?_
  intro W base args ds gs before hval0 hW hcnd _
  have hval : ∀ (j : Nat) t v, Try.f5.params[j]? = some t → args[j]? = some v → Value.okWide Try.prog W .any base t v := hval0
  have hW' := hW
  obtain ⟨p, q, hA0, hV, rfl, hfz, hnd⟩ := hW
  have hA : DataW.TrodAll enc Try.prog W 0 (fun _ => true) true Try.f5.params.toList args.toList ds p := hA0
  rw [Try.params5] at hA hval
  obtain ⟨v0, vs0, d0, ds0, p0, q0, hargs, rfl, rfl, h0, r0⟩ := trodAll_cons hA
  obtain ⟨rfl, rfl, rfl⟩ := trodAll_nil r0
  obtain rfl : args = #[v0] := by cases args; simp_all
  obtain ⟨rfl, rfl⟩ := trodVars_none hV
  obtain ⟨a0, len0, cap0, rfl⟩ := okWide_slice Try.underlying22 (hval 0 22 v0 rfl rfl)
  have k0 := h0
  have lt0 : ∀ x ∈ p0, x.block < W.heap.size := by obtain ⟨m, hm⟩ := k0; exact DataW.trod_lt m _ _ _ hm
  obtain ⟨z0, w0⟩ : ∃ zs, IsRow .i64 W a0 len0 cap0 zs := by
    obtain ⟨fuel, hf⟩ := h0
    rcases open_ints Try.underlying22 Try.underlying3 (by kernel_rfl) hf with ⟨hcs, _⟩ | ⟨x, l, c, zs, hcs, _, hl, hm, hz, _, hcell, hwz⟩
    · simp [Value.cells] at hcs
      obtain ⟨rfl, rfl, rfl⟩ := hcs
      exact ⟨[], .inl ⟨rfl, rfl, rfl, rfl⟩⟩
    · simp [Value.cells] at hcs
      obtain ⟨rfl, rfl, rfl⟩ := hcs
      exact ⟨zs, .inr ⟨_, rfl, hl, hm, by simpa using hz, hcell, hwz⟩⟩
  clear hA0 hval0
  refine (walkVectorLattice a0 len0 cap0 z0 W w0).mono fun e W' ⟨he, bel⟩ => ?_
  subst he
  exact ⟨_, rfl, _, _, _, [], _, [], hW', trodAll_mk1 (shut_bool Try.underlying4 _), (trodAll_cons_mk (Below.trod laidOut (by kernel_rfl) (of_decide_eq_true (by kernel_rfl)) k0 bel lt0) trodAll_mk0), rfl, bel.frame _, fun h => by cases h⟩

theorem vectorLattice_holds : Rows.VectorLatticeSaid :=
  OpenClaim.holds_of_wide 5 Try.f5 rfl rfl rfl rfl rfl rfl rfl ⟨rfl, rfl, rfl, rfl, rfl⟩ rfl rfl rfl rfl rfl (by kernel_rfl) Try.func5 (by kernel_rfl)
    (of_decide_eq_true (by kernel_rfl)) (by unfold Func.isWrapper; first | (rw [if_pos (by decide +kernel)]; kernel_rfl) | (rw [if_neg (by decide +kernel)]; exact ⟨rfl, rfl⟩))
    (fun os started H enc _ => liftedVectorLattice os started H enc)
#print axioms vectorLattice_holds
end Go.Proofs.Ytaolnlnjgoakdaa
