/- VectorUndone: for every input it answers true. -/
import Derived.Test.YtaolnlnjgoakdaaM
namespace Go.Proofs.Ytaolnlnjgoakdaa
open Go.ChangeShapes Go.WideShapes Go.ChangeAt Go.RowKit
set_option linter.unusedVariables false

set_option maxHeartbeats 4000000 in
theorem walkVectorUndone (a0 : Option Addr) (len0 cap0 : Nat) (z0 : List Int) (w : World) (w0 : IsRow .i64 w a0 len0 cap0 z0) :
    Calls Try.prog 6 #[.slice a0 len0 cap0] w fun e w' => e = .returned (.bool true) ∧ Below w.heap.size w w' := by
  obtain ⟨hI, hlen⟩ := w0.ints
  generalize z0.take len0 = zs at hI hlen
  subst hlen
  have HI := Lib.hid hI
  clear hI w0
  by_cases hfew : (zs.length : Int) ≤ 400
  · go_enter Try.func6, Try.ntmps6
    go_wp2_with fail
    refine (awake_any _).mono ?_
    rintro e w1 ⟨rfl, hg⟩
    have HG := Lib.hid hg
    clear hg
    go_wp2_with fail
    refine (few_any _ _ _ _).mono ?_
    rintro e w2 ⟨rfl, rfl⟩
    rw [decide_eq_true hfew]
    go_wp2_with fail
    refine (new_st (HI.out.same HG.out) HG.out).mono ?_
    rintro e w3 ⟨p, d, rfl, hs⟩
    have HS := Lib.hid hs
    clear hs HG HI
    go_wp2_with fail
    refine (next_st HS.out _ (by omega) (by omega)).mono ?_
    rintro e w4 ⟨n, rfl, hn0, hn1, hs, hg⟩
    replace HS := Lib.hid hs
    clear hs hg
    go_wp2_with fail
    refine (small_st HS.out _ 9 (by omega) (by omega) (by omega)).mono ?_
    rintro e w5 ⟨va, A, rfl, hlA, hpA, hv, hs, hg⟩
    have Vva := Lib.hid hv; replace HS := Lib.hid hs; have LA := Lib.hid hlA; have PA := Lib.hid hpA
    clear hv hs hg hlA hpA
    go_wp2_with fail
    refine (small_st HS.out _ 9 (by omega) (by omega) (by omega)).mono ?_
    rintro e w6 ⟨vb, B, rfl, hlB, hpB, hv, hs, hg⟩
    replace Vva := Lib.hid (Vva.out.deal hg)
    have Vvb := Lib.hid hv; replace HS := Lib.hid hs; have LB := Lib.hid hlB; have PB := Lib.hid hpB
    clear hv hs hg hlB hpB
    go_wp2_with fail
    refine (vector_st HS.out _ (by omega)).mono ?_
    rintro e w7 ⟨vc, C, rfl, hlC, hpC, hv, hs, hg⟩
    replace Vva := Lib.hid (Vva.out.deal hg)
    replace Vvb := Lib.hid (Vvb.out.deal hg)
    have Vvc := Lib.hid hv; replace HS := Lib.hid hs; have LC := Lib.hid hlC; have PC := Lib.hid hpC
    clear hv hs hg hlC hpC
    obtain ⟨S, HM, HN, pS, hAS, hD⟩ := undone_facts (A := A) (B := B) (C := C) (by have := LA.out; have := LB.out; omega) (by have := LA.out; have := LC.out; omega) (by have := LA.out; omega) PA.out PB.out PC.out
    have HM := Lib.hid HM; have HN := Lib.hid HN; have PS := Lib.hid pS; have HAS := Lib.hid hAS; have HD' := Lib.hid hD
    clear pS hAS hD
    go_wp2_with fail
    have HD := Lib.hid HS.out.lt
    refine (add_any _ _ _ _ _ Vva.out.1 Vvb.out.1).mono ?_
    rintro e w8 ⟨vs, rfl, ho, hg⟩
    replace Vva := Lib.hid (Vva.out.step hg)
    replace Vvb := Lib.hid (Vvb.out.step hg)
    replace Vvc := Lib.hid (Vvc.out.step hg)
    replace HS := Lib.hid (HS.out.step hg); have Ovs := Lib.hid ho
    clear ho hg
    rw [HM.out] at Ovs ⊢
    have Vvs := Lib.hid (Ovs.out.vec (by intro x hx; have := PS.out x hx; omega) HD.out)
    clear Ovs HD
    go_wp2_with fail
    have HD := Lib.hid HS.out.lt
    refine (sub_any _ _ _ _ _ Vvs.out.1 Vvb.out.1).mono ?_
    rintro e w9 ⟨vk, rfl, ho, hg⟩
    replace Vva := Lib.hid (Vva.out.step hg)
    replace Vvb := Lib.hid (Vvb.out.step hg)
    replace Vvc := Lib.hid (Vvc.out.step hg)
    replace Vvs := Lib.hid (Vvs.out.step hg)
    replace HS := Lib.hid (HS.out.step hg); have Ovk := Lib.hid ho
    clear ho hg
    rw [HN.out] at Ovk ⊢
    have Vvk := Lib.hid (Ovk.out.vec (by intro x hx; have := PA.out x hx; omega) HD.out)
    clear Ovk HD
    go_wp2_with fail
    refine (same_any _ _ _ _ _ Vvk.out.1 Vva.out.1).mono ?_
    rintro e w10 ⟨rfl, hd⟩
    replace Vva := Lib.hid (Vva.out.drew hd)
    replace Vvb := Lib.hid (Vvb.out.drew hd)
    replace Vvc := Lib.hid (Vvc.out.drew hd)
    replace Vvs := Lib.hid (Vvs.out.drew hd)
    replace Vvk := Lib.hid (Vvk.out.drew hd)
    replace HS := Lib.hid (HS.out.drew hd)
    clear hd
    rw [beq_self_eq_true]
    go_wp2_with fail
    refine (leq_any _ _ _ _ _ Vva.out.1 Vvs.out.1).mono ?_
    rintro e w11 ⟨rfl, rfl⟩
    rw [HAS.out]
    rcases HD'.out with ⟨X, Y, hx, hy, hl, bx, by_⟩ | ⟨X, hx, hy, bx⟩ | ⟨hx, hy⟩
    all_goals (have HX := Lib.hid hx; have HY := Lib.hid hy; clear hx hy)
    · have HL := Lib.hid hl; have BX := Lib.hid bx; have BY := Lib.hid by_
      clear hl bx by_
      go_wp2_with fail
      have HD := Lib.hid HS.out.lt
      refine (add_any _ _ _ _ _ Vva.out.1 Vvc.out.1).mono ?_
      rintro e w12 ⟨vx, rfl, ho, hg⟩
      replace Vva := Lib.hid (Vva.out.step hg)
      replace Vvb := Lib.hid (Vvb.out.step hg)
      replace Vvc := Lib.hid (Vvc.out.step hg)
      replace Vvs := Lib.hid (Vvs.out.step hg)
      replace Vvk := Lib.hid (Vvk.out.step hg)
      replace HS := Lib.hid (HS.out.step hg); have Ovx := Lib.hid ho
      clear ho hg
      rw [HX.out] at Ovx ⊢
      have Vvx := Lib.hid (Ovx.out.vec BX.out HD.out)
      clear Ovx HD
      go_wp2_with fail
      have HD := Lib.hid HS.out.lt
      refine (add_any _ _ _ _ _ Vvs.out.1 Vvc.out.1).mono ?_
      rintro e w13 ⟨vy, rfl, ho, hg⟩
      replace Vva := Lib.hid (Vva.out.step hg)
      replace Vvb := Lib.hid (Vvb.out.step hg)
      replace Vvc := Lib.hid (Vvc.out.step hg)
      replace Vvs := Lib.hid (Vvs.out.step hg)
      replace Vvk := Lib.hid (Vvk.out.step hg)
      replace Vvx := Lib.hid (Vvx.out.step hg)
      replace HS := Lib.hid (HS.out.step hg); have Ovy := Lib.hid ho
      clear ho hg
      rw [HY.out] at Ovy ⊢
      have Vvy := Lib.hid (Ovy.out.vec BY.out HD.out)
      clear Ovy HD
      go_wp2_with fail
      refine (leq_any _ _ _ _ _ Vvx.out.1 Vvy.out.1).mono ?_
      rintro e w14 ⟨rfl, rfl⟩
      rw [HL.out]
      go_wp2_with fail
      go_ret
      exact ⟨rfl, HS.out.below⟩
    · have BX := Lib.hid bx
      clear bx
      go_wp2_with fail
      have HD := Lib.hid HS.out.lt
      refine (add_any _ _ _ _ _ Vva.out.1 Vvc.out.1).mono ?_
      rintro e w12 ⟨vx, rfl, ho, hg⟩
      replace Vva := Lib.hid (Vva.out.step hg)
      replace Vvb := Lib.hid (Vvb.out.step hg)
      replace Vvc := Lib.hid (Vvc.out.step hg)
      replace Vvs := Lib.hid (Vvs.out.step hg)
      replace Vvk := Lib.hid (Vvk.out.step hg)
      replace HS := Lib.hid (HS.out.step hg); have Ovx := Lib.hid ho
      clear ho hg
      rw [HX.out] at Ovx ⊢
      have Vvx := Lib.hid (Ovx.out.vec BX.out HD.out)
      clear Ovx HD
      go_wp2_with fail
      have HD := Lib.hid HS.out.lt
      refine (add_any _ _ _ _ _ Vvs.out.1 Vvc.out.1).mono ?_
      rintro e w13 ⟨vy, rfl, ho, hg⟩
      replace Vva := Lib.hid (Vva.out.step hg)
      replace Vvb := Lib.hid (Vvb.out.step hg)
      replace Vvc := Lib.hid (Vvc.out.step hg)
      replace Vvs := Lib.hid (Vvs.out.step hg)
      replace Vvk := Lib.hid (Vvk.out.step hg)
      replace Vvx := Lib.hid (Vvx.out.step hg)
      replace HS := Lib.hid (HS.out.step hg); have Ovy := Lib.hid ho
      clear ho hg
      rw [HY.out] at Ovy ⊢
      have Vvy := Lib.hid (Ovy.out.vec (by intro x hx; simp at hx) HD.out)
      clear Ovy HD
      go_wp2_with fail
      go_ret
      exact ⟨rfl, HS.out.below⟩
    · go_wp2_with fail
      have HD := Lib.hid HS.out.lt
      refine (add_any _ _ _ _ _ Vva.out.1 Vvc.out.1).mono ?_
      rintro e w12 ⟨vx, rfl, ho, hg⟩
      replace Vva := Lib.hid (Vva.out.step hg)
      replace Vvb := Lib.hid (Vvb.out.step hg)
      replace Vvc := Lib.hid (Vvc.out.step hg)
      replace Vvs := Lib.hid (Vvs.out.step hg)
      replace Vvk := Lib.hid (Vvk.out.step hg)
      replace HS := Lib.hid (HS.out.step hg); have Ovx := Lib.hid ho
      clear ho hg
      rw [HX.out] at Ovx ⊢
      have Vvx := Lib.hid (Ovx.out.vec (by intro x hx; simp at hx) HD.out)
      clear Ovx HD
      go_wp2_with fail
      have HD := Lib.hid HS.out.lt
      refine (add_any _ _ _ _ _ Vvs.out.1 Vvc.out.1).mono ?_
      rintro e w13 ⟨vy, rfl, ho, hg⟩
      replace Vva := Lib.hid (Vva.out.step hg)
      replace Vvb := Lib.hid (Vvb.out.step hg)
      replace Vvc := Lib.hid (Vvc.out.step hg)
      replace Vvs := Lib.hid (Vvs.out.step hg)
      replace Vvk := Lib.hid (Vvk.out.step hg)
      replace Vvx := Lib.hid (Vvx.out.step hg)
      replace HS := Lib.hid (HS.out.step hg); have Ovy := Lib.hid ho
      clear ho hg
      rw [HY.out] at Ovy ⊢
      have Vvy := Lib.hid (Ovy.out.vec (by intro x hx; simp at hx) HD.out)
      clear Ovy HD
      go_wp2_with fail
      go_ret
      exact ⟨rfl, HS.out.below⟩
  · go_enter Try.func6, Try.ntmps6
    go_wp2_with fail
    refine (awake_any _).mono ?_
    rintro e w1 ⟨rfl, hg⟩
    have HG := Lib.hid hg
    clear hg
    go_wp2_with fail
    refine (few_any _ _ _ _).mono ?_
    rintro e w2 ⟨rfl, rfl⟩
    rw [decide_eq_false (by omega)]
    go_wp2_with fail
    refine (awake_any _).mono ?_
    rintro e w3 ⟨rfl, hg⟩
    have HG := Lib.hid (grown_trans HG.out hg)
    clear hg
    go_wp2_with fail
    go_ret
    exact ⟨rfl, below_of HG.out⟩

/-! ### VectorUndone: the statement, from its walk -/
set_option maxRecDepth 100000 in
theorem liftedVectorUndone (os : Os) (started : os.Started) (H : Type) (enc : TypeId × Value → H) :
    ReturnsInHanded {} Try.checked os 6 .any (Rows.vectorUndoneSpec.pre6 enc Try.prog Try.f6 Rows.vectorUndoneRow.domain false) (Rows.vectorUndoneSpec.post enc Try.prog Try.f6 false true false false) := by
  refine returnsInHanded_of_change (C := Try.checked) own started (by kernel_rfl) Try.func6
    (ChangeSpec.witness6 (enc := enc) (C := Try.checked) false ⟨#[], #[.slice none 0 0], []⟩ 8 (by kernel_rfl) (by kernel_rfl) (by kernel_rfl) (by kernel_rfl)) ?_
  intro W base args ds gs before hval0 hW hcnd _
  have hval : ∀ (j : Nat) t v, Try.f6.params[j]? = some t → args[j]? = some v → Value.okWide Try.prog W .any base t v := hval0
  have hW' := hW
  obtain ⟨p, q, hA0, hV, rfl, hfz, hnd⟩ := hW
  have hA : DataW.TrodAll enc Try.prog W 0 (fun _ => true) true Try.f6.params.toList args.toList ds p := hA0
  rw [Try.params6] at hA hval
  obtain ⟨v0, vs0, d0, ds0, p0, q0, hargs, rfl, rfl, h0, r0⟩ := trodAll_cons hA
  obtain ⟨rfl, rfl, rfl⟩ := trodAll_nil r0
  obtain rfl : args = #[v0] := by cases args; simp_all
  obtain ⟨rfl, rfl⟩ := trodVars_none hV
  obtain ⟨a0, len0, cap0, rfl⟩ := okWide_slice Try.underlying22 (hval 0 22 v0 rfl rfl)
  have k0 := h0
  have lt0 : ∀ x ∈ p0, x.block < W.heap.size := by obtain ⟨m, hm⟩ := k0; exact DataW.trod_lt m _ _ _ hm
  obtain ⟨z0, w0⟩ : ∃ zs, IsRow .i64 W a0 len0 cap0 zs := by
    obtain ⟨fuel, hf⟩ := h0
    rcases open_ints Try.underlying22 Try.underlying3 (by kernel_rfl) hf with ⟨hcs, _⟩ | ⟨x, l, c, zs, hcs, _, hl, hm, hz, _, hcell, hwz⟩
    · simp [Value.cells] at hcs
      obtain ⟨rfl, rfl, rfl⟩ := hcs
      exact ⟨[], .inl ⟨rfl, rfl, rfl, rfl⟩⟩
    · simp [Value.cells] at hcs
      obtain ⟨rfl, rfl, rfl⟩ := hcs
      exact ⟨zs, .inr ⟨_, rfl, hl, hm, by simpa using hz, hcell, hwz⟩⟩
  clear hA0 hval0
  refine (walkVectorUndone a0 len0 cap0 z0 W w0).mono fun e W' ⟨he, bel⟩ => ?_
  subst he
  exact ⟨_, rfl, _, _, _, [], _, [], hW', trodAll_mk1 (shut_bool Try.underlying4 _), (trodAll_cons_mk (Below.trod laidOut (by kernel_rfl) (of_decide_eq_true (by kernel_rfl)) k0 bel lt0) trodAll_mk0), rfl, bel.frame _, fun h => by cases h⟩

theorem vectorUndone_holds : Rows.VectorUndoneSaid :=
  OpenClaim.holds_of_wide 6 Try.f6 rfl rfl rfl rfl rfl rfl rfl ⟨rfl, rfl, rfl, rfl, rfl⟩ rfl rfl rfl rfl rfl (by kernel_rfl) Try.func6 (by kernel_rfl)
    (of_decide_eq_true (by kernel_rfl)) (by unfold Func.isWrapper; first | (rw [if_pos (by decide +kernel)]; kernel_rfl) | (rw [if_neg (by decide +kernel)]; exact ⟨rfl, rfl⟩))
    (fun os started H enc _ => liftedVectorUndone os started H enc)
#print axioms vectorUndone_holds
end Go.Proofs.Ytaolnlnjgoakdaa
