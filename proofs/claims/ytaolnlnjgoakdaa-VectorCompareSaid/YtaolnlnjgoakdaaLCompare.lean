/- VectorCompare: for every input it answers true. -/
import Derived.Test.YtaolnlnjgoakdaaS
namespace Go.Proofs.Ytaolnlnjgoakdaa
open Go.ChangeShapes Go.WideShapes Go.ChangeAt Go.RowKit
set_option linter.unusedVariables false

theorem lexI_neg : ∀ a b : List Int, lexI b a = -lexI a b
  | [], [] => by simp [lexI]
  | [], _ :: _ => by simp [lexI]
  | _ :: _, [] => by simp [lexI]
  | x :: xs, y :: ys => by
    have := lexI_neg xs ys
    unfold lexI
    split <;> split <;> first | omega | (split <;> omega) | skip
theorem lexI_range : ∀ a b : List Int, lexI a b = -1 ∨ lexI a b = 0 ∨ lexI a b = 1
  | [], [] => by simp [lexI]
  | [], _ :: _ => by simp [lexI]
  | _ :: _, [] => by simp [lexI]
  | x :: xs, y :: ys => by
    have := lexI_range xs ys
    unfold lexI
    split
    · omega
    · split <;> omega
theorem compareI_neg (a b : List Int) : compareI b a = -compareI a b := by
  have := lexI_neg a b
  unfold compareI
  split <;> split <;> first | omega | (split <;> omega) | skip
theorem lexI_trans : ∀ a b c : List Int, a.length = b.length → b.length = c.length → lexI a b ≤ 0 → lexI b c ≤ 0 → lexI a c ≤ 0
  | [], [], [], _, _, _, _ => by simp [lexI]
  | x :: xs, y :: ys, z :: zs, h, h', h1, h2 => by
    have := lexI_trans xs ys zs (by simpa using h) (by simpa using h')
    unfold lexI at h1 h2 ⊢
    split at h1 <;> split at h2 <;> split <;> first | omega | (split at h1 <;> first | omega | (split at h2 <;> first | omega | (split <;> first | omega | (apply this <;> omega)))) | (split at h2 <;> first | omega | (split <;> omega)) | (split at h1 <;> first | omega | (split <;> omega))
theorem cmp_trans (a b c : List Int) (h : compareI a b ≤ 0) : compareI b c ≤ 0 → compareI a c ≤ 0 := by
  intro h'
  have := lexI_trans a b c
  unfold compareI at h h' ⊢
  split
  · omega
  · split
    · split at h <;> split at h' <;> first | omega | (split at h <;> first | omega | (split at h' <;> omega)) | (split at h' <;> omega)
    · apply this
      all_goals (split at h <;> split at h' <;> first | omega | (split at h <;> first | omega | (split at h' <;> omega)) | (split at h' <;> omega))
theorem cmp_cases (a b : List Int) : (compareI a b = -1 ∧ compareI b a = 1 ∧ (a == b) = false ∧ ¬ b.length < a.length) ∨ (compareI a b = 0 ∧ compareI b a = 0 ∧ (a == b) = true ∧ ¬ a.length < b.length) ∨
    (compareI a b = 1 ∧ compareI b a = -1 ∧ (a == b) = false ∧ ¬ a.length < b.length) := by
  have h1 := lexI_range a b
  have h2 := compareI_neg a b
  have h3 := compareI_zero a b
  have h4 : compareI a b = -1 ∧ ¬ b.length < a.length ∨ compareI a b = 0 ∨ compareI a b = 1 ∧ ¬ a.length < b.length := by
    unfold compareI
    split
    · omega
    · split <;> omega
  rcases h4 with ⟨h4, h5⟩ | h4 | ⟨h4, h5⟩
  · exact .inl ⟨h4, by omega, by rw [beq_eq_false_iff_ne]; intro e; have := h3.2 e; omega, h5⟩
  · have := h3.1 h4
    subst this
    exact .inr (.inl ⟨h4, h4, by simp, by omega⟩)
  · exact .inr (.inr ⟨h4, by omega, by rw [beq_eq_false_iff_ne]; intro e; have := h3.2 e; omega, h5⟩)

set_option maxHeartbeats 2000000 in
theorem walkVectorCompare (a0 : Option Addr) (len0 cap0 : Nat) (z0 : List Int) (w : World) (w0 : IsRow .i64 w a0 len0 cap0 z0) :
    Calls Try.prog 7 #[.slice a0 len0 cap0] w fun e w' => e = .returned (.bool true) ∧ Below w.heap.size w w' := by
  obtain ⟨hI, hlen⟩ := w0.ints
  generalize z0.take len0 = zs at hI hlen
  subst hlen
  have HI := Lib.hid hI
  clear hI w0
  by_cases hfew : (zs.length : Int) ≤ 400
  · go_enter Try.func7, Try.ntmps7
    go_wp2_with fail
    refine (awake_any _).mono ?_
    rintro e w1 ⟨rfl, hg⟩
    have HG := Lib.hid hg
    clear hg
    go_wp2_with fail
    refine (few_any _ _ _ _).mono ?_
    rintro e w2 ⟨rfl, rfl⟩
    rw [decide_eq_true hfew]
    go_wp2_with fail
    refine (new_st (HI.out.same HG.out) HG.out).mono ?_
    rintro e w3 ⟨p, d, rfl, hs⟩
    have HS := Lib.hid hs
    clear hs HG HI
    go_wp2_with fail
    refine (next_st HS.out _ (by omega) (by omega)).mono ?_
    rintro e w4 ⟨nva, rfl, hnva0, hnva1, hs, hg⟩
    replace HS := Lib.hid hs
    clear hs hg
    go_wp2_with fail
    refine (vector_st HS.out _ (by omega)).mono ?_
    rintro e w5 ⟨va, A, rfl, hlA, hpA, hv, hs, hg⟩
    have Vva := Lib.hid hv; replace HS := Lib.hid hs; have LA := Lib.hid hlA; have PA := Lib.hid hpA
    clear hv hs hg hlA hpA
    go_wp2_with fail
    refine (next_st HS.out _ (by omega) (by omega)).mono ?_
    rintro e w6 ⟨nvb, rfl, hnvb0, hnvb1, hs, hg⟩
    replace Vva := Lib.hid (Vva.out.deal hg)
    replace HS := Lib.hid hs
    clear hs hg
    go_wp2_with fail
    refine (vector_st HS.out _ (by omega)).mono ?_
    rintro e w7 ⟨vb, B, rfl, hlB, hpB, hv, hs, hg⟩
    replace Vva := Lib.hid (Vva.out.deal hg)
    have Vvb := Lib.hid hv; replace HS := Lib.hid hs; have LB := Lib.hid hlB; have PB := Lib.hid hpB
    clear hv hs hg hlB hpB
    go_wp2_with fail
    refine (next_st HS.out _ (by omega) (by omega)).mono ?_
    rintro e w8 ⟨nvc, rfl, hnvc0, hnvc1, hs, hg⟩
    replace Vva := Lib.hid (Vva.out.deal hg)
    replace Vvb := Lib.hid (Vvb.out.deal hg)
    replace HS := Lib.hid hs
    clear hs hg
    go_wp2_with fail
    refine (vector_st HS.out _ (by omega)).mono ?_
    rintro e w9 ⟨vc, C, rfl, hlC, hpC, hv, hs, hg⟩
    replace Vva := Lib.hid (Vva.out.deal hg)
    replace Vvb := Lib.hid (Vvb.out.deal hg)
    have Vvc := Lib.hid hv; replace HS := Lib.hid hs; have LC := Lib.hid hlC; have PC := Lib.hid hpC
    clear hv hs hg hlC hpC
    rcases cmp_cases A B with ⟨hx, hy, hab, hlt⟩ | ⟨hx, hy, hab, hlt⟩ | ⟨hx, hy, hab, hlt⟩
    · have HAB := Lib.hid hab; have HLT := Lib.hid hlt; have HX := Lib.hid hx; have HY := Lib.hid hy
      clear hx hy hab hlt
      go_wp2_with fail
      refine (compare_any _ _ _ _ _ Vva.out.1 Vvb.out.1).mono ?_
      rintro e w10 ⟨rfl, rfl⟩
      rw [HX.out]
      go_wp2_with fail
      refine (compare_any _ _ _ _ _ Vvb.out.1 Vva.out.1).mono ?_
      rintro e w11 ⟨rfl, rfl⟩
      rw [HY.out]
      go_wp2_with fail
      refine (same_any _ _ _ _ _ Vva.out.1 Vvb.out.1).mono ?_
      rintro e w12 ⟨rfl, hd⟩
      replace Vva := Lib.hid (Vva.out.drew hd)
      replace Vvb := Lib.hid (Vvb.out.drew hd)
      replace Vvc := Lib.hid (Vvc.out.drew hd)
      replace HS := Lib.hid (HS.out.drew hd)
      clear hd
      rw [HAB.out]
      obtain ⟨aa, ca, rfl, -⟩ := Vva.out.slice
      obtain ⟨ab, cb, rfl, -⟩ := Vvb.out.slice
      have HTR := Lib.hid (cmp_trans A B C (by rw [HX.out]; decide))
      rcases Nat.lt_or_ge A.length B.length with hll | hll
      · go_wp2_with fail
        refine (compare_any _ _ _ _ _ Vvb.out.1 Vvc.out.1).mono ?_
        rintro e w13 ⟨rfl, rfl⟩
        by_cases hz : compareI B C ≤ 0
        · have HU := Lib.hid (HTR.out hz)
          go_wp2_with fail
          refine (compare_any _ _ _ _ _ Vva.out.1 Vvc.out.1).mono ?_
          rintro e w14 ⟨rfl, rfl⟩
          have hu := HU.out
          go_wp2_with fail
          go_ret
          exact ⟨rfl, HS.out.below⟩
        · go_wp2_with fail
          go_ret
          exact ⟨rfl, HS.out.below⟩
      · go_wp2_with fail
        refine (compare_any _ _ _ _ _ Vvb.out.1 Vvc.out.1).mono ?_
        rintro e w13 ⟨rfl, rfl⟩
        by_cases hz : compareI B C ≤ 0
        · have HU := Lib.hid (HTR.out hz)
          go_wp2_with fail
          refine (compare_any _ _ _ _ _ Vva.out.1 Vvc.out.1).mono ?_
          rintro e w14 ⟨rfl, rfl⟩
          have hu := HU.out
          go_wp2_with fail
          go_ret
          exact ⟨rfl, HS.out.below⟩
        · go_wp2_with fail
          go_ret
          exact ⟨rfl, HS.out.below⟩
    · have HAB := Lib.hid hab; have HLT := Lib.hid hlt; have HX := Lib.hid hx; have HY := Lib.hid hy
      clear hx hy hab hlt
      go_wp2_with fail
      refine (compare_any _ _ _ _ _ Vva.out.1 Vvb.out.1).mono ?_
      rintro e w10 ⟨rfl, rfl⟩
      rw [HX.out]
      go_wp2_with fail
      refine (compare_any _ _ _ _ _ Vvb.out.1 Vva.out.1).mono ?_
      rintro e w11 ⟨rfl, rfl⟩
      rw [HY.out]
      go_wp2_with fail
      refine (same_any _ _ _ _ _ Vva.out.1 Vvb.out.1).mono ?_
      rintro e w12 ⟨rfl, hd⟩
      replace Vva := Lib.hid (Vva.out.drew hd)
      replace Vvb := Lib.hid (Vvb.out.drew hd)
      replace Vvc := Lib.hid (Vvc.out.drew hd)
      replace HS := Lib.hid (HS.out.drew hd)
      clear hd
      rw [HAB.out]
      obtain ⟨aa, ca, rfl, -⟩ := Vva.out.slice
      obtain ⟨ab, cb, rfl, -⟩ := Vvb.out.slice
      have hle : (B.length : Int) ≤ (A.length : Int) := by have := HLT.out; omega
      have HTR := Lib.hid (cmp_trans A B C (by rw [HX.out]; decide))
      go_wp2_with fail
      refine (compare_any _ _ _ _ _ Vvb.out.1 Vvc.out.1).mono ?_
      rintro e w13 ⟨rfl, rfl⟩
      by_cases hz : compareI B C ≤ 0
      · have HU := Lib.hid (HTR.out hz)
        go_wp2_with fail
        refine (compare_any _ _ _ _ _ Vva.out.1 Vvc.out.1).mono ?_
        rintro e w14 ⟨rfl, rfl⟩
        have hu := HU.out
        go_wp2_with fail
        go_ret
        exact ⟨rfl, HS.out.below⟩
      · go_wp2_with fail
        go_ret
        exact ⟨rfl, HS.out.below⟩
    · have HAB := Lib.hid hab; have HLT := Lib.hid hlt; have HX := Lib.hid hx; have HY := Lib.hid hy
      clear hx hy hab hlt
      go_wp2_with fail
      refine (compare_any _ _ _ _ _ Vva.out.1 Vvb.out.1).mono ?_
      rintro e w10 ⟨rfl, rfl⟩
      rw [HX.out]
      go_wp2_with fail
      refine (compare_any _ _ _ _ _ Vvb.out.1 Vva.out.1).mono ?_
      rintro e w11 ⟨rfl, rfl⟩
      rw [HY.out]
      go_wp2_with fail
      refine (same_any _ _ _ _ _ Vva.out.1 Vvb.out.1).mono ?_
      rintro e w12 ⟨rfl, hd⟩
      replace Vva := Lib.hid (Vva.out.drew hd)
      replace Vvb := Lib.hid (Vvb.out.drew hd)
      replace Vvc := Lib.hid (Vvc.out.drew hd)
      replace HS := Lib.hid (HS.out.drew hd)
      clear hd
      rw [HAB.out]
      obtain ⟨aa, ca, rfl, -⟩ := Vva.out.slice
      obtain ⟨ab, cb, rfl, -⟩ := Vvb.out.slice
      have hle : (B.length : Int) ≤ (A.length : Int) := by have := HLT.out; omega
      go_wp2_with fail
      go_ret
      exact ⟨rfl, HS.out.below⟩
  · go_enter Try.func7, Try.ntmps7
    go_wp2_with fail
    refine (awake_any _).mono ?_
    rintro e w1 ⟨rfl, hg⟩
    have HG := Lib.hid hg
    clear hg
    go_wp2_with fail
    refine (few_any _ _ _ _).mono ?_
    rintro e w2 ⟨rfl, rfl⟩
    rw [decide_eq_false (by omega)]
    go_wp2_with fail
    refine (awake_any _).mono ?_
    rintro e w3 ⟨rfl, hg⟩
    have HG := Lib.hid (grown_trans HG.out hg)
    clear hg
    go_wp2_with fail
    go_ret
    exact ⟨rfl, below_of HG.out⟩

/-! ### VectorCompare: the statement, from its walk -/
set_option maxRecDepth 100000 in
theorem liftedVectorCompare (os : Os) (started : os.Started) (H : Type) (enc : TypeId × Value → H) :
    ReturnsInHanded {} Try.checked os 7 .any (Rows.vectorCompareSpec.pre6 enc Try.prog Try.f7 Rows.vectorCompareRow.domain false) (Rows.vectorCompareSpec.post enc Try.prog Try.f7 false true false false) := by
  refine returnsInHanded_of_change (C := Try.checked) own started (by kernel_rfl) Try.func7
    (ChangeSpec.witness6 (enc := enc) (C := Try.checked) false ⟨#[], #[.slice none 0 0], []⟩ 8 (by kernel_rfl) (by kernel_rfl) (by kernel_rfl) (by kernel_rfl)) ?_
  intro W base args ds gs before hval0 hW hcnd _
  have hval : ∀ (j : Nat) t v, Try.f7.params[j]? = some t → args[j]? = some v → Value.okWide Try.prog W .any base t v := hval0
  have hW' := hW
  obtain ⟨p, q, hA0, hV, rfl, hfz, hnd⟩ := hW
  have hA : DataW.TrodAll enc Try.prog W 0 (fun _ => true) true Try.f7.params.toList args.toList ds p := hA0
  rw [Try.params7] at hA hval
  obtain ⟨v0, vs0, d0, ds0, p0, q0, hargs, rfl, rfl, h0, r0⟩ := trodAll_cons hA
  obtain ⟨rfl, rfl, rfl⟩ := trodAll_nil r0
  obtain rfl : args = #[v0] := by cases args; simp_all
  obtain ⟨rfl, rfl⟩ := trodVars_none hV
  obtain ⟨a0, len0, cap0, rfl⟩ := okWide_slice Try.underlying22 (hval 0 22 v0 rfl rfl)
  have k0 := h0
  have lt0 : ∀ x ∈ p0, x.block < W.heap.size := by obtain ⟨m, hm⟩ := k0; exact DataW.trod_lt m _ _ _ hm
  obtain ⟨z0, w0⟩ : ∃ zs, IsRow .i64 W a0 len0 cap0 zs := by
    obtain ⟨fuel, hf⟩ := h0
    rcases open_ints Try.underlying22 Try.underlying3 (by kernel_rfl) hf with ⟨hcs, _⟩ | ⟨x, l, c, zs, hcs, _, hl, hm, hz, _, hcell, hwz⟩
    · simp [Value.cells] at hcs
      obtain ⟨rfl, rfl, rfl⟩ := hcs
      exact ⟨[], .inl ⟨rfl, rfl, rfl, rfl⟩⟩
    · simp [Value.cells] at hcs
      obtain ⟨rfl, rfl, rfl⟩ := hcs
      exact ⟨zs, .inr ⟨_, rfl, hl, hm, by simpa using hz, hcell, hwz⟩⟩
  clear hA0 hval0
  refine (walkVectorCompare a0 len0 cap0 z0 W w0).mono fun e W' ⟨he, bel⟩ => ?_
  subst he
  exact ⟨_, rfl, _, _, _, [], _, [], hW', trodAll_mk1 (shut_bool Try.underlying4 _), (trodAll_cons_mk (Below.trod laidOut (by kernel_rfl) (of_decide_eq_true (by kernel_rfl)) k0 bel lt0) trodAll_mk0), rfl, bel.frame _, fun h => by cases h⟩

theorem vectorCompare_holds : Rows.VectorCompareSaid :=
  OpenClaim.holds_of_wide 7 Try.f7 rfl rfl rfl rfl rfl rfl rfl ⟨rfl, rfl, rfl, rfl, rfl⟩ rfl rfl rfl rfl rfl (by kernel_rfl) Try.func7 (by kernel_rfl)
    (of_decide_eq_true (by kernel_rfl)) (by unfold Func.isWrapper; first | (rw [if_pos (by decide +kernel)]; kernel_rfl) | (rw [if_neg (by decide +kernel)]; exact ⟨rfl, rfl⟩))
    (fun os started H enc _ => liftedVectorCompare os started H enc)
#print axioms vectorCompare_holds
end Go.Proofs.Ytaolnlnjgoakdaa
