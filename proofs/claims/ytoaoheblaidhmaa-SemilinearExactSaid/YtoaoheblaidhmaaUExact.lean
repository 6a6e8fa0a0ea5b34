/- SemilinearExact: for every input the statement answers true (which sets are valid, multiples, membership, inclusion of generators, sums and shifts are as the reference has them). No condition. -/
import Derived.Test.YtoaoheblaidhmaaU29
import Derived.Deep.Matrix
namespace Go.Proofs.Ytoaoheblaidhmaa
open Go.ChangeShapes Go.WideShapes Go.ChangeAt Go.RowKit Go.Deep
set_option linter.unusedVariables false

theorem linx_rows {w : World} {x y : Value} {b : List Int} {q : List Row} (h : LinX w (.agg #[x, y]) b q) : ∃ a c, y = .slice a q.length c ∧ q.length ≤ 9223372036854775807 := by
  obtain ⟨vb, vp, he, -, ⟨a, c, rfl, hl, -⟩, -⟩ := h
  simp only [Value.agg.injEq, Array.mk.injEq, List.cons.injEq, and_true] at he
  obtain ⟨rfl, rfl⟩ := he
  exact ⟨a, c, rfl, by unfold maxLen at hl; omega⟩
theorem sets_rows {w : World} {v : Value} {us : List SetR} (h : SetsI w v us) : ∀ u ∈ us, u.2.2.length ≤ 9223372036854775807 := fun u hu => by
  obtain ⟨-, -, -, -, -, hl⟩ := h
  obtain ⟨-, -, -, h⟩ := linx_rows (hl u hu)
  exact h

theorem walkSemilinearExact : WalkE := walkE1

/-! ### SemilinearExact: the statement, from its walk -/
set_option maxRecDepth 100000 in
theorem liftedSemilinearExact (os : Os) (started : os.Started) (H : Type) (enc : TypeId × Value → H) :
    ReturnsInHanded {} Try.checked os 3 .any (Rows.semilinearExactSpec.pre6 enc Try.prog Try.f3 Rows.semilinearExactRow.domain false) (Rows.semilinearExactSpec.post enc Try.prog Try.f3 false true false false) := by
  refine returnsInHanded_of_change (C := Try.checked) own started (by kernel_rfl) Try.func3
    (ChangeSpec.witness6 (enc := enc) (C := Try.checked) false ⟨#[], #[.slice none 0 0, .int .i64 0, .slice none 0 0, .agg #[.slice none 0 0, .slice none 0 0], .agg #[.slice none 0 0, .slice none 0 0], .slice none 0 0, .slice none 0 0], []⟩ 8 (by kernel_rfl) (by kernel_rfl) (by kernel_rfl) (by kernel_rfl)) ?_
  intro W base args ds gs before hval0 hW hcnd _
  have hval : ∀ (j : Nat) t v, Try.f3.params[j]? = some t → args[j]? = some v → Value.okWide Try.prog W .any base t v := hval0
  have hW' := hW
  obtain ⟨p, q, hA0, hV, rfl, hfz, hnd⟩ := hW
  have hA : DataW.TrodAll enc Try.prog W 0 (fun _ => true) true Try.f3.params.toList args.toList ds p := hA0
  rw [Try.params3] at hA hval
  obtain ⟨v0, vs0, d0, ds0, p0, q0, hargs, rfl, rfl, h0, r0⟩ := trodAll_cons hA
  obtain ⟨v1, vs1, d1, ds1, p1, q1, rfl, rfl, rfl, h1, r1⟩ := trodAll_cons r0
  obtain ⟨v2, vs2, d2, ds2, p2, q2, rfl, rfl, rfl, h2, r2⟩ := trodAll_cons r1
  obtain ⟨v3, vs3, d3, ds3, p3, q3, rfl, rfl, rfl, h3, r3⟩ := trodAll_cons r2
  obtain ⟨v4, vs4, d4, ds4, p4, q4, rfl, rfl, rfl, h4, r4⟩ := trodAll_cons r3
  obtain ⟨v5, vs5, d5, ds5, p5, q5, rfl, rfl, rfl, h5, r5⟩ := trodAll_cons r4
  obtain ⟨v6, vs6, d6, ds6, p6, q6, rfl, rfl, rfl, h6, r6⟩ := trodAll_cons r5
  obtain ⟨rfl, rfl, rfl⟩ := trodAll_nil r6
  obtain rfl : args = #[v0, v1, v2, v3, v4, v5, v6] := by cases args; simp_all
  obtain ⟨rfl, rfl⟩ := trodVars_none hV
  obtain ⟨a0, len0, cap0, rfl⟩ := okWide_slice Try.underlying22 (hval 0 22 v0 rfl rfl)
  have k0 := h0
  have lt0 : ∀ x ∈ p0, x.block < W.heap.size := by obtain ⟨m, hm⟩ := k0; exact DataW.trod_lt m _ _ _ hm
  obtain ⟨z0, w0⟩ : ∃ zs, IsRow .i64 W a0 len0 cap0 zs := by
    obtain ⟨fuel, hf⟩ := h0
    rcases open_ints Try.underlying22 Try.underlying3 (by kernel_rfl) hf with ⟨hcs, _⟩ | ⟨x, l, c, zs, hcs, _, hl, hm, hz, _, hcell, hwz⟩
    · simp [Value.cells] at hcs
      obtain ⟨rfl, rfl, rfl⟩ := hcs
      exact ⟨[], .inl ⟨rfl, rfl, rfl, rfl⟩⟩
    · simp [Value.cells] at hcs
      obtain ⟨rfl, rfl, rfl⟩ := hcs
      exact ⟨zs, .inr ⟨_, rfl, hl, hm, by simpa using hz, hcell, hwz⟩⟩
  obtain ⟨a1, rfl, rfl, rfl, w1⟩ := open_int Try.underlying3 (hval 1 3 v1 rfl rfl) h1
  obtain ⟨av, len2, cv, rfl⟩ := okWide_slice Try.underlying23 (hval 2 23 v2 rfl rfl)
  have k2 := h2
  have lt2 : ∀ x ∈ p2, x.block < W.heap.size := by obtain ⟨m, hm⟩ := k2; exact DataW.trod_lt m _ _ _ hm
  obtain ⟨us, hus⟩ : ∃ us, SetsI W (.slice av len2 cv) us := by
    obtain ⟨fuel, hf⟩ := h2
    exact sets_in (fuel := fuel) hf
  obtain rfl : len2 = us.length := by obtain ⟨a, c, h, -⟩ := hus; simp only [Value.slice.injEq] at h; exact h.2.1
  have k3 := h3
  have lt3 : ∀ x ∈ p3, x.block < W.heap.size := by obtain ⟨m, hm⟩ := k3; exact DataW.trod_lt m _ _ _ hm
  obtain ⟨va0, va1, ba, qa, rfl, hxa, hra⟩ := lin_in (hval 3 26 v3 rfl rfl) h3
  obtain ⟨aa, ca, rfl⟩ : ∃ a c, va0 = .slice a ba.length c := by obtain ⟨⟨a, c, h, -⟩, -⟩ := hra; exact ⟨a, c, h⟩
  obtain ⟨apa, cpa, rfl, hqa⟩ : ∃ a c, va1 = .slice a qa.length c ∧ qa.length ≤ 9223372036854775807 := linx_rows hxa
  have k4 := h4
  have lt4 : ∀ x ∈ p4, x.block < W.heap.size := by obtain ⟨m, hm⟩ := k4; exact DataW.trod_lt m _ _ _ hm
  obtain ⟨vb0, vb1, bb, qb, rfl, hxb, hrb⟩ := lin_in (hval 4 26 v4 rfl rfl) h4
  obtain ⟨ab, cb, rfl⟩ : ∃ a c, vb0 = .slice a bb.length c := by obtain ⟨⟨a, c, h, -⟩, -⟩ := hrb; exact ⟨a, c, h⟩
  obtain ⟨apb, cpb, rfl, hqb⟩ : ∃ a c, vb1 = .slice a qb.length c ∧ qb.length ≤ 9223372036854775807 := linx_rows hxb
  obtain ⟨a5, len5, c5, rfl⟩ := okWide_slice Try.underlying22 (hval 5 22 v5 rfl rfl)
  have b5 := hval 5 22 _ rfl rfl
  have k5 := h5
  have lt5 : ∀ x ∈ p5, x.block < W.heap.size := by obtain ⟨m, hm⟩ := k5; exact DataW.trod_lt m _ _ _ hm
  obtain ⟨z5, e5, hz5⟩ : ∃ zs : List Int, len5 = zs.length ∧ RowE W (.slice a5 len5 c5, zs) := by
    obtain ⟨fuel, hf⟩ := h5
    obtain ⟨a, cap, zs, he, hz⟩ := ints_in (fuel := fuel) (v := .slice a5 len5 c5) hf
    rw [← he] at hz
    simp only [Value.slice.injEq] at he
    exact ⟨zs, he.2.1, hz⟩
  subst e5
  have hr5 : RowOk W (.slice a5 z5.length c5, z5) := ⟨hz5.1, hz5.2.1, fun g hg => by
    cases a5 with
    | none => simp [Value.ownBlock] at hg
    | some ad =>
      simp only [Value.ownBlock, Option.some.injEq] at hg
      subst hg
      exact okWide_slice_lt Try.underlying22 b5⟩
  obtain ⟨a6, len6, c6, rfl⟩ := okWide_slice Try.underlying22 (hval 6 22 v6 rfl rfl)
  have b6 := hval 6 22 _ rfl rfl
  have k6 := h6
  have lt6 : ∀ x ∈ p6, x.block < W.heap.size := by obtain ⟨m, hm⟩ := k6; exact DataW.trod_lt m _ _ _ hm
  obtain ⟨z6, e6, hz6⟩ : ∃ zs : List Int, len6 = zs.length ∧ RowE W (.slice a6 len6 c6, zs) := by
    obtain ⟨fuel, hf⟩ := h6
    obtain ⟨a, cap, zs, he, hz⟩ := ints_in (fuel := fuel) (v := .slice a6 len6 c6) hf
    rw [← he] at hz
    simp only [Value.slice.injEq] at he
    exact ⟨zs, he.2.1, hz⟩
  subst e6
  have hr6 : RowOk W (.slice a6 z6.length c6, z6) := ⟨hz6.1, hz6.2.1, fun g hg => by
    cases a6 with
    | none => simp [Value.ownBlock] at hg
    | some ad =>
      simp only [Value.ownBlock, Option.some.injEq] at hg
      subst hg
      exact okWide_slice_lt Try.underlying22 b6⟩
  clear hA0 hval0
  refine (walkSemilinearExact a0 len0 cap0 z0 W w0 a1 av cv us hus aa ca apa cpa ba qa hxa hra ab cb apb cpb bb qb hxb hrb a5 c5 z5 hr5 a6 c6 z6 hr6 hqa hqb (fun u hu => sets_rows hus u hu)).mono fun e W' ⟨he, bel⟩ => ?_
  subst he
  exact ⟨_, rfl, _, _, _, [], _, [], hW', trodAll_mk1 (shut_bool Try.underlying4 _), (trodAll_cons_mk (Below.trod laidOut (by kernel_rfl) (of_decide_eq_true (by kernel_rfl)) k0 bel lt0) (trodAll_cons_mk (shut_int Try.underlying3 w1) (trodAll_cons_mk (Below.trod laidOut (by kernel_rfl) (of_decide_eq_true (by kernel_rfl)) k2 bel lt2) (trodAll_cons_mk (Below.trod laidOut (by kernel_rfl) (of_decide_eq_true (by kernel_rfl)) k3 bel lt3) (trodAll_cons_mk (Below.trod laidOut (by kernel_rfl) (of_decide_eq_true (by kernel_rfl)) k4 bel lt4) (trodAll_cons_mk (Below.trod laidOut (by kernel_rfl) (of_decide_eq_true (by kernel_rfl)) k5 bel lt5) (trodAll_cons_mk (Below.trod laidOut (by kernel_rfl) (of_decide_eq_true (by kernel_rfl)) k6 bel lt6) trodAll_mk0))))))), rfl, bel.frame _, fun h => by cases h⟩

theorem semilinearExact_holds : Rows.SemilinearExactSaid :=
  OpenClaim.holds_of_wide 3 Try.f3 rfl rfl rfl rfl rfl rfl rfl ⟨rfl, rfl, rfl, rfl, rfl⟩ rfl rfl rfl rfl rfl (by kernel_rfl) Try.func3 (by kernel_rfl)
    (of_decide_eq_true (by kernel_rfl)) (by unfold Func.isWrapper; first | (rw [if_pos (by decide +kernel)]; kernel_rfl) | (rw [if_neg (by decide +kernel)]; exact ⟨rfl, rfl⟩))
    (fun os started H enc _ => liftedSemilinearExact os started H enc)
#print axioms semilinearExact_holds

end Go.Proofs.Ytoaoheblaidhmaa
