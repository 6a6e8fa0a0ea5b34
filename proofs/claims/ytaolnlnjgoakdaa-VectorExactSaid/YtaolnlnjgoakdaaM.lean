/- Plain lemmas: the order of vectors. -/
import Derived.Test.YtaolnlnjgoakdaaS
namespace Go.Proofs.Ytaolnlnjgoakdaa
open Go.ChangeShapes Go.WideShapes Go.ChangeAt Go.RowKit
set_option linter.unusedVariables false

theorem atMostB_refl : ∀ a : List Int, atMostB a a = true
  | [] => by simp [atMostB]
  | x :: xs => by simp [atMostB, atMostB_refl xs]
theorem atMostB_trans : ∀ a b c : List Int, atMostB a b = true → atMostB b c = true → atMostB a c = true
  | [], _, _, _, _ => by simp [atMostB]
  | _ :: _, [], _, h, _ => by simp [atMostB] at h
  | _ :: _, _ :: _, [], _, h => by simp [atMostB] at h
  | x :: xs, y :: ys, z :: zs, h, h' => by
    simp only [atMostB, Bool.and_eq_true, decide_eq_true_eq] at h h' ⊢
    exact ⟨by omega, atMostB_trans xs ys zs h.2 h'.2⟩
theorem atMostB_anti : ∀ a b : List Int, a.length = b.length → atMostB a b = true → atMostB b a = true → a = b
  | [], [], _, _, _ => rfl
  | [], _ :: _, h, _, _ => by simp at h
  | _ :: _, [], h, _, _ => by simp at h
  | x :: xs, y :: ys, h, h1, h2 => by
    simp only [atMostB, Bool.and_eq_true, decide_eq_true_eq] at h1 h2
    rw [atMostB_anti xs ys (by simpa using h) h1.2 h2.2, show x = y by omega]
theorem atMostB_lex : ∀ a b : List Int, a.length = b.length → atMostB a b = true → lexI a b ≤ 0
  | [], [], _, _ => by simp [lexI]
  | [], _ :: _, h, _ => by simp at h
  | _ :: _, [], h, _ => by simp at h
  | x :: xs, y :: ys, h, h1 => by
    simp only [atMostB, Bool.and_eq_true, decide_eq_true_eq] at h1
    have := atMostB_lex xs ys (by simpa using h) h1.2
    unfold lexI
    split
    · omega
    · split <;> omega
theorem atMostB_max : ∀ a b c : List Int, a.length = b.length → (atMostB a c && atMostB b c) = atMostB (List.zipWith max a b) c
  | [], [], _, _ => by simp [atMostB]
  | [], _ :: _, _, h => by simp at h
  | _ :: _, [], _, h => by simp at h
  | x :: xs, y :: ys, [], _ => by simp [atMostB]
  | x :: xs, y :: ys, z :: zs, h => by
    have := atMostB_max xs ys zs (by simpa using h)
    simp only [List.zipWith_cons_cons, atMostB, ← this]
    by_cases h1 : x ≤ z <;> by_cases h2 : y ≤ z
    · have h3 : max x y ≤ z := by omega
      simp [h1, h2, h3]
    · have h3 : ¬ max x y ≤ z := by omega
      simp [h1, h2, h3]
    · have h3 : ¬ max x y ≤ z := by omega
      simp [h1, h2, h3]
    · have h3 : ¬ max x y ≤ z := by omega
      simp [h1, h2, h3]
theorem atMostB_min : ∀ a b c : List Int, a.length = b.length → (atMostB c a && atMostB c b) = atMostB c (List.zipWith min a b)
  | [], [], [], _ => by simp [atMostB]
  | [], [], _ :: _, _ => by simp [atMostB]
  | [], _ :: _, _, h => by simp at h
  | _ :: _, [], _, h => by simp at h
  | x :: xs, y :: ys, [], _ => by simp [atMostB]
  | x :: xs, y :: ys, z :: zs, h => by
    have := atMostB_min xs ys zs (by simpa using h)
    simp only [List.zipWith_cons_cons, atMostB, ← this]
    by_cases h1 : z ≤ x <;> by_cases h2 : z ≤ y
    · have h3 : z ≤ min x y := by omega
      simp [h1, h2, h3]
    · have h3 : ¬ z ≤ min x y := by omega
      simp [h1, h2, h3]
    · have h3 : ¬ z ≤ min x y := by omega
      simp [h1, h2, h3]
    · have h3 : ¬ z ≤ min x y := by omega
      simp [h1, h2, h3]
theorem elem_valid {xs : List Int} (hl : xs.length ≤ 6) (h : ∀ x ∈ xs, Elem x) : validB xs = true := by
  unfold validB
  rw [Bool.and_eq_true, List.all_eq_true]
  refine ⟨by simpa using hl, fun x hx => ?_⟩
  have := h x hx
  unfold Elem at this
  unfold elemB numB
  simp
  omega
theorem leqB_eq {a b : List Int} (h : validB a = true) (h' : validB b = true) (hl : a.length = b.length) : leqB a b = atMostB a b := by
  simp [leqB, h, h', hl]
theorem leqB_parts {a b : List Int} (h : leqB a b = true) : validB a = true ∧ validB b = true ∧ a.length = b.length ∧ atMostB a b = true := by
  unfold leqB at h
  simp only [Bool.and_eq_true, beq_iff_eq] at h
  exact ⟨h.1.1.1, h.1.1.2, h.1.2, h.2⟩
theorem leqB_trans {a b c : List Int} (h : leqB a b = true) (h' : leqB b c = true) : leqB a c = true := by
  obtain ⟨h1, h2, h3, h4⟩ := leqB_parts h
  obtain ⟨k1, k2, k3, k4⟩ := leqB_parts h'
  rw [leqB_eq h1 k2 (by omega)]
  exact atMostB_trans _ _ _ h4 k4
theorem leqB_anti {a b : List Int} (h : leqB a b = true) (h' : leqB b a = true) : (a == b) = true := by
  obtain ⟨h1, h2, h3, h4⟩ := leqB_parts h
  obtain ⟨k1, k2, k3, k4⟩ := leqB_parts h'
  simpa using atMostB_anti a b h3 h4 k4
theorem leqB_compare {a b : List Int} (h : leqB a b = true) : compareI a b ≤ 0 := by
  obtain ⟨h1, h2, h3, h4⟩ := leqB_parts h
  have := atMostB_lex a b h3 h4
  unfold compareI
  rw [if_neg (by omega), if_neg (by omega)]
  exact this

theorem zip_elem (f : Int → Int → Int) (hf : ∀ x y, f x y = x ∨ f x y = y) (P : Int → Prop) (xs ys : List Int) (h : ∀ x ∈ xs, P x) (h' : ∀ y ∈ ys, P y) : ∀ z ∈ List.zipWith f xs ys, P z := by
  refine zip_bd f P P P ?_ xs ys h h'
  intro x y hx hy
  rcases hf x y with e | e
  · rw [e]; exact hx
  · rw [e]; exact hy
theorem max_facts {A B : List Int} (hA : validB A = true) (hB : validB B = true) (hl : A.length = B.length) (pA : ∀ x ∈ A, Elem x) (pB : ∀ x ∈ B, Elem x) :
    ∃ U, maxR A B = (0, U) ∧ (∀ x ∈ U, Elem x) ∧ leqB A U = true ∧ leqB B U = true ∧ ∀ C, validB C = true → C.length = A.length → (leqB A C && leqB B C) = leqB U C := by
  have hp := zip_elem max (by intro x y; omega) Elem A B pA pB
  have hlen : (List.zipWith max A B).length = A.length := by simp; omega
  have hv := elem_valid (by have := (validB_le hA).1; omega) hp
  refine ⟨List.zipWith max A B, ?_, hp, ?_, ?_, ?_⟩
  · unfold maxR checkI
    simp [hA, hB, hl]
  · have := atMostB_max A B (List.zipWith max A B) hl
    rw [atMostB_refl, Bool.and_eq_true] at this
    rw [leqB_eq hA hv hlen.symm]
    exact this.1
  · have := atMostB_max A B (List.zipWith max A B) hl
    rw [atMostB_refl, Bool.and_eq_true] at this
    rw [leqB_eq hB hv (by omega)]
    exact this.2
  · intro C hC hlC
    rw [leqB_eq hA hC (by omega), leqB_eq hB hC (by omega), leqB_eq hv hC (by omega)]
    exact atMostB_max A B C hl
theorem min_facts {A B : List Int} (hA : validB A = true) (hB : validB B = true) (hl : A.length = B.length) (pA : ∀ x ∈ A, Elem x) (pB : ∀ x ∈ B, Elem x) :
    ∃ U, minR A B = (0, U) ∧ (∀ x ∈ U, Elem x) ∧ leqB U A = true ∧ leqB U B = true ∧ ∀ C, validB C = true → C.length = A.length → (leqB C A && leqB C B) = leqB C U := by
  have hp := zip_elem min (by intro x y; omega) Elem A B pA pB
  have hlen : (List.zipWith min A B).length = A.length := by simp; omega
  have hv := elem_valid (by have := (validB_le hA).1; omega) hp
  refine ⟨List.zipWith min A B, ?_, hp, ?_, ?_, ?_⟩
  · unfold minR checkI
    simp [hA, hB, hl]
  · have := atMostB_min A B (List.zipWith min A B) hl
    rw [atMostB_refl, Bool.and_eq_true] at this
    rw [leqB_eq hv hA hlen]
    exact this.1
  · have := atMostB_min A B (List.zipWith min A B) hl
    rw [atMostB_refl, Bool.and_eq_true] at this
    rw [leqB_eq hv hB (by omega)]
    exact this.2
  · intro C hC hlC
    rw [leqB_eq hC hA (by omega), leqB_eq hC hB (by omega), leqB_eq hC hv (by omega)]
    exact atMostB_min A B C hl

theorem undone_lists : ∀ A B C : List Int, A.length = B.length → C.length = A.length → (∀ x ∈ A, 0 ≤ x ∧ x ≤ 9) → (∀ x ∈ B, 0 ≤ x ∧ x ≤ 9) → (∀ x ∈ C, Elem x) →
    List.zipWith subI (List.zipWith addI A B) B = A ∧ atMostB A (List.zipWith addI A B) = true ∧ atMostB B (List.zipWith addI A B) = true ∧ atMostB (List.zipWith addI A C) (List.zipWith addI (List.zipWith addI A B) C) = true ∧
    ((List.zipWith addI (List.zipWith addI A B) C).all elemB = true → (List.zipWith addI A C).all elemB = true)
  | [], [], [], _, _, _, _, _ => by simp [atMostB]
  | [], _ :: _, _, h, _, _, _, _ => by simp at h
  | _ :: _, [], _, h, _, _, _, _ => by simp at h
  | [], _, _ :: _, _, h, _, _, _ => by simp at h
  | _ :: _, _, [], _, h, _, _, _ => by simp at h
  | x :: xs, y :: ys, z :: zs, h, h', ha, hb, hc => by
    obtain ⟨h1, h2, h5, h3, h4⟩ := undone_lists xs ys zs (by simpa using h) (by simpa using h') (fun a ha' => ha a (by simp [ha'])) (fun a ha' => hb a (by simp [ha'])) (fun a ha' => hc a (by simp [ha']))
    have hx := ha x (by simp)
    have hy := hb y (by simp)
    have hz := hc z (by simp)
    unfold Elem at hz
    have e1 : addI x y = x + y := by unfold addI; rw [if_neg (by omega)]
    have e2 : subI (x + y) y = x := by unfold subI; rw [if_neg (by omega)]; omega
    simp only [List.zipWith_cons_cons, e1, e2, h1, atMostB, h2, h3, h5, List.all_cons, Bool.and_eq_true, Bool.and_true, decide_eq_true_eq]
    refine ⟨trivial, by omega, by omega, ?_, ?_⟩
    · unfold addI; split <;> split <;> omega
    · intro ⟨k1, k2⟩
      refine ⟨?_, h4 k2⟩
      unfold elemB numB addI at k1 ⊢
      simp at k1 ⊢
      split at k1 <;> split <;> omega
theorem small_valid {xs : List Int} (m : Int) (hm : m ≤ 1048576) (hl : xs.length ≤ 6) (h : ∀ x ∈ xs, 0 ≤ x ∧ x ≤ m) : validB xs = true ∧ finiteB xs = true := by
  unfold validB finiteB
  constructor
  all_goals
    rw [Bool.and_eq_true, List.all_eq_true]
    refine ⟨by simpa using hl, fun x hx => ?_⟩
    have := h x hx
    try unfold elemB
    unfold numB
    simp
    omega
theorem zip_bounds {xs ys : List Int} (hx : ∀ x ∈ xs, 0 ≤ x ∧ x ≤ 1099511627776) (hy : ∀ x ∈ ys, 0 ≤ x ∧ x ≤ 1099511627776) : ∀ z ∈ List.zipWith addI xs ys, -9223372036854775808 ≤ z ∧ z ≤ 9223372036854775807 := by
  refine zip_bd addI _ _ (fun z => -9223372036854775808 ≤ z ∧ z ≤ 9223372036854775807) ?_ xs ys hx hy
  intro x y hx hy
  unfold addI
  split <;> omega
theorem addR_of {a b : List Int} (h : checkI a b = 0) : addR a b = if validB (List.zipWith addI a b) then (0, List.zipWith addI a b) else (1, []) := by
  unfold addR
  rw [if_neg (by rw [h]; simp)]
theorem undone_facts {A B C : List Int} (h : A.length = B.length) (h' : C.length = A.length) (hl : A.length ≤ 6) (ha : ∀ x ∈ A, 0 ≤ x ∧ x ≤ 9) (hb : ∀ x ∈ B, 0 ≤ x ∧ x ≤ 9) (hc : ∀ x ∈ C, Elem x) :
    ∃ S, addR A B = (0, S) ∧ subR S B = (0, A) ∧ (∀ x ∈ S, 0 ≤ x ∧ x ≤ 18) ∧ leqB A S = true ∧
      ((∃ X Y, addR A C = (0, X) ∧ addR S C = (0, Y) ∧ leqB X Y = true ∧ (∀ z ∈ X, -9223372036854775808 ≤ z ∧ z ≤ 9223372036854775807) ∧ (∀ z ∈ Y, -9223372036854775808 ≤ z ∧ z ≤ 9223372036854775807)) ∨
       (∃ X, addR A C = (0, X) ∧ addR S C = (1, []) ∧ (∀ z ∈ X, -9223372036854775808 ≤ z ∧ z ≤ 9223372036854775807)) ∨ (addR A C = (1, []) ∧ addR S C = (1, []))) := by
  obtain ⟨h1, h2, h5, h3, h4⟩ := undone_lists A B C h h' ha hb hc
  have hs : ∀ x ∈ List.zipWith addI A B, 0 ≤ x ∧ x ≤ 18 := by
    refine zip_bd addI _ _ (fun z => 0 ≤ z ∧ z ≤ 18) ?_ A B ha hb
    intro x y hx hy
    unfold addI
    rw [if_neg (by omega)]
    omega
  have hsl : (List.zipWith addI A B).length = A.length := by simp; omega
  have vA := small_valid 9 (by decide) hl ha
  have vB := small_valid 9 (by decide) (by omega) hb
  have vS := small_valid 18 (by decide) (by omega) hs
  have vC := elem_valid (by omega) hc
  have cAB : checkI A B = 0 := by simp [checkI, vA.1, vB.1, h]
  have cAC : checkI A C = 0 := by simp [checkI, vA.1, vC, h']
  have cSC : checkI (List.zipWith addI A B) C = 0 := by simp only [checkI, vS.1, vC, hsl, h']; simp
  have bA := (validB_le vA.1).2
  have bS := (validB_le vS.1).2
  have bC := (validB_le vC).2
  refine ⟨List.zipWith addI A B, ?_, ?_, hs, ?_, ?_⟩
  · unfold addR
    rw [if_neg (by rw [cAB]; simp), if_pos vS.1]
  · unfold subR
    rw [if_neg (by rw [vS.1, vB.2]; simp), if_neg (by omega), if_pos, h1]
    exact h5
  · rw [leqB_eq vA.1 vS.1 hsl.symm]
    exact h2
  · rw [addR_of cAC, addR_of cSC]
    cases hX : validB (List.zipWith addI A C)
    · cases hY : validB (List.zipWith addI (List.zipWith addI A B) C)
      · exact .inr (.inr ⟨rfl, rfl⟩)
      · exfalso
        unfold validB at hX hY
        rw [Bool.and_eq_true] at hY
        have := h4 hY.2
        rw [this, Bool.and_true, decide_eq_false_iff_not] at hX
        apply hX
        simp
        omega
    · cases hY : validB (List.zipWith addI (List.zipWith addI A B) C)
      · exact .inr (.inl ⟨_, rfl, rfl, zip_bounds bA bC⟩)
      · refine .inl ⟨_, _, rfl, rfl, ?_, zip_bounds bA bC, zip_bounds bS bC⟩
        rw [leqB_eq hX hY (by simp; omega)]
        exact h3

end Go.Proofs.Ytaolnlnjgoakdaa
