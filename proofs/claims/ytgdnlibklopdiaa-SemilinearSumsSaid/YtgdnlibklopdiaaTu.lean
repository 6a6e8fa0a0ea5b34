/- Laws 13, Sums: what it needs. -/
import Derived.Test.YtgdnlibklopdiaaTs
namespace Go.Proofs.Ytgdnlibklopdiaa
open Go.RowKit
set_option linter.unusedVariables false

theorem lessL_sum : ∀ (x y b c : List Int), lessL (sumL x y) (sumL b c) = sumL (lessL x b) (lessL y c)
  | [], y, b, c => by cases y <;> cases b <;> cases c <;> simp [sumL, lessL]
  | x :: xs, [], b, c => by cases b <;> cases c <;> simp [sumL, lessL]
  | x :: xs, y :: ys, [], c => by cases c <;> simp [sumL, lessL]
  | x :: xs, y :: ys, b :: bs, [] => by simp [sumL, lessL]
  | x :: xs, y :: ys, b :: bs, c :: cs => by
    have := lessL_sum xs ys bs cs
    simp only [sumL, lessL, List.zipWith_cons_cons] at this ⊢
    rw [this]
    congr 1
    omega
/-- The sum of two valid sets. -/
theorem ValidS.sum {n : Nat} {B C : List Int} {P Q : List (List Int)} (h : ValidS n B P) (k : ValidS n C Q) (h16 : ∀ x ∈ sumL B C, x ≤ 16) (h3 : (ascL (P ++ Q)).length ≤ 3) : ValidS n (sumL B C) (ascL (P ++ Q)) :=
  ⟨h.1, h.2.1, sumL_len h.2.2.1 k.2.2.1, fun x hx => ⟨sumL_lo (fun x hx => (h.2.2.2.1 x hx).1) (fun x hx => (k.2.2.2.1 x hx).1) x hx, h16 x hx⟩, fun p hp => by
    rcases List.mem_append.1 ((ascL_mem _ _).1 hp) with hp | hp
    · exact h.2.2.2.2.1 p hp
    · exact k.2.2.2.2.1 p hp, h3, ascL_asc _⟩
/-- The vectors of two sets, and their sum. -/
theorem sums_in {n : Nat} {B C : List Int} {P Q : List (List Int)} (h : ValidS n B P) (k : ValidS n C Q) (hs : ValidS n (sumL B C) (ascL (P ++ Q))) {T S : List Int} (hT : ∀ t ∈ T, 0 ≤ t) (hS : ∀ t ∈ S, 0 ≤ t) :
    SolE (ascL (P ++ Q)) (lessL (sumL (madeL B P T) (madeL C Q S)) (sumL B C)) := by
  have hl : ∀ q ∈ ascL (P ++ Q), q.length = n := fun q hq => (hs.2.2.2.2.1 q hq).1.1
  have hp : ∀ p ∈ P, p.length = n := fun p hp => (h.2.2.2.2.1 p hp).1.1
  have hq : ∀ p ∈ Q, p.length = n := fun p hp => (k.2.2.2.2.1 p hp).1.1
  have z : ∀ b : List Int, b.length = n → SolE (ascL (P ++ Q)) (lessL b b) := fun b hb => by
    refine ⟨List.replicate (ascL (P ++ Q)).length 0, (sol_made hb _ _ b hl hb).2 ⟨by simp, fun x hx => by rw [List.eq_of_mem_replicate hx]; omega, madeL_zero _ b (by rw [hb]; exact hl)⟩⟩
  have u : ∀ p ∈ P ++ Q, SolE (ascL (P ++ Q)) p := fun p hp => by
    obtain ⟨i, hi, rfl⟩ := List.getElem_of_mem ((ascL_mem _ _).2 hp)
    exact sol_unit hs hi
  rw [lessL_sum]
  exact solE_sum hl (lessL_len h.2.2.1 (madeL_len _ _ _ hp h.2.2.1)) (lessL_len k.2.2.1 (madeL_len _ _ _ hq k.2.2.1))
    (within_made hl h.2.2.1 P T B h.2.2.1 hp hT (z B h.2.2.1) (fun p hp => u p (by simp [hp])))
    (within_made hl k.2.2.1 Q S C k.2.2.1 hq hS (z C k.2.2.1) (fun p hp => u p (by simp [hp])))
/-- A vector of a set, moved. -/
theorem moved_in {n : Nat} {B C : List Int} {P : List (List Int)} (h : ValidS n B P) (hC : C.length = n) {T : List Int} (hl : T.length = P.length) (hT : ∀ t ∈ T, 0 ≤ t) :
    SolE P (lessL (sumL (madeL B P T) C) (sumL B C)) := by
  have hp : ∀ p ∈ P, p.length = n := fun p hp => (h.2.2.2.2.1 p hp).1.1
  exact ⟨T, (sol_made (sumL_len (madeL_len _ _ _ hp h.2.2.1) hC) P T (sumL B C) hp (sumL_len h.2.2.1 hC)).2 ⟨hl, hT, madeL_sum P T B C⟩⟩
/-- What is made once. -/
theorem LinD.made1 {w : World} {d n : Nat} {v : Value} {b ts : List Int} {ps : List (List Int)} (h : LinD w d n v b ps) (ht : ∀ t ∈ ts, 0 ≤ t ∧ t ≤ 1) : (madeL b ps ts).length = n ∧ ∀ x ∈ madeL b ps ts, 0 ≤ x ∧ x ≤ 16 := by
  have h0 := h.valid
  refine ⟨madeL_len _ _ _ (fun p hp => (h.per p hp).1.1.1) h0.2.2.1, fun x hx => ?_⟩
  have h1 := madeL_small ps ts b 4 1 h.per h0.2.2.1 (by omega) ht (by omega) h.bas x hx
  have h3 := h0.2.2.2.2.2.1
  omega
theorem LinD.sum8 {w : World} {d n : Nat} {v v' : Value} {b c : List Int} {ps qs : List (List Int)} (h : LinD w d n v b ps) (k : LinD w d n v' c qs) : ∀ x ∈ sumL b c, x ≤ 16 := by
  intro x hx
  obtain ⟨y, hy, z, hz, rfl⟩ := mem_zipWith _ b c x hx
  have h1 := h.bas y hy
  have h2 := k.bas z hz
  omega

end Go.Proofs.Ytgdnlibklopdiaa
