/- The mathematics of the order with ranks. -/
import Derived.Test.YtaenkbcclgpphaaPk
namespace Go.Proofs.Ytaenkbcclgpphaa
open Go.RowKit
set_option linter.unusedVariables false

def leP (rs : List Int) : List Int → List Int → Bool
  | [], b => decide (b = [])
  | _ :: _, [] => false
  | x :: a, y :: b => (decide (y = x) && leP rs a b) || (decide (rk rs y ≤ rk rs x) && leP rs (x :: a) b)
theorem findL_leP (rs : List Int) : ∀ (b a : List Int) (i : Nat), (findL rs a b i).isSome = leP rs a b
  | b, [], i => by
    unfold findL leP
    split
    · rename_i h; rw [decide_eq_true h]; rfl
    · rename_i h; rw [decide_eq_false h]; rfl
  | [], x :: a, i => by simp [findL, leP]
  | y :: b, x :: a, i => by
    rw [findL_cons, leP]
    have h1 := findL_leP rs b a (i + 1)
    have h2 := findL_leP rs b (x :: a) (i + 1)
    by_cases e : y = x
    · rw [if_pos e, decide_eq_true e, Bool.true_and]
      cases hc : findL rs a b (i + 1) with
      | some r => rw [hc] at h1; rw [← h1]; rfl
      | none =>
        rw [hc] at h1
        rw [← h1]
        show Option.isSome (if _ then _ else _) = _
        by_cases h3 : rk rs x < rk rs y
        · rw [if_pos h3, decide_eq_false (by omega)]; rfl
        · rw [if_neg h3, decide_eq_true (by omega), h2]; rfl
    · rw [if_neg e, decide_eq_false e, Bool.false_and, Bool.false_or]
      show Option.isSome (if _ then _ else _) = _
      by_cases h3 : rk rs x < rk rs y
      · rw [if_pos h3, decide_eq_false (by omega)]; rfl
      · rw [if_neg h3, decide_eq_true (by omega), h2]; rfl
theorem leqP_iff (rs a b : List Int) : leqP rs a b = true ↔ validP rs a = true ∧ validP rs b = true ∧ leP rs a b = true := by
  unfold leqP embedP
  by_cases h : (validP rs a && validP rs b) = true
  · rw [if_pos h, findL_leP]
    rw [Bool.and_eq_true] at h
    exact ⟨fun e => ⟨h.1, h.2, e⟩, fun e => e.2.2⟩
  · rw [if_neg h]
    constructor
    · intro e; cases e
    · rintro ⟨h1, h2, _⟩; exact absurd (by rw [h1, h2]; rfl) h
theorem leP_cons {rs : List Int} {x y : Int} {a b : List Int} : leP rs (x :: a) (y :: b) = true ↔ (y = x ∧ leP rs a b = true) ∨ (rk rs y ≤ rk rs x ∧ leP rs (x :: a) b = true) := by
  rw [leP, Bool.or_eq_true, Bool.and_eq_true, Bool.and_eq_true, decide_eq_true_eq, decide_eq_true_eq]
theorem leP_refl (rs : List Int) : ∀ a : List Int, leP rs a a = true
  | [] => by simp [leP]
  | x :: a => leP_cons.2 (.inl ⟨rfl, leP_refl rs a⟩)
theorem leP_sub {rs : List Int} : ∀ {b a : List Int}, leP rs a b = true → a.Sublist b
  | b, [], _ => List.nil_sublist _
  | [], x :: a, h => by simp [leP] at h
  | y :: b, x :: a, h => by
    rcases leP_cons.1 h with ⟨rfl, h1⟩ | ⟨_, h1⟩
    · exact List.Sublist.cons_cons _ (leP_sub h1)
    · exact List.Sublist.cons _ (leP_sub h1)
theorem leP_nil {rs b : List Int} : leP rs [] b = true ↔ b = [] := by unfold leP; simp
theorem leP_ne {rs : List Int} : ∀ {b a : List Int}, leP rs a b = true → (a = [] ↔ b = [])
  | b, [], h => by rw [leP_nil] at h; simp [h]
  | [], x :: a, h => by simp [leP] at h
  | y :: b, x :: a, h => by simp
theorem leP_trans {rs : List Int} : ∀ {c b a : List Int}, leP rs a b = true → leP rs b c = true → leP rs a c = true
  | [], b, a, h, h' => by
    have hb := (leP_ne h').2 rfl
    subst hb
    exact h
  | z :: c, [], a, h, h' => by rw [leP_nil] at h'; cases h'
  | z :: c, y :: b, [], h, h' => by rw [leP_nil] at h; cases h
  | z :: c, y :: b, x :: a, h, h' => by
    rcases leP_cons.1 h' with ⟨rfl, h2⟩ | ⟨h1, h2⟩
    · rcases leP_cons.1 h with ⟨rfl, h3⟩ | ⟨h3, h4⟩
      · exact leP_cons.2 (.inl ⟨rfl, leP_trans h3 h2⟩)
      · exact leP_cons.2 (.inr ⟨h3, leP_trans h4 h2⟩)
    · have h3 : rk rs y ≤ rk rs x := by
        rcases leP_cons.1 h with ⟨rfl, _⟩ | ⟨h3, _⟩
        · exact Int.le_refl _
        · exact h3
      exact leP_cons.2 (.inr ⟨Int.le_trans h1 h3, leP_trans h h2⟩)
theorem leP_last {rs : List Int} : ∀ {b a : List Int}, leP rs a b = true → a.getLast? = b.getLast?
  | b, [], h => by rw [leP_nil] at h; rw [h]
  | [], x :: a, h => by simp [leP] at h
  | y :: b, x :: a, h => by
    rcases leP_cons.1 h with ⟨rfl, h1⟩ | ⟨_, h1⟩
    · rw [List.getLast?_cons, List.getLast?_cons, leP_last h1]
    · rw [leP_last h1, List.getLast?_cons]
      have hb : b ≠ [] := fun e => by rw [e] at h1; simp [leP] at h1
      cases hc : b.getLast? with
      | none => exact absurd (List.getLast?_eq_none_iff.1 hc) hb
      | some z => rfl
theorem leP_join {rs x y : List Int} (h' : leP rs x y = true) : ∀ {b a : List Int}, a ≠ [] → leP rs a b = true → leP rs (a ++ x) (b ++ y) = true
  | b, [], hne, _ => absurd rfl hne
  | [], c :: a, _, h => by simp [leP] at h
  | d :: b, c :: a, _, h => by
    simp only [List.cons_append]
    rcases leP_cons.1 h with ⟨rfl, h2⟩ | ⟨h1, h2⟩
    · refine leP_cons.2 (.inl ⟨rfl, ?_⟩)
      cases a with
      | nil => rw [leP_nil] at h2; subst h2; exact h'
      | cons e a => exact leP_join h' (by simp) h2
    · exact leP_cons.2 (.inr ⟨h1, leP_join (a := c :: a) h' (by simp) h2⟩)
theorem leqP_refl {rs a : List Int} (h : validP rs a = true) : leqP rs a a = true := (leqP_iff _ _ _).2 ⟨h, h, leP_refl rs a⟩
theorem leqP_trans {rs a b c : List Int} (h : leqP rs a b = true) (h' : leqP rs b c = true) : leqP rs a c = true := by
  obtain ⟨h1, h2, h3⟩ := (leqP_iff _ _ _).1 h
  obtain ⟨h4, h5, h6⟩ := (leqP_iff _ _ _).1 h'
  exact (leqP_iff _ _ _).2 ⟨h1, h5, leP_trans h3 h6⟩
theorem leqP_anti {rs a b : List Int} (h : leqP rs a b = true) (h' : leqP rs b a = true) : (a == b) = true := by
  obtain ⟨h1, h2, h3⟩ := (leqP_iff _ _ _).1 h
  obtain ⟨h4, h5, h6⟩ := (leqP_iff _ _ _).1 h'
  rw [beq_iff_eq]
  exact (leP_sub h3).eq_of_length_le (leP_sub h6).length_le
theorem leqP_word {rs a b : List Int} (h : leqP rs a b = true) : leqW a b = true := by
  obtain ⟨h1, h2, h3⟩ := (leqP_iff _ _ _).1 h
  exact (leqW_iff _ _).2 ⟨validP_W h1, validP_W h2, leP_sub h3⟩
theorem getLast_at (a : List Int) (x : Int) (h : a.getLast? = some x) : a[a.length - 1]?.getD 0 = x := by
  rw [List.getLast?_eq_getElem?] at h
  rw [h]; rfl
theorem leqP_lasts {rs a b : List Int} (h : leqP rs a b = true) (ha : 0 < a.length) : 0 < b.length ∧ a[a.length - 1]?.getD 0 = b[b.length - 1]?.getD 0 := by
  obtain ⟨h1, h2, h3⟩ := (leqP_iff _ _ _).1 h
  have hne : a ≠ [] := List.length_pos_iff.1 ha
  have hbe : b ≠ [] := fun e => hne ((leP_ne h3).2 e)
  have h4 := leP_last h3
  cases hc : a.getLast? with
  | none => exact absurd (List.getLast?_eq_none_iff.1 hc) hne
  | some z => exact ⟨List.length_pos_iff.2 hbe, (getLast_at a z hc).trans (getLast_at b z (h4 ▸ hc)).symm⟩

end Go.Proofs.Ytaenkbcclgpphaa
