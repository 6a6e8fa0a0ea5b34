/- Vectors with a bounded sum in ascending order, and the minimal ones of a kind among them. -/
import Derived.Test.YtahffjoehjpfkaaGl
namespace Go.Proofs.Ytahffjoehjpfkaa
open Go.RowKit
set_option linter.unusedVariables false

def vecs : Nat → Nat → List (List Int)
  | 0, _ => [[]]
  | n + 1, m => (List.range (m + 1)).flatMap (fun x => (vecs n (m - x)).map (fun v => (x : Int) :: v))
def sumI : List Int → Int
  | [] => 0
  | x :: xs => x + sumI xs
def leqI : List Int → List Int → Bool
  | [], _ => true
  | _ :: _, [] => true
  | x :: xs, y :: ys => decide (x ≤ y) && leqI xs ys
theorem sumI_nn : ∀ {v : List Int}, (∀ x ∈ v, 0 ≤ x) → 0 ≤ sumI v
  | [], _ => Int.le_refl _
  | x :: v, h => by
    have h1 := h x (by simp)
    have h2 := sumI_nn (v := v) (fun y hy => h y (by simp [hy]))
    show 0 ≤ x + sumI v
    omega
theorem mem_vecs : ∀ (n m : Nat) (v : List Int), v ∈ vecs n m ↔ v.length = n ∧ (∀ x ∈ v, 0 ≤ x) ∧ sumI v ≤ (m : Int)
  | 0, m, v => by
    unfold vecs
    rw [List.mem_singleton]
    refine ⟨fun h => by subst h; exact ⟨rfl, by simp, by simp [sumI]⟩, fun ⟨h, _⟩ => List.eq_nil_of_length_eq_zero h⟩
  | n + 1, m, v => by
    unfold vecs
    rw [List.mem_flatMap]
    constructor
    · rintro ⟨x, hx, hv⟩
      rw [List.mem_range] at hx
      obtain ⟨u, hu, rfl⟩ := List.mem_map.1 hv
      obtain ⟨h1, h2, h3⟩ := (mem_vecs n (m - x) u).1 hu
      refine ⟨by simp [h1], fun y hy => ?_, ?_⟩
      · rcases List.mem_cons.1 hy with rfl | hy
        · omega
        · exact h2 y hy
      · show (x : Int) + sumI u ≤ m
        omega
    · rintro ⟨h1, h2, h3⟩
      match v, h1 with
      | y :: u, h1 =>
        have hy := h2 y (by simp)
        have hu := sumI_nn (v := u) (fun z hz => h2 z (by simp [hz]))
        have h3' : y + sumI u ≤ m := h3
        refine ⟨y.toNat, by rw [List.mem_range]; omega, List.mem_map.2 ⟨u, (mem_vecs n _ u).2 ⟨by simpa using h1, fun z hz => h2 z (by simp [hz]), by omega⟩, by rw [Int.toNat_of_nonneg hy]⟩⟩
/-- Ascending. -/
def Asc (l : List (List Int)) : Prop := l.Pairwise (fun a b => lexI a b = -1)
theorem lexI_cons (x y : Int) (a b : List Int) : lexI (x :: a) (y :: b) = if x < y then -1 else if y < x then 1 else lexI a b := rfl
theorem vecs_asc : ∀ (n m : Nat), Asc (vecs n m)
  | 0, m => by unfold vecs Asc; simp
  | n + 1, m => by
    unfold vecs Asc
    rw [List.pairwise_flatMap]
    refine ⟨fun x hx => ?_, ?_⟩
    · rw [List.pairwise_map]
      refine (vecs_asc n (m - x)).imp (fun {a b} h => ?_)
      rw [lexI_cons, if_neg (by omega), if_neg (by omega)]
      exact h
    · refine List.pairwise_lt_range.imp (fun {x y} hxy u hu v hv => ?_)
      obtain ⟨a, -, rfl⟩ := List.mem_map.1 hu
      obtain ⟨b, -, rfl⟩ := List.mem_map.1 hv
      rw [lexI_cons, if_pos (by omega)]
theorem leqI_refl : ∀ a : List Int, leqI a a = true
  | [] => rfl
  | x :: a => by simp [leqI, leqI_refl a]
theorem leqI_iff : ∀ (a b : List Int), a.length = b.length → (leqI a b = true ↔ ∀ i : Nat, a[i]?.getD 0 ≤ b[i]?.getD 0)
  | [], [], _ => by simp [leqI]
  | x :: a, y :: b, h => by
    have ih := leqI_iff a b (by simpa using h)
    simp only [leqI, Bool.and_eq_true, decide_eq_true_eq, ih]
    constructor
    · rintro ⟨h1, h2⟩ i
      cases i with
      | zero => simpa using h1
      | succ i => simpa using h2 i
    · intro h
      exact ⟨by simpa using h 0, fun i => by simpa using h (i + 1)⟩
theorem leqI_trans : ∀ (a b c : List Int), a.length = b.length → b.length = c.length → leqI a b = true → leqI b c = true → leqI a c = true
  | [], _, _, _, _, _, _ => rfl
  | x :: a, y :: b, z :: c, h1, h2, h3, h4 => by
    simp only [leqI, Bool.and_eq_true, decide_eq_true_eq] at h3 h4 ⊢
    exact ⟨by omega, leqI_trans a b c (by simpa using h1) (by simpa using h2) h3.2 h4.2⟩
theorem leqI_anti : ∀ (a b : List Int), a.length = b.length → leqI a b = true → leqI b a = true → a = b
  | [], [], _, _, _ => rfl
  | x :: a, y :: b, h, h3, h4 => by
    simp only [leqI, Bool.and_eq_true, decide_eq_true_eq] at h3 h4
    rw [leqI_anti a b (by simpa using h) h3.2 h4.2, show x = y by omega]
/-- What is at most a vector comes before it. -/
theorem leq_lex : ∀ (a b : List Int), a.length = b.length → leqI a b = true → a = b ∨ lexI a b = -1
  | [], [], _, _ => .inl rfl
  | x :: a, y :: b, h, h3 => by
    simp only [leqI, Bool.and_eq_true, decide_eq_true_eq] at h3
    rw [lexI_cons]
    by_cases e : x = y
    · subst e
      rw [if_neg (by omega), if_neg (by omega)]
      rcases leq_lex a b (by simpa using h) h3.2 with rfl | h
      · exact .inl rfl
      · exact .inr h
    · right
      rw [if_pos (by omega)]
theorem leq_sum : ∀ (a b : List Int), a.length = b.length → leqI a b = true → sumI a ≤ sumI b
  | [], [], _, _ => Int.le_refl _
  | x :: a, y :: b, h, h3 => by
    simp only [leqI, Bool.and_eq_true, decide_eq_true_eq] at h3
    have := leq_sum a b (by simpa using h) h3.2
    show x + sumI a ≤ y + sumI b
    omega
theorem lexI_self : ∀ a : List Int, lexI a a = 0 := fun a => (lexI_zero a a).2 rfl
theorem lexI_flip : ∀ (a b : List Int), a.length = b.length → lexI a b = -1 → lexI b a = 1
  | [], [], _, h => by simp [lexI] at h
  | x :: a, y :: b, h, h1 => by
    rw [lexI_cons] at h1 ⊢
    by_cases e : x < y
    · rw [if_neg (by omega : ¬ y < x), if_pos e]
    · by_cases e2 : y < x
      · rw [if_neg e, if_pos e2] at h1; simp at h1
      · rw [if_neg e, if_neg e2] at h1
        rw [if_neg e2, if_neg e]
        exact lexI_flip a b (by simpa using h) h1

def minStep (good : List Int → Bool) (out : List (List Int)) (x : List Int) : List (List Int) := if good x && !(out.any (fun y => leqI y x)) then out ++ [x] else out
def minL (good : List Int → Bool) (xs : List (List Int)) : List (List Int) := xs.foldl (minStep good) []
theorem minL_snoc (good : List Int → Bool) (xs : List (List Int)) (x : List Int) : minL good (xs ++ [x]) = minStep good (minL good xs) x := by unfold minL; rw [List.foldl_append]; rfl
/-- Whether a vector is minimal among those of its kind in a list. -/
def MinOf (good : List Int → Bool) (xs : List (List Int)) (x : List Int) : Prop := x ∈ xs ∧ good x = true ∧ ∀ y ∈ xs, good y = true → leqI y x = true → y = x
theorem sum_lt : ∀ (a b : List Int), a.length = b.length → leqI a b = true → a ≠ b → sumI a < sumI b
  | [], [], _, _, h => absurd rfl h
  | x :: a, y :: b, h, h3, h4 => by
    simp only [leqI, Bool.and_eq_true, decide_eq_true_eq] at h3
    have h5 := leq_sum a b (by simpa using h) h3.2
    show x + sumI a < y + sumI b
    by_cases e : x = y
    · subst e
      have := sum_lt a b (by simpa using h) h3.2 (fun e => h4 (by rw [e]))
      omega
    · omega
theorem below_min {n : Nat} {good : List Int → Bool} {xs : List (List Int)} (hn : ∀ v ∈ xs, v.length = n ∧ ∀ z ∈ v, 0 ≤ z) (s : Nat) : ∀ (x : List Int), x ∈ xs → good x = true → sumI x ≤ (s : Int) → ∃ y, MinOf good xs y ∧ leqI y x = true := by
  induction s with
  | zero =>
    intro x hx hg hs
    refine ⟨x, ⟨hx, hg, fun y h1 h2 h3 => Classical.byContradiction fun h4 => ?_⟩, leqI_refl x⟩
    have := sum_lt y x (by rw [(hn y h1).1, (hn x hx).1]) h3 h4
    have := sumI_nn (hn y h1).2
    omega
  | succ s ih =>
    intro x hx hg hs
    by_cases h : ∀ y ∈ xs, good y = true → leqI y x = true → y = x
    · exact ⟨x, ⟨hx, hg, h⟩, leqI_refl x⟩
    · have : ∃ y, y ∈ xs ∧ good y = true ∧ leqI y x = true ∧ y ≠ x := by
        apply Classical.byContradiction
        intro hno
        exact h fun y h1 h2 h3 => Classical.byContradiction fun h4 => hno ⟨y, h1, h2, h3, h4⟩
      obtain ⟨y, h1, h2, h3, h4⟩ := this
      have hl : y.length = x.length := by rw [(hn y h1).1, (hn x hx).1]
      have hlt := sum_lt y x hl h3 h4
      obtain ⟨u, hu1, hu2⟩ := ih y h1 h2 (by omega)
      exact ⟨u, hu1, leqI_trans u y x (by rw [(hn u hu1.1).1, (hn y h1).1]) hl hu2 h3⟩
theorem asc_lt {n : Nat} {xs : List (List Int)} (hn : ∀ v ∈ xs, v.length = n) (ha : Asc xs) {pre : List (List Int)} {x : List Int} (h : pre ++ [x] <+: xs) {y : List Int} (hy : y ∈ xs) (hl : lexI y x = -1) : y ∈ pre := by
  obtain ⟨suf, rfl⟩ := h
  rw [List.append_assoc] at hy ha hn
  rcases List.mem_append.1 hy with h | h
  · exact h
  · exfalso
    have hx : x ∈ pre ++ ([x] ++ suf) := by simp
    rcases List.mem_append.1 h with h | h
    · rw [List.mem_singleton.1 h, lexI_self] at hl; omega
    · have h1 := (List.pairwise_append.1 (List.pairwise_append.1 ha).2.1).2.2 x (by simp) y h
      have h2 := lexI_flip x y (by rw [hn x hx, hn y hy]) h1
      omega
/-- What the loop has collected are the minimal vectors so far, in their order. -/
theorem minL_is {n : Nat} {good : List Int → Bool} {xs : List (List Int)} (hn : ∀ v ∈ xs, v.length = n ∧ ∀ z ∈ v, 0 ≤ z) (ha : Asc xs) : ∀ (k : Nat), k ≤ xs.length → (minL good (xs.take k)).Sublist (xs.take k) ∧ ∀ x ∈ xs.take k, (x ∈ minL good (xs.take k) ↔ MinOf good xs x) := by
  intro k
  induction k with
  | zero => intro _; simp [minL]
  | succ k ih =>
    intro hk
    obtain ⟨ih1, ih2⟩ := ih (by omega)
    have hkl : k < xs.length := by omega
    rw [List.take_succ_eq_append_getElem hkl]
    have hpre : xs.take k ++ [xs[k]] <+: xs := by rw [← List.take_succ_eq_append_getElem hkl]; exact List.take_prefix _ _
    have hlex := fun {y : List Int} (hy : y ∈ xs) (hl : lexI y xs[k] = -1) => asc_lt (fun v hv => (hn v hv).1) ha hpre hy hl
    have hxm : xs[k] ∈ xs := List.getElem_mem hkl
    have hdr : xs[k] ∈ xs.drop k := by rw [List.drop_eq_getElem_cons hkl]; exact List.mem_cons_self
    have hnew : xs[k] ∉ xs.take k := fun h => by
      have h2 := ha
      have e : xs = xs.take k ++ xs.drop k := (List.take_append_drop k xs).symm
      unfold Asc at h2
      rw [e] at h2
      have h3 : xs[k] ∈ xs.drop k := hdr
      have := (List.pairwise_append.1 h2).2.2 _ h _ h3
      rw [lexI_self] at this; omega
    rw [minL_snoc]
    unfold minStep
    by_cases hc : (good xs[k] && !((minL good (xs.take k)).any (fun y => leqI y xs[k]))) = true
    · rw [if_pos hc]
      simp only [Bool.and_eq_true, Bool.not_eq_true', List.any_eq_false] at hc
      obtain ⟨hg, hno⟩ := hc
      have hmin : MinOf good xs xs[k] := by
        refine ⟨hxm, hg, fun y h1 h2 h3 => Classical.byContradiction fun h4 => ?_⟩
        have hs0 := sumI_nn (hn y h1).2
        obtain ⟨u, hu1, hu2⟩ := below_min (good := good) hn (sumI y).toNat y h1 h2 (by omega)
        have hlu : u.length = xs[k].length := by rw [(hn u hu1.1).1, (hn _ hxm).1]
        have hux := leqI_trans u y xs[k] (by rw [(hn u hu1.1).1, (hn y h1).1]) (by rw [(hn y h1).1, (hn _ hxm).1]) hu2 h3
        have hne : u ≠ xs[k] := fun e => by
          rw [e] at hu2
          exact h4 (leqI_anti _ _ (by rw [(hn y h1).1, (hn _ hxm).1]) h3 hu2)
        have hup : u ∈ xs.take k := hlex hu1.1 ((leq_lex u xs[k] hlu hux).resolve_left hne)
        exact hno u ((ih2 u hup).2 hu1) hux
      refine ⟨List.Sublist.append ih1 (List.Sublist.refl _), fun x hx => ?_⟩
      rcases List.mem_append.1 hx with hx | hx
      · rw [List.mem_append, ih2 x hx]
        refine ⟨fun h => h.resolve_right (fun e => ?_), .inl⟩
        rw [List.mem_singleton] at e
        exact hnew (e ▸ hx)
      · rw [List.mem_singleton] at hx
        subst hx
        exact ⟨fun _ => hmin, fun _ => by simp⟩
    · rw [if_neg hc]
      have hnm : ¬ MinOf good xs xs[k] := fun hm => by
        apply hc
        simp only [Bool.and_eq_true, Bool.not_eq_true', List.any_eq_false]
        refine ⟨hm.2.1, fun y hy h3 => ?_⟩
        have hyk := ih1.subset hy
        have := hm.2.2 y (List.mem_of_mem_take hyk) ((ih2 y hyk).1 hy).2.1 h3
        exact hnew (this ▸ hyk)
      refine ⟨ih1.trans (List.sublist_append_left _ _), fun x hx => ?_⟩
      rcases List.mem_append.1 hx with hx | hx
      · exact ih2 x hx
      · rw [List.mem_singleton] at hx
        subst hx
        exact ⟨fun h => absurd (ih1.subset h) hnew, fun h => absurd h hnm⟩
theorem minL_all {n : Nat} {good : List Int → Bool} {xs : List (List Int)} (hn : ∀ v ∈ xs, v.length = n ∧ ∀ z ∈ v, 0 ≤ z) (ha : Asc xs) : (minL good xs).Sublist xs ∧ ∀ x, x ∈ minL good xs ↔ MinOf good xs x := by
  have h := minL_is (good := good) hn ha xs.length (Nat.le_refl _)
  rw [List.take_length] at h
  exact ⟨h.1, fun x => ⟨fun hx => (h.2 x (h.1.subset hx)).1 hx, fun hx => (h.2 x hx.1).2 hx⟩⟩
end Go.Proofs.Ytahffjoehjpfkaa
