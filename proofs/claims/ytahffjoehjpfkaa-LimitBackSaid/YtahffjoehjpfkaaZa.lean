/- Maximal vectors of a list: what is kept of a list that falls, the ascending list of the maximal ones, and that it is the only one. -/
import Derived.Test.YtahffjoehjpfkaaEa
namespace Go.Proofs.Ytahffjoehjpfkaa
open Go.RowKit
set_option linter.unusedVariables false

/-- What is left of a list by the loop of reduce, with a relation 'within'. -/
def keepStep (within : List Int → List Int → Bool) (out : List (List Int)) (x : List Int) : List (List Int) := if out.any (fun u => within x u) then out else out ++ [x]
def keepL (within : List Int → List Int → Bool) (xs : List (List Int)) : List (List Int) := xs.foldl (keepStep within) []
theorem keepL_snoc (f : List Int → List Int → Bool) (xs : List (List Int)) (x : List Int) : keepL f (xs ++ [x]) = keepStep f (keepL f xs) x := by unfold keepL; rw [List.foldl_append]; rfl
/-- Each vector that is not within another one. -/
def Top (f : List Int → List Int → Bool) (l : List (List Int)) (v : List Int) : Prop := v ∈ l ∧ ∀ u ∈ l, f v u = true → u = v
structure Ord (f : List Int → List Int → Bool) (n : Nat) : Prop where
  refl : ∀ a : List Int, a.length = n → f a a = true
  trans : ∀ a b c : List Int, a.length = n → b.length = n → c.length = n → f a b = true → f b c = true → f a c = true
  anti : ∀ a b : List Int, a.length = n → b.length = n → f a b = true → f b a = true → a = b
theorem keep_len (f : List Int → List Int → Bool) (xs : List (List Int)) (x : List Int) : (keepStep f xs x).length ≤ xs.length + 1 := by
  unfold keepStep
  split
  · omega
  · simp
theorem snoc_ind {α : Type} {P : List α → Prop} (h0 : P []) (hs : ∀ xs x, P xs → P (xs ++ [x])) : ∀ xs, P xs := by
  have h : ∀ ys : List α, P ys.reverse := by
    intro ys
    induction ys with
    | nil => exact h0
    | cons y ys ih => rw [List.reverse_cons]; exact hs _ _ ih
  intro xs
  have := h xs.reverse
  rwa [List.reverse_reverse] at this
theorem keepL_sub (f : List Int → List Int → Bool) (xs : List (List Int)) : ∀ v ∈ keepL f xs, v ∈ xs := by
  induction xs using snoc_ind with
  | h0 => intro v h; cases h
  | hs xs x ih =>
    intro v h
    rw [keepL_snoc, keepStep] at h
    split at h
    · exact List.mem_append_left _ (ih v h)
    · rcases List.mem_append.1 h with h | h
      · exact List.mem_append_left _ (ih v h)
      · exact List.mem_append_right _ h
theorem keepL_len (f : List Int → List Int → Bool) (xs : List (List Int)) : (keepL f xs).length ≤ xs.length := by
  induction xs using snoc_ind with
  | h0 => exact Nat.le_refl _
  | hs xs x ih =>
    rw [keepL_snoc, List.length_append]
    have := keep_len f (keepL f xs) x
    simp only [List.length_singleton]
    omega
/-- Each vector is within one that is kept. -/
theorem keepL_all {f : List Int → List Int → Bool} {n : Nat} (hf : Ord f n) (xs : List (List Int)) (hn : ∀ v ∈ xs, v.length = n) : ∀ v ∈ xs, ∃ u ∈ keepL f xs, f v u = true := by
  induction xs using snoc_ind with
  | h0 => intro v h; cases h
  | hs xs x ih =>
    have ih := ih (fun v hv => hn v (List.mem_append_left _ hv))
    have hx : x.length = n := hn x (by simp)
    intro v hv
    rw [keepL_snoc, keepStep]
    split
    · next h =>
      rcases List.mem_append.1 hv with hv | hv
      · exact ih v hv
      · obtain rfl : v = x := by simpa using hv
        obtain ⟨u, hu, hfu⟩ := List.any_eq_true.1 h
        exact ⟨u, hu, hfu⟩
    · rcases List.mem_append.1 hv with hv | hv
      · obtain ⟨u, hu, h⟩ := ih v hv
        exact ⟨u, List.mem_append_left _ hu, h⟩
      · obtain rfl : v = x := by simpa using hv
        exact ⟨v, by simp, hf.refl v hx⟩
/-- Of a list in which nothing that contains a vector comes behind it, just the tops are kept, each once. -/
theorem keepL_top {f : List Int → List Int → Bool} {n : Nat} (hf : Ord f n) (xs : List (List Int)) (hn : ∀ v ∈ xs, v.length = n) (hd : xs.Pairwise (fun a b => f a b = true → a = b)) :
    (∀ v, v ∈ keepL f xs ↔ Top f xs v) ∧ (keepL f xs).Nodup := by
  induction xs using snoc_ind with
  | h0 =>
    refine ⟨fun v => ⟨fun h => ?_, fun h => ?_⟩, List.nodup_nil⟩
    · cases h
    · cases h.1
  | hs xs x ih =>
    have hn' : ∀ v ∈ xs, v.length = n := fun v hv => hn v (List.mem_append_left _ hv)
    rw [List.pairwise_append] at hd
    obtain ⟨hd1, -, hd2⟩ := hd
    obtain ⟨ih1, ih2⟩ := ih hn' hd1
    have hx : x.length = n := hn x (by simp)
    rw [keepL_snoc, keepStep]
    split
    · next h =>
      obtain ⟨u, hu, hfu⟩ := List.any_eq_true.1 h
      have hux := keepL_sub f xs u hu
      refine ⟨fun v => ⟨fun hv => ?_, fun hv => ?_⟩, ih2⟩
      · obtain ⟨h1, h2⟩ := (ih1 v).1 hv
        refine ⟨List.mem_append_left _ h1, fun w hw hvw => ?_⟩
        rcases List.mem_append.1 hw with hw | hw
        · exact h2 w hw hvw
        · obtain rfl : w = x := by simpa using hw
          exact (hd2 v h1 w (by simp) hvw).symm
      · rcases List.mem_append.1 hv.1 with h1 | h1
        · exact (ih1 v).2 ⟨h1, fun w hw => hv.2 w (List.mem_append_left _ hw)⟩
        · obtain rfl : v = x := by simpa using h1
          have := hv.2 u (List.mem_append_left _ hux) hfu
          subst this
          exact hu
    · next h =>
      have hno : ∀ u ∈ keepL f xs, f x u = false := fun u hu => by
        cases hfu : f x u with
        | false => rfl
        | true => exact absurd (List.any_eq_true.2 ⟨u, hu, hfu⟩) h
      have hno2 : ∀ u ∈ xs, f x u = false := fun u hu => by
        cases hfu : f x u with
        | false => rfl
        | true =>
          obtain ⟨k, hk, hku⟩ := keepL_all hf xs hn' u hu
          have := hf.trans x u k hx (hn' u hu) (hn' k (keepL_sub f xs k hk)) hfu hku
          rw [hno k hk] at this
          cases this
      refine ⟨fun v => ⟨fun hv => ?_, fun hv => ?_⟩, ?_⟩
      · rcases List.mem_append.1 hv with hv | hv
        · obtain ⟨h1, h2⟩ := (ih1 v).1 hv
          refine ⟨List.mem_append_left _ h1, fun w hw hvw => ?_⟩
          rcases List.mem_append.1 hw with hw | hw
          · exact h2 w hw hvw
          · obtain rfl : w = x := by simpa using hw
            exact (hd2 v h1 w (by simp) hvw).symm
        · obtain rfl : v = x := by simpa using hv
          refine ⟨by simp, fun w hw hvw => ?_⟩
          rcases List.mem_append.1 hw with hw | hw
          · rw [hno2 w hw] at hvw; cases hvw
          · simpa using hw
      · rcases List.mem_append.1 hv.1 with h1 | h1
        · exact List.mem_append_left _ ((ih1 v).2 ⟨h1, fun w hw => hv.2 w (List.mem_append_left _ hw)⟩)
        · exact List.mem_append_right _ h1
      · rw [List.nodup_append]
        refine ⟨ih2, by simp, fun a ha b hb => ?_⟩
        obtain rfl : b = x := by simpa using hb
        rintro rfl
        have := hno a ha
        rw [hf.refl a hx] at this
        cases this
theorem lexI_cases : ∀ a b : List Int, lexI a b = -1 ∨ lexI a b = 0 ∨ lexI a b = 1
  | [], [] => .inr (.inl rfl)
  | [], _ :: _ => by simp [lexI]
  | _ :: _, [] => by simp [lexI]
  | x :: a, y :: b => by
    rw [lexI_cons]
    split
    · exact .inl rfl
    · split
      · exact .inr (.inr rfl)
      · exact lexI_cases a b
theorem lexI_flip1 : ∀ (a b : List Int), a.length = b.length → lexI a b = 1 → lexI b a = -1
  | [], [], _, h => by simp [lexI] at h
  | x :: a, y :: b, h, h1 => by
    rw [lexI_cons] at h1 ⊢
    by_cases e : x < y
    · rw [if_pos e] at h1; simp at h1
    · by_cases e2 : y < x
      · rw [if_pos e2]
      · rw [if_neg e, if_neg e2] at h1
        rw [if_neg e2, if_neg e]
        exact lexI_flip1 a b (by simpa using h) h1
/-- The one ascending list of the tops. -/
def Tops (f : List Int → List Int → Bool) (l K : List (List Int)) : Prop := Asc K ∧ ∀ v, v ∈ K ↔ Top f l v
theorem asc_one {n : Nat} : ∀ {A B : List (List Int)}, (∀ v ∈ A, v.length = n) → (∀ v ∈ B, v.length = n) → Asc A → Asc B → (∀ v, v ∈ A ↔ v ∈ B) → A = B
  | [], [], _, _, _, _, _ => rfl
  | [], b :: B, _, _, _, _, h => by have := (h b).2 (by simp); cases this
  | a :: A, [], _, _, _, _, h => by have := (h a).1 (by simp); cases this
  | a :: A, b :: B, hA, hB, h1, h2, h => by
    unfold Asc at h1 h2
    rw [List.pairwise_cons] at h1 h2
    have hab : a = b := by
      rcases List.mem_cons.1 ((h a).1 (by simp)) with e | e
      · exact e
      · rcases List.mem_cons.1 ((h b).2 (by simp)) with e' | e'
        · exact e'.symm
        · have l1 := h2.1 a e
          have l2 := h1.1 b e'
          have := lexI_flip b a ((hB b (by simp)).trans (hA a (by simp)).symm) l1
          rw [l2] at this
          cases this
    subst hab
    have hself : lexI a a ≠ -1 := by rw [lexI_self]; decide
    rw [asc_one (fun v hv => hA v (by simp [hv])) (fun v hv => hB v (by simp [hv])) h1.2 h2.2 (fun v => ⟨fun hv => ?_, fun hv => ?_⟩)]
    · rcases List.mem_cons.1 ((h v).1 (by simp [hv])) with e | e
      · subst e; exact absurd (h1.1 v hv) hself
      · exact e
    · rcases List.mem_cons.1 ((h v).2 (by simp [hv])) with e | e
      · subst e; exact absurd (h2.1 v hv) hself
      · exact e
theorem Tops.one {f : List Int → List Int → Bool} {n : Nat} {l A B : List (List Int)} (hn : ∀ v ∈ l, v.length = n) (ha : Tops f l A) (hb : Tops f l B) : A = B :=
  asc_one (n := n) (fun v hv => hn v ((ha.2 v).1 hv).1) (fun v hv => hn v ((hb.2 v).1 hv).1) ha.1 hb.1 (fun v => (ha.2 v).trans (hb.2 v).symm)
/-- A sorted list without doubles ascends. -/
theorem asc_of {n : Nat} {K : List (List Int)} (hn : ∀ v ∈ K, v.length = n) (hs : K.Pairwise (fun a b => lexI b a ≠ -1)) (hd : K.Nodup) : Asc K := by
  have h2 : K.Pairwise (fun a b => lexI b a ≠ -1 ∧ a ≠ b) := List.Pairwise.and hs hd
  unfold Asc
  refine List.Pairwise.imp_of_mem ?_ h2
  rintro a b ha hb ⟨h1, h2⟩
  rcases lexI_cases a b with h | h | h
  · exact h
  · exact absurd ((lexI_zero a b).1 h) h2
  · exact absurd (lexI_flip1 a b ((hn a ha).trans (hn b hb).symm) h) h1
end Go.Proofs.Ytahffjoehjpfkaa
