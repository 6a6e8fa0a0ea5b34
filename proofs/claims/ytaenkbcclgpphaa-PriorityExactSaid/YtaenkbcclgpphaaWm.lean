/- The mathematics of merges. -/
import Derived.Test.YtaenkbcclgpphaaWs
namespace Go.Proofs.Ytaenkbcclgpphaa
open Go.RowKit
set_option linter.unusedVariables false

/-- What is put ahead stays ahead. -/
theorem mergesL_front : ∀ (n : Nat) (f a b : List Int), a.length + b.length ≤ n → mergesL f a b = (mergesL [] a b).map (f ++ ·)
  | n, f, [], b, h => by rw [mergesL_base f [] b (.inl rfl), mergesL_base [] [] b (.inl rfl)]; rfl
  | n, f, x :: a, [], h => by rw [mergesL_base f (x :: a) [] (.inr rfl), mergesL_base [] (x :: a) [] (.inr rfl)]; rfl
  | 0, f, x :: a, y :: b, h => by simp at h
  | n + 1, f, x :: a, y :: b, h => by
    simp only [List.length_cons] at h
    rw [mergesL, mergesL]
    split
    · rw [mergesL_front n (f ++ [x]) a b (by omega), mergesL_front n ([] ++ [x]) a b (by omega), List.map_map]
      congr 1; funext y; simp
    · rw [mergesL_front n (f ++ [x]) a (y :: b) (by simp; omega), mergesL_front n ([] ++ [x]) a (y :: b) (by simp; omega),
        mergesL_front n (f ++ [y]) (x :: a) b (by simp; omega), mergesL_front n ([] ++ [y]) (x :: a) b (by simp; omega), List.map_append, List.map_map, List.map_map]
      congr 1 <;> (congr 1; funext y; simp)
def mer (a b : List Int) : List (List Int) := mergesL [] a b
theorem mer_nil_left (b : List Int) : mer [] b = [b] := by rw [mer, mergesL_base [] [] b (.inl rfl)]; rfl
theorem mer_nil_right (a : List Int) : mer a [] = [a] := by rw [mer, mergesL_base [] a [] (.inr rfl)]; simp
theorem mer_cons (x y : Int) (a b : List Int) : mer (x :: a) (y :: b) = if x = y then (mer a b).map (x :: ·) else (mer a (y :: b)).map (x :: ·) ++ (mer (x :: a) b).map (y :: ·) := by
  unfold mer
  rw [mergesL]
  split
  · rw [mergesL_front _ ([] ++ [x]) a b (Nat.le_refl _)]; rfl
  · rw [mergesL_front _ ([] ++ [x]) a (y :: b) (Nat.le_refl _), mergesL_front _ ([] ++ [y]) (x :: a) b (Nat.le_refl _)]; rfl

/-- What is made is above both, of their letters, and no longer than both together. -/
def MerOk (a b x : List Int) : Prop := a.Sublist x ∧ b.Sublist x ∧ x.length ≤ a.length + b.length ∧ ∀ z ∈ x, z ∈ a ∨ z ∈ b
theorem mer_ok : ∀ (n : Nat) (a b : List Int), a.length + b.length ≤ n → ∀ x ∈ mer a b, MerOk a b x
  | n, [], b, h, x, hx => by
    rw [mer_nil_left, List.mem_singleton] at hx
    subst hx
    exact ⟨List.nil_sublist _, List.Sublist.refl _, by simp, fun z hz => .inr hz⟩
  | n, x :: a, [], h, z, hz => by
    rw [mer_nil_right, List.mem_singleton] at hz
    subst hz
    exact ⟨List.Sublist.refl _, List.nil_sublist _, by simp, fun z hz => .inl hz⟩
  | 0, x :: a, y :: b, h, z, hz => by simp at h
  | n + 1, x :: a, y :: b, h, z, hz => by
    simp only [List.length_cons] at h
    rw [mer_cons] at hz
    split at hz
    · next e =>
      subst e
      obtain ⟨t, ht, rfl⟩ := List.mem_map.1 hz
      obtain ⟨h1, h2, h3, h4⟩ := mer_ok n a b (by omega) t ht
      refine ⟨h1.cons_cons x, h2.cons_cons x, by simp; omega, fun z hz => ?_⟩
      rcases List.mem_cons.1 hz with rfl | hz
      · exact .inl (by simp)
      · rcases h4 z hz with h | h
        · exact .inl (List.mem_cons_of_mem _ h)
        · exact .inr (List.mem_cons_of_mem _ h)
    · rcases List.mem_append.1 hz with hz | hz
      · obtain ⟨t, ht, rfl⟩ := List.mem_map.1 hz
        obtain ⟨h1, h2, h3, h4⟩ := mer_ok n a (y :: b) (by simp; omega) t ht
        refine ⟨h1.cons_cons x, h2.cons x, by simp at h3 ⊢; omega, fun z hz => ?_⟩
        rcases List.mem_cons.1 hz with rfl | hz
        · exact .inl (by simp)
        · rcases h4 z hz with h | h
          · exact .inl (List.mem_cons_of_mem _ h)
          · exact .inr h
      · obtain ⟨t, ht, rfl⟩ := List.mem_map.1 hz
        obtain ⟨h1, h2, h3, h4⟩ := mer_ok n (x :: a) b (by simp; omega) t ht
        refine ⟨h1.cons y, h2.cons_cons y, by simp at h3 ⊢; omega, fun z hz => ?_⟩
        rcases List.mem_cons.1 hz with rfl | hz
        · exact .inr (by simp)
        · rcases h4 z hz with h | h
          · exact .inl h
          · exact .inr (List.mem_cons_of_mem _ h)

/-- A word above both is above one of what is made. -/
theorem mer_all : ∀ (c a b : List Int), a.Sublist c → b.Sublist c → ∃ x ∈ mer a b, x.Sublist c
  | c, [], b, _, hb => ⟨b, by rw [mer_nil_left]; simp, hb⟩
  | c, x :: a, [], ha, _ => ⟨x :: a, by rw [mer_nil_right]; simp, ha⟩
  | [], x :: a, y :: b, ha, _ => by cases ha
  | z :: c, x :: a, y :: b, ha, hb => by
    rw [mer_cons]
    by_cases hx : x = z
    · subst hx
      have ha' : a.Sublist c := List.cons_sublist_cons.1 ha
      split
      · next e =>
        subst e
        obtain ⟨t, ht, hs⟩ := mer_all c a b ha' (List.cons_sublist_cons.1 hb)
        exact ⟨_, List.mem_map_of_mem ht, hs.cons_cons x⟩
      · next e =>
        have hb' : (y :: b).Sublist c := by
          cases hb with
          | cons _ h => exact h
          | cons_cons _ h => exact absurd rfl e
        obtain ⟨t, ht, hs⟩ := mer_all c a (y :: b) ha' hb'
        exact ⟨_, List.mem_append_left _ (List.mem_map_of_mem ht), hs.cons_cons x⟩
    · have ha' : (x :: a).Sublist c := by
        cases ha with
        | cons _ h => exact h
        | cons_cons _ h => exact absurd rfl hx
      by_cases hy : y = z
      · subst hy
        rw [if_neg hx]
        obtain ⟨t, ht, hs⟩ := mer_all c (x :: a) b ha' (List.cons_sublist_cons.1 hb)
        exact ⟨_, List.mem_append_right _ (List.mem_map_of_mem ht), hs.cons_cons y⟩
      · have hb' : (y :: b).Sublist c := by
          cases hb with
          | cons _ h => exact h
          | cons_cons _ h => exact absurd rfl hy
        obtain ⟨t, ht, hs⟩ := mer_all c (x :: a) (y :: b) ha' hb'
        rw [mer_cons] at ht
        exact ⟨t, ht, hs.cons z⟩
termination_by c => c.length

/-! What is kept -/
theorem keep_sub : ∀ (rs acc : List (List Int)) (x : List Int), x ∈ rs.foldl keep1 acc → x ∈ acc ∨ x ∈ rs
  | [], acc, x, h => .inl h
  | r :: rs, acc, x, h => by
    rcases keep_sub rs (keep1 acc r) x h with h | h
    · unfold keep1 at h
      split at h
      · exact .inl h
      · rcases List.mem_append.1 h with h | h
        · exact .inl h
        · rw [List.mem_singleton.1 h]; exact .inr (by simp)
    · exact .inr (List.mem_cons_of_mem _ h)
theorem keep_mono : ∀ (rs acc : List (List Int)) (x : List Int), x ∈ acc → x ∈ rs.foldl keep1 acc
  | [], acc, x, h => h
  | r :: rs, acc, x, h => keep_mono rs (keep1 acc r) x (by unfold keep1; split; exact h; exact List.mem_append_left _ h)
theorem keep_all : ∀ (rs acc : List (List Int)), (∀ r ∈ rs, leqW r r = true) → ∀ r ∈ rs, ∃ v ∈ rs.foldl keep1 acc, leqW v r = true
  | [], acc, _, r, h => by simp at h
  | q :: rs, acc, hv, r, h => by
    rcases List.mem_cons.1 h with rfl | h
    · by_cases hk : acc.any (fun v => leqW v r) = true
      · obtain ⟨v, hv1, hv2⟩ := List.any_eq_true.1 hk
        exact ⟨v, keep_mono rs (keep1 acc r) v (by unfold keep1; rw [if_pos hk]; exact hv1), hv2⟩
      · exact ⟨r, keep_mono rs (keep1 acc r) r (by unfold keep1; rw [if_neg hk]; simp), hv r (by simp)⟩
    · exact keep_all rs (keep1 acc q) (fun r hr => hv r (List.mem_cons_of_mem _ hr)) r h
/-- Of what is kept, no one is below another. -/
theorem keep_apart : ∀ (rs acc : List (List Int)), acc.Pairwise (fun u v => leqW u v = false ∧ leqW v u = false) → (∀ u ∈ acc, ∀ r ∈ rs, leqW r u = true → leqW u r = true) → rs.Pairwise (fun u v => leqW v u = true → leqW u v = true) →
    (rs.foldl keep1 acc).Pairwise (fun u v => leqW u v = false ∧ leqW v u = false)
  | [], acc, h, _, _ => h
  | r :: rs, acc, h, h2, h3 => by
    rw [List.pairwise_cons] at h3
    refine keep_apart rs (keep1 acc r) ?_ ?_ h3.2
    · unfold keep1
      split
      · exact h
      · next hn =>
        rw [List.pairwise_append]
        refine ⟨h, List.pairwise_singleton _ _, fun u hu v hv => ?_⟩
        rw [List.mem_singleton.1 hv]
        have h1 : leqW u r = false := by
          cases hc : leqW u r with
          | false => rfl
          | true => exact absurd (List.any_eq_true.2 ⟨u, hu, hc⟩) hn
        refine ⟨h1, ?_⟩
        cases hc : leqW r u with
        | false => rfl
        | true => rw [h2 u hu r (by simp) hc] at h1; cases h1
    · intro u hu s hs
      have : u ∈ acc ∨ u = r := by
        unfold keep1 at hu
        split at hu
        · exact .inl hu
        · rcases List.mem_append.1 hu with h | h
          · exact .inl h
          · exact .inr (List.mem_singleton.1 h)
      rcases this with h | rfl
      · exact h2 u h s (List.mem_cons_of_mem _ hs)
      · exact h3.1 s hs
theorem asc_leq {rs : List (List Int)} (h : Asc rs) : rs.Pairwise (fun u v => leqW v u = true → leqW u v = true) := by
  refine h.imp fun {u v} hc hl => ?_
  obtain ⟨h1, h2, h3⟩ := (leqW_iff _ _).1 hl
  have hle := h3.length_le
  have hlen : ¬ u.length > v.length := by
    intro hgt
    unfold compareI at hc
    split at hc <;> first | omega | (split at hc <;> omega)
  have := h3.eq_of_length_le (by omega)
  subst this
  exact hl

theorem merge_valid {a b x : List Int} (ha : validW a = true) (hb : validW b = true) (hl : a.length + b.length ≤ 8) (h : x ∈ mer a b) : validW x = true ∧ leqW a x = true ∧ leqW b x = true ∧ x.length ≤ a.length + b.length := by
  obtain ⟨h1, h2, h3, h4⟩ := mer_ok _ a b (Nat.le_refl _) x h
  have hv : validW x = true := by
    unfold validW at *
    rw [Bool.and_eq_true, List.all_eq_true] at *
    refine ⟨by simp; omega, fun z hz => ?_⟩
    rcases h4 z hz with h | h
    · exact ha.2 z h
    · exact hb.2 z h
  exact ⟨hv, (leqW_iff _ _).2 ⟨ha, hv, h1⟩, (leqW_iff _ _).2 ⟨hb, hv, h2⟩, h3⟩
theorem merge_mem {a b x : List Int} (h : x ∈ keepL (ascL (mer a b))) : x ∈ mer a b := by
  rcases keep_sub _ _ _ h with h | h
  · simp at h
  · exact (ascL_mem _ _).1 h
theorem merge_apart (a b : List Int) : (keepL (ascL (mer a b))).Pairwise (fun u v => leqW u v = false ∧ leqW v u = false) :=
  keep_apart _ _ List.Pairwise.nil (by simp) (asc_leq (ascL_asc _))
theorem merge_any {a b c : List Int} (ha : validW a = true) (hb : validW b = true) (hl : a.length + b.length ≤ 8) (hc : validW c = true) :
    (keepL (ascL (mer a b))).any (fun x => leqW x c) = (leqW a c && leqW b c) := by
  rw [Bool.eq_iff_iff, List.any_eq_true, Bool.and_eq_true]
  constructor
  · rintro ⟨x, hx, hl'⟩
    obtain ⟨_, h1, h2, _⟩ := merge_valid ha hb hl (merge_mem hx)
    exact ⟨leqW_trans h1 hl', leqW_trans h2 hl'⟩
  · rintro ⟨h1, h2⟩
    obtain ⟨x, hx, hs⟩ := mer_all c a b ((leqW_iff _ _).1 h1).2.2 ((leqW_iff _ _).1 h2).2.2
    have hv := (merge_valid ha hb hl hx).1
    obtain ⟨v, hv1, hv2⟩ := keep_all (ascL (mer a b)) [] (fun r hr => leqW_refl (merge_valid ha hb hl ((ascL_mem _ _).1 hr)).1) x ((ascL_mem _ _).2 hx)
    exact ⟨v, hv1, leqW_trans hv2 ((leqW_iff _ _).2 ⟨hv, hc, hs⟩)⟩

end Go.Proofs.Ytaenkbcclgpphaa
