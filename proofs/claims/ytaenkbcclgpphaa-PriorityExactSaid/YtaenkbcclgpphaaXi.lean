/- The mathematics of the reference's merges. -/
import Derived.Test.YtaenkbcclgpphaaXh
import Derived.Test.YtaenkbcclgpphaaWm
namespace Go.Proofs.Ytaenkbcclgpphaa
open Go.RowKit
set_option linter.unusedVariables false

def mergedL : List Int → List Int → List (List Int)
  | [], b => [b]
  | x :: a, [] => [x :: a]
  | x :: a, y :: b => if x = y then (mergedL a b).map (fun l => x :: l) else minL ((mergedL a (y :: b)).map (fun l => x :: l) ++ (mergedL (x :: a) b).map (fun l => y :: l))
termination_by a b => a.length + b.length

theorem mergedL_left (b : List Int) : mergedL [] b = [b] := by rw [mergedL]
theorem mergedL_right (a : List Int) : mergedL a [] = [a] := by cases a <;> rw [mergedL]
theorem mergedL_step (a b : List Int) (ha : 0 < a.length) (hb : 0 < b.length) : mergedL a b = if a[0]?.getD 0 = b[0]?.getD 0 then (mergedL (a.drop 1) (b.drop 1)).map (fun l => a[0]?.getD 0 :: l)
    else minL ((mergedL (a.drop 1) b).map (fun l => a[0]?.getD 0 :: l) ++ (mergedL a (b.drop 1)).map (fun l => b[0]?.getD 0 :: l)) := by
  cases a with
  | nil => simp at ha
  | cons x a =>
    cases b with
    | nil => simp at hb
    | cons y b => rw [mergedL]; rfl

theorem minL_sub {l : List (List Int)} {x : List Int} (h : x ∈ minL l) : x ∈ l := by
  unfold minL at h
  exact (List.mem_filter.1 ((ascL_mem _ _).1 h)).1
theorem minL_len (l : List (List Int)) : (minL l).length ≤ l.length := Nat.le_trans (ascL_len _) (List.length_filter_le _ _)

theorem mergedL_mer : ∀ (n : Nat) (a b : List Int), a.length + b.length ≤ n → ∀ x ∈ mergedL a b, x ∈ mer a b
  | n, [], b, h, x, hx => by rw [mergedL_left] at hx; rw [mer_nil_left]; exact hx
  | n, x :: a, [], h, z, hz => by rw [mergedL_right] at hz; rw [mer_nil_right]; exact hz
  | 0, x :: a, y :: b, h, _, _ => by simp at h
  | n + 1, x :: a, y :: b, h, z, hz => by
    simp only [List.length_cons] at h
    rw [mergedL] at hz
    rw [mer_cons]
    split at hz
    · rename_i e
      rw [if_pos e]
      obtain ⟨u, hu, rfl⟩ := List.mem_map.1 hz
      exact List.mem_map.2 ⟨u, mergedL_mer n a b (by omega) u hu, rfl⟩
    · rename_i e
      rw [if_neg e]
      rcases List.mem_append.1 (minL_sub hz) with h1 | h1
      · obtain ⟨u, hu, rfl⟩ := List.mem_map.1 h1
        exact List.mem_append_left _ (List.mem_map.2 ⟨u, mergedL_mer n a (y :: b) (by simp; omega) u hu, rfl⟩)
      · obtain ⟨u, hu, rfl⟩ := List.mem_map.1 h1
        exact List.mem_append_right _ (List.mem_map.2 ⟨u, mergedL_mer n (x :: a) b (by simp; omega) u hu, rfl⟩)
theorem mergedL_len : ∀ (n : Nat) (a b : List Int), a.length + b.length ≤ n → (mergedL a b).length ≤ 2 ^ n
  | n, [], b, h => by rw [mergedL_left]; exact Nat.one_le_two_pow
  | n, x :: a, [], h => by rw [mergedL_right]; exact Nat.one_le_two_pow
  | 0, x :: a, y :: b, h => by simp at h
  | n + 1, x :: a, y :: b, h => by
    simp only [List.length_cons] at h
    rw [mergedL]
    split
    · rw [List.length_map]
      exact Nat.le_trans (mergedL_len n a b (by omega)) (Nat.pow_le_pow_right (by decide) (by omega))
    · refine Nat.le_trans (minL_len _) ?_
      have h1 := mergedL_len n a (y :: b) (by simp; omega)
      have h2 := mergedL_len n (x :: a) b (by simp; omega)
      rw [List.length_append, List.length_map, List.length_map, Nat.pow_succ]
      omega
theorem mergedL_el {a b x : List Int} (h : x ∈ mergedL a b) : x.length ≤ a.length + b.length := (mer_ok _ a b (Nat.le_refl _) x (mergedL_mer _ a b (Nat.le_refl _) x h)).2.2.1

/-- Minimal in a list. -/
def MinIn (L : List (List Int)) (x : List Int) : Prop := x ∈ L ∧ ∀ y ∈ L, y.Sublist x → y = x
theorem sub_anti {x y : List Int} (h : x.Sublist y) (h' : y.Sublist x) : x = y := h.eq_of_length_le h'.length_le
theorem minL_iff {L : List (List Int)} (hv : ∀ y ∈ L, validW y = true) (x : List Int) : x ∈ minL L ↔ MinIn L x := by
  unfold minL MinIn
  rw [ascL_mem, List.mem_filter]
  refine and_congr_right fun hx => ?_
  unfold leastW
  rw [List.all_eq_true]
  refine forall_congr' fun y => forall_congr' fun hy => ?_
  unfold leastF
  rw [Bool.not_eq_true', Bool.and_eq_false_iff]
  constructor
  · rintro (h | h) hs
    · exact (compareI_zero _ _).1 (by simpa using h)
    · rw [(leqW_iff y x).2 ⟨hv y hy, hv x hx, hs⟩] at h; cases h
  · intro h
    cases hl : leqW y x with
    | false => exact .inr rfl
    | true => exact .inl (by rw [(compareI_zero _ _).2 (h ((leqW_iff y x).1 hl).2.2)]; rfl)
theorem keep_sublist : ∀ (rs acc : List (List Int)), ∃ t, rs.foldl keep1 acc = acc ++ t ∧ t.Sublist rs
  | [], acc => ⟨[], by simp, List.Sublist.refl _⟩
  | r :: rs, acc => by
    obtain ⟨t, h1, h2⟩ := keep_sublist rs (keep1 acc r)
    rw [List.foldl_cons, h1]
    unfold keep1
    split
    · exact ⟨t, rfl, h2.cons _⟩
    · exact ⟨r :: t, by simp, h2.cons_cons _⟩
theorem keepL_asc (rs : List (List Int)) (h : Asc rs) : Asc (keepL rs) := by
  obtain ⟨t, h1, h2⟩ := keep_sublist rs []
  unfold keepL
  rw [h1, List.nil_append]
  exact h.sublist h2
theorem apart_of {L : List (List Int)} (h : L.Pairwise (fun u v => leqW u v = false ∧ leqW v u = false)) {x y : List Int} (hx : x ∈ L) (hy : y ∈ L) (hl : leqW x y = true) : x = y := by
  obtain ⟨i, hi, rfl⟩ := List.getElem_of_mem hx
  obtain ⟨j, hj, rfl⟩ := List.getElem_of_mem hy
  rcases Nat.lt_trichotomy i j with h1 | h1 | h1
  · have := (List.pairwise_iff_getElem.1 h i j hi hj h1).1; rw [hl] at this; cases this
  · subst h1; rfl
  · have := (List.pairwise_iff_getElem.1 h j i hj hi h1).2; rw [hl] at this; cases this
theorem keepL_iff {L : List (List Int)} (hv : ∀ y ∈ L, validW y = true) (x : List Int) : x ∈ keepL (ascL L) ↔ MinIn L x := by
  have hsub : ∀ z ∈ keepL (ascL L), z ∈ L := by
    intro z hz
    rcases keep_sub _ _ _ hz with h | h
    · simp at h
    · exact (ascL_mem _ _).1 h
  have hap : (keepL (ascL L)).Pairwise (fun u v => leqW u v = false ∧ leqW v u = false) := keep_apart _ _ List.Pairwise.nil (by simp) (asc_leq (ascL_asc _))
  have hall := keep_all (ascL L) [] (fun r hr => leqW_refl (hv r ((ascL_mem _ _).1 hr)))
  constructor
  · intro hx
    refine ⟨hsub x hx, fun y hy hs => ?_⟩
    obtain ⟨v, hv1, hv2⟩ := hall y ((ascL_mem _ _).2 hy)
    have hvx : v = x := apart_of hap hv1 hx (leqW_trans hv2 ((leqW_iff _ _).2 ⟨hv y hy, hv x (hsub x hx), hs⟩))
    subst hvx
    exact sub_anti hs ((leqW_iff _ _).1 hv2).2.2
  · rintro ⟨hx, hm⟩
    obtain ⟨v, hv1, hv2⟩ := hall x ((ascL_mem _ _).2 hx)
    have := hm v (hsub v hv1) ((leqW_iff _ _).1 hv2).2.2
    subst this
    exact hv1
/-- Below each there is a minimal one. -/
theorem exists_min (L : List (List Int)) : ∀ (n : Nat) (x : List Int), x.length ≤ n → x ∈ L → ∃ z, MinIn L z ∧ z.Sublist x
  | n, x, hn, hx => by
    by_cases h : ∀ y ∈ L, y.Sublist x → y = x
    · exact ⟨x, ⟨hx, h⟩, List.Sublist.refl _⟩
    · simp only [Classical.not_forall] at h
      obtain ⟨y, hy, hs, hne⟩ := h
      have hlt : y.length < x.length := by
        rcases Nat.lt_or_ge y.length x.length with h1 | h1
        · exact h1
        · exact absurd (hs.eq_of_length_le h1) hne
      cases n with
      | zero => omega
      | succ n =>
        obtain ⟨z, h1, h2⟩ := exists_min L n y (by omega) hy
        exact ⟨z, h1, h2.trans hs⟩

theorem mer_valid {a b x : List Int} (ha : validW a = true) (hb : validW b = true) (hl : a.length + b.length ≤ 12) (h : x ∈ mer a b) : validW x = true := by
  obtain ⟨_, _, h3, h4⟩ := mer_ok _ a b (Nat.le_refl _) x h
  unfold validW at *
  rw [Bool.and_eq_true, List.all_eq_true] at *
  refine ⟨by simp; omega, fun z hz => ?_⟩
  rcases h4 z hz with h | h
  · exact ha.2 z h
  · exact hb.2 z h
theorem valid_tail {x : Int} {a : List Int} (h : validW (x :: a) = true) : validW a = true := by
  unfold validW at *
  rw [Bool.and_eq_true, List.all_eq_true] at *
  exact ⟨by have := h.1; simp at this ⊢; omega, fun z hz => h.2 z (List.mem_cons_of_mem _ hz)⟩

theorem min_in_merged : ∀ (n : Nat) (a b : List Int), a.length + b.length ≤ n → n ≤ 12 → validW a = true → validW b = true → ∀ x, MinIn (mer a b) x → x ∈ mergedL a b
  | n, [], b, h, _, _, _, x, hx => by have := hx.1; rw [mer_nil_left] at this; rw [mergedL_left]; exact this
  | n, x :: a, [], h, _, _, _, z, hz => by have := hz.1; rw [mer_nil_right] at this; rw [mergedL_right]; exact this
  | 0, x :: a, y :: b, h, _, _, _, _, _ => by simp at h
  | n + 1, x :: a, y :: b, h, hn, ha, hb, z, hz => by
    have hs := h
    simp only [List.length_cons] at hs
    have hva := valid_tail ha
    have hvb := valid_tail hb
    have hmin : ∀ {L : List (List Int)} {c : Int} {u : List Int}, MinIn (mer (x :: a) (y :: b)) (c :: u) → (∀ v ∈ L, c :: v ∈ mer (x :: a) (y :: b)) → u ∈ L → MinIn L u := by
      intro L c u h1 h2 h3
      refine ⟨h3, fun v hv hs => ?_⟩
      have := h1.2 (c :: v) (h2 v hv) (hs.cons_cons c)
      simpa using this
    have hz' := hz
    rw [mergedL]
    by_cases e : x = y
    · subst e
      rw [if_pos rfl]
      have hm : mer (x :: a) (x :: b) = (mer a b).map (fun l => x :: l) := by rw [mer_cons, if_pos rfl]
      have h1 := hz.1
      rw [hm] at h1
      obtain ⟨u, hu, rfl⟩ := List.mem_map.1 h1
      exact List.mem_map.2 ⟨u, min_in_merged n a b (by omega) (by omega) hva hvb u (hmin hz (fun v hv => by rw [hm]; exact List.mem_map.2 ⟨v, hv, rfl⟩) hu), rfl⟩
    · rw [if_neg e]
      have hm : mer (x :: a) (y :: b) = (mer a (y :: b)).map (fun l => x :: l) ++ (mer (x :: a) b).map (fun l => y :: l) := by rw [mer_cons, if_neg e]
      have hsubs : ∀ t ∈ (mergedL a (y :: b)).map (fun l => x :: l) ++ (mergedL (x :: a) b).map (fun l => y :: l), t ∈ mer (x :: a) (y :: b) := by
        intro t ht
        rw [hm]
        rcases List.mem_append.1 ht with h1 | h1
        · obtain ⟨u, hu, rfl⟩ := List.mem_map.1 h1
          exact List.mem_append_left _ (List.mem_map.2 ⟨u, mergedL_mer _ a (y :: b) (Nat.le_refl _) u hu, rfl⟩)
        · obtain ⟨u, hu, rfl⟩ := List.mem_map.1 h1
          exact List.mem_append_right _ (List.mem_map.2 ⟨u, mergedL_mer _ (x :: a) b (Nat.le_refl _) u hu, rfl⟩)
      rw [minL_iff (fun t ht => mer_valid ha hb (by omega) (hsubs t ht))]
      refine ⟨?_, fun t ht hst => hz.2 t (hsubs t ht) hst⟩
      have h1 := hz.1
      rw [hm] at h1
      rcases List.mem_append.1 h1 with h1 | h1
      · obtain ⟨u, hu, rfl⟩ := List.mem_map.1 h1
        exact List.mem_append_left _ (List.mem_map.2 ⟨u, min_in_merged n a (y :: b) (by simp; omega) (by omega) hva hb u (hmin hz (fun v hv => by rw [hm]; exact List.mem_append_left _ (List.mem_map.2 ⟨v, hv, rfl⟩)) hu), rfl⟩)
      · obtain ⟨u, hu, rfl⟩ := List.mem_map.1 h1
        exact List.mem_append_right _ (List.mem_map.2 ⟨u, min_in_merged n (x :: a) b (by simp; omega) (by omega) ha hvb u (hmin hz (fun v hv => by rw [hm]; exact List.mem_append_right _ (List.mem_map.2 ⟨v, hv, rfl⟩)) hu), rfl⟩)

theorem min_merged {a b : List Int} (ha : validW a = true) (hb : validW b = true) (hl : a.length + b.length ≤ 12) (x : List Int) : MinIn (mergedL a b) x ↔ MinIn (mer a b) x := by
  constructor
  · rintro ⟨h1, h2⟩
    refine ⟨mergedL_mer _ a b (Nat.le_refl _) x h1, fun y hy hs => ?_⟩
    obtain ⟨z, hz1, hz2⟩ := exists_min (mer a b) _ y (Nat.le_refl _) hy
    have := h2 z (min_in_merged _ a b hl (by omega) ha hb z hz1) (hz2.trans hs)
    subst this
    exact sub_anti hs hz2
  · intro h
    exact ⟨min_in_merged _ a b hl (by omega) ha hb x h, fun y hy hs => h.2 y (mergedL_mer _ a b (Nat.le_refl _) y hy) hs⟩
/-- The reference's merges are the program's. -/
theorem merge_same {a b : List Int} (ha : validW a = true) (hb : validW b = true) (hl : a.length + b.length ≤ 12) : minL (mergedL a b) = keepL (ascL (mer a b)) := by
  refine asc_unique _ _ (ascL_asc _) (keepL_asc _ (ascL_asc _)) fun x => ?_
  rw [minL_iff (fun t ht => mer_valid ha hb hl (mergedL_mer _ a b (Nat.le_refl _) t ht)), keepL_iff (fun t ht => mer_valid ha hb hl ht), min_merged ha hb hl]

end Go.Proofs.Ytaenkbcclgpphaa
