/- limit: what is left behind some corners; no more than 256 of them. -/
import Derived.Test.YtahffjoehjpfkaaZq
import Derived.Deep.Matrix
namespace Go.Proofs.Ytahffjoehjpfkaa
open Go.RowKit
set_option linter.unusedVariables false

theorem asc_nodup {K : List (List Int)} (h : Asc K) : K.Nodup := by
  refine List.Pairwise.imp ?_ h
  rintro a b hab rfl
  rw [lexI_self] at hab
  revert hab
  decide
theorem nodup_sub : ∀ {A B : List (List Int)}, A.Nodup → (∀ x ∈ A, x ∈ B) → A.length ≤ B.length
  | [], _, _, _ => by simp
  | a :: A, B, h, hs => by
    rw [List.nodup_cons] at h
    obtain ⟨s, t, rfl⟩ := List.append_of_mem (hs a (by simp))
    have := nodup_sub (A := A) (B := s ++ t) h.2 (fun x hx => by
      have h5 := hs x (by simp [hx])
      rw [List.mem_append, List.mem_cons] at h5
      rw [List.mem_append]
      rcases h5 with h5 | h5 | h5
      · exact .inl h5
      · subst h5; exact absurd hx h.1
      · exact .inr h5)
    simp only [List.length_append, List.length_cons] at this ⊢
    omega
theorem under_any {K : List (List Int)} {z : List Int} : Under leqI K z ↔ K.any (leqI z) = true := by
  rw [List.any_eq_true]
  exact Iff.rfl
theorem under_of {n : Nat} {l K : List (List Int)} (hn : ∀ v ∈ l, v.length = n) (h : Tops leqI l K) (hex : ∀ v ∈ l, ∃ u, Top leqI l u ∧ leqI v u = true) {z : List Int} (hz : z.length = n) : K.any (leqI z) = true ↔ Under leqI l z :=
  under_any.symm.trans (h.under (ord_leq n) hn hz hex)
theorem or_eq {X Y U : Bool} (h : U = true ↔ X = true ∨ Y = true) : U = (X || Y) := by cases X <;> cases Y <;> cases U <;> simp_all
theorem and_eq {X Y U : Bool} (h : U = true ↔ X = true ∧ Y = true) : U = (X && Y) := by cases X <;> cases Y <;> cases U <;> simp_all
theorem imp_eq {X Y S : Bool} (h : S = true → X = true → Y = true) : X = true → Y = false → S = false := by cases X <;> cases Y <;> cases S <;> simp_all
theorem small_fin {n : Nat} {z : List Int} (hn : n ≤ 6) (hl : z.length = n) (h : ∀ x ∈ z, 0 ≤ x ∧ x ≤ 5) : finiteB z = true := by
  unfold finiteB
  simp only [Bool.and_eq_true, decide_eq_true_eq, List.all_eq_true]
  refine ⟨by omega, fun x hx => ?_⟩
  have := h x hx
  unfold numB
  simp only [Bool.and_eq_true, decide_eq_true_eq]
  omega
def SmallTo (n : Nat) (w0 w : World) (p : Value) (d : Nat) (e : Ending) (w' : World) : Prop :=
  ∃ (a : Option Addr) (c : Nat) (us : List Int), e = .returned (.slice a us.length c) ∧ us.length = n ∧ finiteB us = true ∧ RowOk w' (.slice a us.length c, us) ∧ St w0 w' p d ∧ w.grownBy w' (some d)
theorem small5 {w0 w : World} {p : Value} {d : Nat} (h : St w0 w p d) (n : Nat) (h1 : n ≤ 6) :
    Calls Try.prog 14 #[p, .int .i64 n, .int .i64 5] w (SmallTo n w0 w p d) :=
  (small_any p d n 5 w h.1 (by omega) (by omega) (by omega)).mono fun e w' ⟨v, xs, he, hl, hp, ho, hd, hg⟩ => by
    obtain ⟨a, c, rfl⟩ := ownI_sl' ho
    have hl' : xs.length = n := by simpa using hl
    exact ⟨a, c, xs, he, hl', small_fin h1 hl' hp, ho.row (by intro x hx; have := hp x hx; omega), h.deal hd hg, hg⟩

theorem getD_le {z : List Int} {m : Int} (hm : 0 ≤ m) (h : ∀ x ∈ z, x ≤ m) (j : Nat) : z[j]?.getD 0 ≤ m := by
  by_cases hj : j < z.length
  · exact h _ (mem_getD hj)
  · rw [List.getElem?_eq_none (by omega)]; exact hm
theorem getD_ge {z : List Int} (h : ∀ x ∈ z, 0 ≤ x) (j : Nat) : 0 ≤ z[j]?.getD 0 := by
  by_cases hj : j < z.length
  · exact h _ (mem_getD hj)
  · rw [List.getElem?_eq_none (by omega)]; exact Int.le_refl _
theorem only_at (n i : Nat) (m x : Int) (hi : i < n) : (onlyL n m i x)[i]?.getD 0 = x := by
  unfold onlyL
  rw [List.getElem?_set]
  simp [hi]
theorem only_off (n i j : Nat) (m x : Int) (hj : j < n) (h : i ≠ j) : (onlyL n m i x)[j]?.getD 0 = m := by
  unfold onlyL
  rw [List.getElem?_set]
  simp [h, hj]
theorem only_len (n i : Nat) (m x : Int) : (onlyL n m i x).length = n := by simp [onlyL]
theorem leq_only {n i : Nat} {z : List Int} {m x : Int} (hl : z.length = n) (hm : 0 ≤ m) (h : ∀ x ∈ z, x ≤ m) (hi : i < n) : leqI z (onlyL n m i x) = true ↔ z[i]?.getD 0 ≤ x := by
  rw [leqI_iff z _ (by rw [only_len, hl])]
  constructor
  · intro h1
    have := h1 i
    rwa [only_at n i m x hi] at this
  · intro h1 j
    by_cases hj : j < n
    · by_cases e : i = j
      · subst e; rw [only_at n i m x hi]; exact h1
      · rw [only_off n i j m x hj e]; exact getD_le hm h j
    · rw [List.getElem?_eq_none (by omega), List.getElem?_eq_none (by rw [only_len]; omega)]; exact Int.le_refl _
theorem leq_full {n : Nat} {z : List Int} {m : Int} (hl : z.length = n) (hm : 0 ≤ m) (h : ∀ x ∈ z, x ≤ m) : leqI z (List.replicate n m) = true := by
  rw [leqI_iff z _ (by simp [hl])]
  intro j
  by_cases hj : j < n
  · rw [show (List.replicate n m)[j]?.getD 0 = m by simp [hj]]; exact getD_le hm h j
  · rw [List.getElem?_eq_none (by omega), List.getElem?_eq_none (by simp; omega)]; exact Int.le_refl _
theorem mem_out {P : Int → Bool} {esc : List Int → Nat → List Int} {v u : List Int} {n : Nat} : u ∈ outL P esc v n ↔ ∃ i, i < n ∧ P (v[i]?.getD 0) = true ∧ esc v i = u := by
  unfold outL
  rw [List.mem_map]
  constructor
  · rintro ⟨i, hi, e⟩
    rw [List.mem_filter, List.mem_range] at hi
    exact ⟨i, hi.1, hi.2, e⟩
  · rintro ⟨i, hi, hp, e⟩
    exact ⟨i, by rw [List.mem_filter, List.mem_range]; exact ⟨hi, hp⟩, e⟩
theorem under_out {n : Nat} {v z : List Int} (hv : v.length = n) (hz : z.length = n) (hz0 : ∀ x ∈ z, 0 ≤ x) (hzm : ∀ x ∈ z, x ≤ 1099511627776) :
    Under leqI (outL (fun x => x != 0) escU v n) z ↔ leqI v z = false := by
  constructor
  · rintro ⟨u, hu, h⟩
    obtain ⟨i, hi, hp, rfl⟩ := mem_out.1 hu
    unfold escU at h
    rw [hv, leq_only hz (by omega) hzm hi] at h
    cases hvz : leqI v z with
    | false => rfl
    | true =>
      have := (leqI_iff v z (by omega)).1 hvz i
      omega
  · intro h
    have h1 : ¬ ∀ i : Nat, v[i]?.getD 0 ≤ z[i]?.getD 0 := fun h2 => by
      rw [(leqI_iff v z (by omega)).2 h2] at h; cases h
    obtain ⟨i, h2⟩ := Classical.not_forall.1 h1
    have hi : i < n := by
      rcases Nat.lt_or_ge i n with h3 | h3
      · exact h3
      · rw [List.getElem?_eq_none (by omega), List.getElem?_eq_none (by omega)] at h2
        exact absurd (Int.le_refl _) h2
    have h0 := getD_ge hz0 i
    refine ⟨escU v i, mem_out.2 ⟨i, hi, ?_, rfl⟩, ?_⟩
    · rw [bne_iff_ne]; omega
    · unfold escU
      rw [hv, leq_only hz (by omega) hzm hi]
      omega
theorem out_len {n : Nat} {v u : List Int} (hv : v.length = n) (h : u ∈ outL (fun x => x != 0) escU v n) : u.length = n := by
  obtain ⟨i, hi, hp, rfl⟩ := mem_out.1 h
  unfold escU
  rw [only_len, hv]
theorem meetsN_len {n : Nat} {a b : List (List Int)} (ha : ∀ v ∈ a, v.length = n) (hb : ∀ v ∈ b, v.length = n) : ∀ v ∈ meetsL minV a b, v.length = n := fun v hv => by
  obtain ⟨x, hx, h5⟩ := List.mem_flatMap.1 hv
  obtain ⟨u, hu, rfl⟩ := List.mem_map.1 h5
  exact minV_len (ha x hx) (hb u hu)
abbrev BelowC (n : Nat) := Chain leqI minV (fun x => x != 0) escU (List.replicate n 1099511627776) n
/-- What is left: in their order, none under another, and a vector is under one of them when no corner is under it. -/
theorem chain_split {n : Nat} (l : List (List Int)) : ∀ R, (∀ v ∈ l, v.length = n) → BelowC n l R →
    (∀ x ∈ R, x.length = n) ∧ Asc R ∧ R.Pairwise (fun a b => leqI a b = false ∧ leqI b a = false) ∧ ∀ z, z.length = n → (∀ x ∈ z, 0 ≤ x) → (∀ x ∈ z, x ≤ 1099511627776) → (Under leqI R z ↔ ∀ v ∈ l, leqI v z = false) := by
  refine snoc_ind (P := fun l => ∀ R, (∀ v ∈ l, v.length = n) → BelowC n l R →
    (∀ x ∈ R, x.length = n) ∧ Asc R ∧ R.Pairwise (fun a b => leqI a b = false ∧ leqI b a = false) ∧ ∀ z, z.length = n → (∀ x ∈ z, 0 ≤ x) → (∀ x ∈ z, x ≤ 1099511627776) → (Under leqI R z ↔ ∀ v ∈ l, leqI v z = false)) ?_ ?_ l
  · intro R _ h
    rw [Chain.nil h]
    refine ⟨by simp, by unfold Asc; simp, by simp, fun z hz h0 hm => ⟨fun _ v hv => absurd hv List.not_mem_nil, fun _ => ⟨_, List.mem_singleton.2 rfl, leq_full hz (by omega) hm⟩⟩⟩
  · intro l v ih R hl h
    obtain ⟨R0, h0, ht, hex⟩ := Chain.last h
    obtain ⟨hn0, -, -, hs0⟩ := ih R0 (fun u hu => hl u (List.mem_append_left _ hu)) h0
    have hv : v.length = n := hl v (by simp)
    have hn1 := meetsN_len hn0 (fun u hu => out_len hv hu)
    refine ⟨fun x hx => hn1 x ((ht.2 x).1 hx).1, ht.1, ht.apart, fun z hz hz0 hzm => ?_⟩
    rw [ht.under (ord_leq n) hn1 hz hex, Under.meet hn0 (fun u hu => out_len hv hu) hz, hs0 z hz hz0 hzm, under_out hv hz hz0 hzm]
    constructor
    · rintro ⟨h1, h2⟩ u hu
      rcases List.mem_append.1 hu with h3 | h3
      · exact h1 u h3
      · rw [List.mem_singleton.1 h3]; exact h2
    · intro h1
      exact ⟨fun u hu => h1 u (List.mem_append_left _ hu), h1 v (by simp)⟩
def In4 (x : Int) : Prop := x = 0 ∨ x = 1 ∨ x = 2 ∨ x = 1099511627776
theorem minV_in4 : ∀ {a b : List Int}, (∀ x ∈ a, In4 x) → (∀ x ∈ b, In4 x) → ∀ x ∈ minV a b, In4 x
  | [], _, _, _ => by simp [minV]
  | _ :: _, [], _, _ => by simp [minV]
  | x :: a, y :: b, ha, hb => by
    intro z hz
    rw [show minV (x :: a) (y :: b) = min x y :: minV a b from rfl, List.mem_cons] at hz
    rcases hz with h | h
    · have h1 := ha x (by simp); have h2 := hb y (by simp)
      rcases Int.le_total x y with h3 | h3
      · rw [h, Int.min_eq_left h3]; exact h1
      · rw [h, Int.min_eq_right h3]; exact h2
    · exact minV_in4 (fun u hu => ha u (by simp [hu])) (fun u hu => hb u (by simp [hu])) z h
theorem out_in4 {n : Nat} {v u : List Int} (hv : v.length = n) (h3 : ∀ x ∈ v, 0 ≤ x ∧ x ≤ 3) (h : u ∈ outL (fun x => x != 0) escU v n) : ∀ x ∈ u, In4 x := by
  obtain ⟨i, hi, hp, rfl⟩ := mem_out.1 h
  intro x hx
  unfold escU onlyL at hx
  have h4 := h3 _ (mem_getD (by omega : i < v.length))
  rw [bne_iff_ne] at hp
  rcases List.mem_or_eq_of_mem_set hx with h5 | h5
  · exact .inr (.inr (.inr (List.eq_of_mem_replicate h5)))
  · unfold In4; omega
theorem chain_in4 {n : Nat} (l : List (List Int)) : ∀ R, (∀ v ∈ l, v.length = n ∧ ∀ x ∈ v, 0 ≤ x ∧ x ≤ 3) → BelowC n l R → ∀ v ∈ R, ∀ x ∈ v, In4 x := by
  refine snoc_ind (P := fun l => ∀ R, (∀ v ∈ l, v.length = n ∧ ∀ x ∈ v, 0 ≤ x ∧ x ≤ 3) → BelowC n l R → ∀ v ∈ R, ∀ x ∈ v, In4 x) ?_ ?_ l
  · intro R _ h
    rw [Chain.nil h]
    intro v hv x hx
    rw [List.mem_singleton.1 hv] at hx
    exact .inr (.inr (.inr (List.eq_of_mem_replicate hx)))
  · intro l v ih R hl h
    obtain ⟨R0, h0, ht, hex⟩ := Chain.last h
    have h1 := ih R0 (fun u hu => hl u (List.mem_append_left _ hu)) h0
    obtain ⟨hv, h3⟩ := hl v (by simp)
    intro y hy
    obtain ⟨x, hx, h5⟩ := List.mem_flatMap.1 ((ht.2 y).1 hy).1
    obtain ⟨u, hu, rfl⟩ := List.mem_map.1 h5
    exact minV_in4 (h1 x hx) (out_in4 hv h3 hu)
def allL : Nat → List (List Int)
  | 0 => [[]]
  | n + 1 => (allL n).map (0 :: ·) ++ (allL n).map (1 :: ·) ++ (allL n).map (2 :: ·) ++ (allL n).map (1099511627776 :: ·)
theorem allL_len : ∀ n, (allL n).length = 4 ^ n
  | 0 => rfl
  | n + 1 => by simp only [allL, List.length_append, List.length_map, allL_len n, Nat.pow_succ]; omega
theorem mem_allL : ∀ (v : List Int), (∀ x ∈ v, In4 x) → v ∈ allL v.length
  | [], _ => by simp [allL]
  | x :: v, h => by
    have h1 := mem_allL v (fun u hu => h u (by simp [hu]))
    simp only [List.length_cons, allL, List.mem_append, List.mem_map]
    rcases h x (by simp) with e | e | e | e
    · exact .inl (.inl (.inl ⟨v, h1, by rw [e]⟩))
    · exact .inl (.inl (.inr ⟨v, h1, by rw [e]⟩))
    · exact .inl (.inr ⟨v, h1, by rw [e]⟩)
    · exact .inr ⟨v, h1, by rw [e]⟩
theorem chain_ok {n : Nat} {l R : List (List Int)} (h1 : 1 ≤ n) (h4 : n ≤ 4) (hl : ∀ v ∈ l, v.length = n ∧ ∀ x ∈ v, 0 ≤ x ∧ x ≤ 3) (h : BelowC n l R) : LimOk n R := by
  obtain ⟨hn, ha, hp, -⟩ := chain_split l R (fun v hv => (hl v hv).1) h
  have hi := chain_in4 l R hl h
  have hlen := nodup_sub (A := R) (B := allL n) (asc_nodup ha) (fun x hx => by
    have := mem_allL x (hi x hx)
    rwa [hn x hx] at this)
  have h5 : 4 ^ n ≤ 4 ^ 4 := Nat.pow_le_pow_right (by omega) h4
  rw [allL_len] at hlen
  refine ⟨h1, by omega, by omega, fun v hv => ⟨hn v hv, elem_valid (by rw [hn v hv]; omega) (fun x hx => ?_)⟩, ha, hp.imp (fun h => h.1)⟩
  have := hi v hv x hx
  unfold In4 at this
  unfold Elem
  omega
end Go.Proofs.Ytahffjoehjpfkaa
