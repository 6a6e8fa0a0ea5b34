/- Downward closed sets of vectors: what lies under a list, unions and intersections, and that the list of the tops is valid. -/
import Derived.Test.YtahffjoehjpfkaaZa
namespace Go.Proofs.Ytahffjoehjpfkaa
open Go.RowKit
set_option linter.unusedVariables false

theorem ord_leq (n : Nat) : Ord leqI n := ⟨fun a _ => leqI_refl a, fun a b c ha hb hc => leqI_trans a b c (by omega) (by omega), fun a b ha hb => leqI_anti a b (by omega)⟩
theorem ord_geq (n : Nat) : Ord (fun a b => leqI b a) n := ⟨fun a _ => leqI_refl a, fun a b c ha hb hc h k => leqI_trans c b a (by omega) (by omega) k h, fun a b ha hb h k => leqI_anti a b (by omega) k h⟩
/-- Whether a vector lies under one of a list. -/
def Under (f : List Int → List Int → Bool) (l : List (List Int)) (v : List Int) : Prop := ∃ u ∈ l, f v u = true
theorem Tops.under {f : List Int → List Int → Bool} {n : Nat} (hf : Ord f n) {l K : List (List Int)} (hn : ∀ v ∈ l, v.length = n) (h : Tops f l K) {v : List Int} (hv : v.length = n) (hex : ∀ v ∈ l, ∃ u, Top f l u ∧ f v u = true) :
    Under f K v ↔ Under f l v := by
  constructor
  · rintro ⟨u, hu, h1⟩
    exact ⟨u, ((h.2 u).1 hu).1, h1⟩
  · rintro ⟨u, hu, h1⟩
    obtain ⟨k, hk, h2⟩ := hex u hu
    exact ⟨k, (h.2 k).2 hk, hf.trans v u k hv (hn u hu) (hn k hk.1) h1 h2⟩
theorem Under.append {f : List Int → List Int → Bool} {a b : List (List Int)} {v : List Int} : Under f (a ++ b) v ↔ Under f a v ∨ Under f b v := by
  constructor
  · rintro ⟨u, hu, h⟩
    rcases List.mem_append.1 hu with hu | hu
    · exact .inl ⟨u, hu, h⟩
    · exact .inr ⟨u, hu, h⟩
  · rintro (⟨u, hu, h⟩ | ⟨u, hu, h⟩)
    · exact ⟨u, List.mem_append_left _ hu, h⟩
    · exact ⟨u, List.mem_append_right _ hu, h⟩
def minV (a b : List Int) : List Int := List.zipWith min a b
theorem leq_minV : ∀ (v a b : List Int), v.length = a.length → a.length = b.length → leqI v (minV a b) = (leqI v a && leqI v b)
  | [], [], [], _, _ => rfl
  | x :: v, y :: a, z :: b, h1, h2 => by
    have := leq_minV v a b (by simpa using h1) (by simpa using h2)
    unfold minV at this ⊢
    simp only [List.zipWith_cons_cons, leqI]
    rw [this]
    by_cases h3 : x ≤ y
    · by_cases h4 : x ≤ z
      · have : x ≤ min y z := by omega
        simp [h3, h4, this]
      · have : ¬ x ≤ min y z := by omega
        simp [h4, this]
    · have : ¬ x ≤ min y z := by omega
      simp [h3, this]
theorem minV_len {a b : List Int} {n : Nat} (ha : a.length = n) (hb : b.length = n) : (minV a b).length = n := by simp [minV, ha, hb]
def meetsL (g : List Int → List Int → List Int) (a b : List (List Int)) : List (List Int) := a.flatMap (fun v => b.map (fun u => g v u))
theorem Under.meet {n : Nat} {a b : List (List Int)} (ha : ∀ v ∈ a, v.length = n) (hb : ∀ v ∈ b, v.length = n) {v : List Int} (hv : v.length = n) :
    Under leqI (meetsL minV a b) v ↔ Under leqI a v ∧ Under leqI b v := by
  constructor
  · rintro ⟨u, hu, h⟩
    obtain ⟨x, hx, hu⟩ := List.mem_flatMap.1 hu
    obtain ⟨y, hy, rfl⟩ := List.mem_map.1 hu
    rw [leq_minV v x y (by rw [hv, ha x hx]) (by rw [ha x hx, hb y hy]), Bool.and_eq_true] at h
    exact ⟨⟨x, hx, h.1⟩, ⟨y, hy, h.2⟩⟩
  · rintro ⟨⟨x, hx, h1⟩, ⟨y, hy, h2⟩⟩
    refine ⟨minV x y, List.mem_flatMap.2 ⟨x, hx, List.mem_map.2 ⟨y, hy, rfl⟩⟩, ?_⟩
    rw [leq_minV v x y (by rw [hv, ha x hx]) (by rw [ha x hx, hb y hy]), h1, h2]
    rfl
/-- The ascending list of the tops has no vector under another one. -/
theorem Tops.apart {f : List Int → List Int → Bool} {l K : List (List Int)} (h : Tops f l K) : K.Pairwise (fun a b => f a b = false ∧ f b a = false) := by
  refine List.Pairwise.imp_of_mem ?_ h.1
  intro a b ha hb hab
  have hne : a ≠ b := fun e => by subst e; rw [lexI_self] at hab; revert hab; decide
  have h1 := (h.2 a).1 ha
  have h2 := (h.2 b).1 hb
  constructor
  · cases h3 : f a b with
    | false => rfl
    | true => exact absurd (h1.2 b h2.1 h3).symm hne
  · cases h3 : f b a with
    | false => rfl
    | true => exact absurd (h2.2 a h1.1 h3) hne
/-- The list of the tops, out of what reduce does: sorted so that nothing that contains a vector comes behind it, kept, sorted anew. -/
theorem tops_of {f : List Int → List Int → Bool} {n : Nat} (hf : Ord f n) {l s K : List (List Int)} (hn : ∀ v ∈ l, v.length = n) (hp : ∀ v, v ∈ s ↔ v ∈ l) (hd : s.Pairwise (fun a b => f a b = true → a = b))
    (hk : ∀ v, v ∈ K ↔ v ∈ keepL f s) (hnd : K.Nodup) (hs : K.Pairwise (fun a b => lexI b a ≠ -1)) : Tops f l K ∧ ∀ v ∈ l, ∃ u, Top f l u ∧ f v u = true := by
  have hns : ∀ v ∈ s, v.length = n := fun v hv => hn v ((hp v).1 hv)
  obtain ⟨h1, h2⟩ := keepL_top hf s hns hd
  have htop : ∀ v, Top f s v ↔ Top f l v := fun v => ⟨fun h => ⟨(hp v).1 h.1, fun u hu => h.2 u ((hp u).2 hu)⟩, fun h => ⟨(hp v).2 h.1, fun u hu => h.2 u ((hp u).1 hu)⟩⟩
  refine ⟨⟨asc_of (n := n) (fun v hv => hns v (keepL_sub f s v ((hk v).1 hv))) hs hnd, fun v => ((hk v).trans (h1 v)).trans (htop v)⟩, fun v hv => ?_⟩
  obtain ⟨u, hu, h⟩ := keepL_all hf s hns v ((hp v).2 hv)
  exact ⟨u, (htop u).1 ((h1 u).1 hu), h⟩
end Go.Proofs.Ytahffjoehjpfkaa
