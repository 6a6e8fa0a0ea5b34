/- Where an embedding puts the nodes. -/
import Derived.Test.YtnppmemcdcgjhaaKg
namespace Go.Proofs.Ytnppmemcdcgjhaa
open Go.RowKit Tr
set_option linter.unusedVariables false

mutual
/-- The subtree s, from number i on, is put into the nodes T, its root to number n. -/
inductive Pl (T : List Tr) (m : List Int) : Nat → Tr → Nat → Prop
  | mk {i n : Nat} {s u : Tr} : m[i]? = some (n : Int) → T[n]? = some u → s.label = u.label → PlL T m (i + 1) s.kids (n + 1) u.kids → Pl T m i s n
inductive PlL (T : List Tr) (m : List Int) : Nat → List Tr → Nat → List Tr → Prop
  | nil {i n : Nat} {ts : List Tr} : PlL T m i [] n ts
  | take {i n k : Nat} {s t : Tr} {ss ts : List Tr} : n ≤ k → k < n + size t → Pl T m i s k → PlL T m (i + size s) ss (n + size t) ts → PlL T m i (s :: ss) n (t :: ts)
  | skip {i n : Nat} {t : Tr} {ss ts : List Tr} : PlL T m i ss (n + size t) ts → PlL T m i ss n (t :: ts)
end
theorem plL_congr {T : List Tr} {m m' : List Int} (hp : ∀ s : Tr, ∀ i n, Pl T m i s n → (∀ p, i ≤ p → p < i + size s → m'[p]? = m[p]?) → Pl T m' i s n) :
    ∀ (ts ss : List Tr) (i n : Nat), PlL T m i ss n ts → (∀ p, i ≤ p → p < i + sizeL ss → m'[p]? = m[p]?) → PlL T m' i ss n ts := by
  intro ts
  induction ts with
  | nil =>
    intro ss i n h hm
    cases h with
    | nil => exact .nil
  | cons t ts ih =>
    intro ss i n h hm
    cases h with
    | nil => exact .nil
    | take h1 h2 h3 h4 =>
      rw [sizeL] at hm
      exact .take h1 h2 (hp _ _ _ h3 (fun p p1 p2 => hm p p1 (by omega))) (ih _ _ _ h4 (fun p p1 p2 => hm p (by omega) (by omega)))
    | skip h4 => exact .skip (ih _ _ _ h4 hm)
theorem plL_congr2 {T : List Tr} {m m' : List Int} : ∀ (N : Nat) (ss : List Tr), sizeL ss ≤ N → (∀ s : Tr, size s ≤ N → ∀ i n, Pl T m i s n → (∀ p, i ≤ p → p < i + size s → m'[p]? = m[p]?) → Pl T m' i s n) →
    ∀ (ts : List Tr) (i n : Nat), PlL T m i ss n ts → (∀ p, i ≤ p → p < i + sizeL ss → m'[p]? = m[p]?) → PlL T m' i ss n ts := by
  intro N ss hN hp ts
  induction ts generalizing ss with
  | nil =>
    intro i n h hm
    cases h with
    | nil => exact .nil
  | cons t ts ih =>
    intro i n h hm
    cases h with
    | nil => exact .nil
    | take h1 h2 h3 h4 =>
      rw [sizeL] at hm hN
      exact .take h1 h2 (hp _ (by omega) _ _ h3 (fun p p1 p2 => hm p p1 (by omega))) (ih _ (by omega) _ _ h4 (fun p p1 p2 => hm p (by omega) (by omega)))
    | skip h4 => exact .skip (ih _ hN _ _ h4 hm)
theorem pl_congr {T : List Tr} {m m' : List Int} (s : Tr) : ∀ (i n : Nat), Pl T m i s n → (∀ p, i ≤ p → p < i + size s → m'[p]? = m[p]?) → Pl T m' i s n := by
  have key : ∀ N, ∀ s : Tr, size s ≤ N → ∀ i n, Pl T m i s n → (∀ p, i ≤ p → p < i + size s → m'[p]? = m[p]?) → Pl T m' i s n := by
    intro N
    induction N with
    | zero => intro s hs; have := size_pos s; omega
    | succ N ih =>
      intro s hs i n h hm
      cases h with
      | mk h1 h2 h3 h4 =>
        rw [size_eq] at hs hm
        exact .mk (by rw [hm i (Nat.le_refl _) (by omega)]; exact h1) h2 h3 (plL_congr2 N _ (by omega) ih _ _ _ h4 (fun p p1 p2 => hm p (by omega) (by omega)))
  exact key _ s (Nat.le_refl _)
theorem plL_agree {T : List Tr} {m m' : List Int} {ss ts : List Tr} {i n : Nat} (h : PlL T m i ss n ts) (hm : ∀ p, i ≤ p → p < i + sizeL ss → m'[p]? = m[p]?) : PlL T m' i ss n ts :=
  plL_congr2 _ ss (Nat.le_refl _) (fun s _ => pl_congr s) ts i n h hm

/-- What has been found when the first κ of the kids ss have been put into the first ν of the kids ts. -/
structure Step (T : List Tr) (m : List Int) (i n : Nat) (ss ts : List Tr) (κ ν : Nat) : Prop where
  iff : EmbL ss ts ↔ EmbL (ss.drop κ) (ts.drop ν)
  go : ∀ m' : List Int, (∀ p, i ≤ p → p < i + sizeL (ss.take κ) → m'[p]? = m[p]?) → PlL T m' (i + sizeL (ss.take κ)) (ss.drop κ) (n + sizeL (ts.take ν)) (ts.drop ν) → PlL T m' i ss n ts
theorem Step.start (T : List Tr) (m : List Int) (i n : Nat) (ss ts : List Tr) : Step T m i n ss ts 0 0 := ⟨by simp, fun m' _ h => by simpa [sizeL] using h⟩
theorem Step.agree {T : List Tr} {m m' : List Int} {i n : Nat} {ss ts : List Tr} {κ ν : Nat} (h : Step T m i n ss ts κ ν) (hm : ∀ p, i ≤ p → p < i + sizeL (ss.take κ) → m'[p]? = m[p]?) : Step T m' i n ss ts κ ν :=
  ⟨h.iff, fun m'' h1 h2 => h.go m'' (fun p p1 p2 => (h1 p p1 p2).trans (hm p p1 p2)) h2⟩
theorem Step.skip {T : List Tr} {m : List Int} {i n : Nat} {ss ts : List Tr} {κ ν : Nat} (h : Step T m i n ss ts κ ν) (hκ : κ < ss.length) (hν : ν < ts.length) (hn : ¬ Emb ss[κ] ts[ν]) : Step T m i n ss ts κ (ν + 1) := by
  have e1 := List.drop_eq_getElem_cons hκ
  have e2 := List.drop_eq_getElem_cons hν
  refine ⟨h.iff.trans ?_, fun m' h1 h2 => h.go m' h1 ?_⟩
  · rw [e1, e2]
    exact ⟨fun h => embL_skip h hn, fun h => .skip h⟩
  · rw [e2]
    rw [take_sz hν, ← Nat.add_assoc] at h2
    exact .skip h2
theorem Step.next {T : List Tr} {m m' : List Int} {i n k : Nat} {ss ts : List Tr} {κ ν : Nat} (h : Step T m i n ss ts κ ν) (hκ : κ < ss.length) (hν : ν < ts.length) (hy : Emb ss[κ] ts[ν]) (hm : ∀ p, i ≤ p → p < i + sizeL (ss.take κ) → m'[p]? = m[p]?)
    (hk1 : n + sizeL (ts.take ν) ≤ k) (hk2 : k < n + sizeL (ts.take ν) + size ts[ν]) (hp : Pl T m' (i + sizeL (ss.take κ)) ss[κ] k) : Step T m' i n ss ts (κ + 1) (ν + 1) := by
  have e1 := List.drop_eq_getElem_cons hκ
  have e2 := List.drop_eq_getElem_cons hν
  refine ⟨h.iff.trans ?_, fun m'' h1 h2 => ?_⟩
  · rw [e1, e2]
    exact ⟨embL_take, fun h => .take hy h⟩
  · rw [take_sz hκ] at h1 h2
    rw [take_sz hν] at h2
    refine h.go m'' (fun p p1 p2 => (h1 p p1 (by omega)).trans (hm p p1 p2)) ?_
    rw [e1, e2]
    refine .take hk1 hk2 (pl_congr _ _ _ hp (fun p p1 p2 => h1 p (by omega) (by omega))) ?_
    rw [Nat.add_assoc, Nat.add_assoc]
    exact h2
theorem Step.done {T : List Tr} {m : List Int} {i n : Nat} {ss ts : List Tr} {ν : Nat} (h : Step T m i n ss ts ss.length ν) : EmbL ss ts ∧ PlL T m i ss n ts := by
  have e : ss.drop ss.length = [] := List.drop_length
  exact ⟨h.iff.2 (by rw [e]; exact .nil), h.go m (fun _ _ _ => rfl) (by rw [e]; exact .nil)⟩
theorem Step.fail {T : List Tr} {m : List Int} {i n : Nat} {ss ts : List Tr} {κ : Nat} (h : Step T m i n ss ts κ ts.length) (hκ : κ < ss.length) : ¬ EmbL ss ts := fun he => by
  have := h.iff.1 he
  rw [List.drop_length, List.drop_eq_getElem_cons hκ] at this
  exact embL_nil this

end Go.Proofs.Ytnppmemcdcgjhaa
