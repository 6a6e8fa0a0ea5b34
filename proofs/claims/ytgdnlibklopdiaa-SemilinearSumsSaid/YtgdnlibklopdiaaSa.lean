/- Multiples of periods: solutions, and the least of them. -/
import Derived.Test.YtgdnlibklopdiaaXe
namespace Go.Proofs.Ytgdnlibklopdiaa
open Go.RowKit
set_option linter.unusedVariables false

/-- v less k times p. -/
def subk (k : Int) (p v : List Int) : List Int := List.zipWith (fun a x => a - k * x) v p
/-- v and k times p. -/
def addk (k : Int) (p v : List Int) : List Int := List.zipWith (fun a x => a + k * x) v p
/-- v less b. -/
def lessL (v b : List Int) : List Int := List.zipWith (fun a x => a - x) v b
def Sol : List (List Int) → List Int → List Int → Prop
  | [], [], v => ∀ x ∈ v, x = 0
  | p :: ps, k :: ks, v => 0 ≤ k ∧ Sol ps ks (subk k p v)
  | _, _, _ => False
def Least (ps : List (List Int)) (v : List Int) : Option (List Int) → Prop
  | some ks => Sol ps ks v ∧ ∀ ks', Sol ps ks' v → lexI ks ks' ≤ 0
  | none => ∀ ks, ¬ Sol ps ks v
/-- Numbers from 0, of one length. -/
def Nat0 (n : Nat) (p : List Int) : Prop := p.length = n ∧ ∀ x ∈ p, 0 ≤ x
def Some1 (p : List Int) : Prop := ∃ x ∈ p, 1 ≤ x

theorem subk_len {n : Nat} {k : Int} {p v : List Int} (hp : p.length = n) (hv : v.length = n) : (subk k p v).length = n := by simp [subk, hp, hv]
theorem addk_len {n : Nat} {k : Int} {p v : List Int} (hp : p.length = n) (hv : v.length = n) : (addk k p v).length = n := by simp [addk, hp, hv]
theorem lessL_len {n : Nat} {p v : List Int} (hp : p.length = n) (hv : v.length = n) : (lessL v p).length = n := by simp [lessL, hp, hv]
theorem subk_at (k : Int) (p v : List Int) (i : Nat) (hp : i < p.length) (hv : i < v.length) : (subk k p v)[i]?.getD 0 = v[i]?.getD 0 - k * p[i]?.getD 0 := zip_at _ v p i hv hp
theorem subk_zero : ∀ (p v : List Int), p.length = v.length → subk 0 p v = v
  | [], [], _ => rfl
  | x :: p, y :: v, h => by
    have := subk_zero p v (by simpa using h)
    simp only [subk, List.zipWith_cons_cons, Int.zero_mul, Int.sub_zero] at this ⊢
    rw [this]
  | [], _ :: _, h => by simp at h
  | _ :: _, [], h => by simp at h
theorem subk_sub (k j : Int) : ∀ (p v : List Int), subk j p (subk k p v) = subk (k + j) p v
  | [], v => by cases v <;> simp [subk]
  | x :: p, [] => by simp [subk]
  | x :: p, y :: v => by
    have := subk_sub k j p v
    simp only [subk, List.zipWith_cons_cons] at this ⊢
    rw [this, Int.add_mul]
    congr 1
    omega
theorem subk_less : ∀ (k : Int) (p v b : List Int), subk k p (lessL v b) = lessL v (addk k p b)
  | k, [], v, b => by cases v <;> cases b <;> simp [subk, lessL, addk]
  | k, x :: p, [], b => by cases b <;> simp [subk, lessL, addk]
  | k, x :: p, y :: v, [] => by simp [subk, lessL, addk]
  | k, x :: p, y :: v, z :: b => by
    have := subk_less k p v b
    simp only [subk, lessL, addk, List.zipWith_cons_cons] at this ⊢
    rw [this]
    congr 1
    omega
theorem subk_comm : ∀ (k j : Int) (p q v : List Int), subk k p (subk j q v) = subk j q (subk k p v)
  | k, j, p, q, [] => by cases p <;> cases q <;> simp [subk]
  | k, j, [], q, x :: v => by cases q <;> simp [subk]
  | k, j, p, [], x :: v => by cases p <;> simp [subk]
  | k, j, y :: p, z :: q, x :: v => by
    have := subk_comm k j p q v
    simp only [subk, List.zipWith_cons_cons] at this ⊢
    rw [this]
    congr 1
    omega

theorem Sol.len : ∀ {ps : List (List Int)} {ks v : List Int}, Sol ps ks v → ks.length = ps.length
  | [], [], _, _ => rfl
  | p :: ps, k :: ks, v, h => by
    have := Sol.len h.2
    simp [this]
  | [], _ :: _, _, h => h.elim
  | _ :: _, [], _, h => h.elim
theorem mem_zipWith_at (f : Int → Int → Int) : ∀ (v p : List Int), v.length = p.length → ∀ x ∈ v, ∃ y ∈ p, f x y ∈ List.zipWith f v p
  | [], _, _, x, h => by simp at h
  | a :: v, [], hl, _, _ => by simp at hl
  | a :: v, b :: p, hl, x, h => by
    rcases List.mem_cons.1 h with rfl | h
    · exact ⟨b, by simp, by simp⟩
    · obtain ⟨y, hy, hm⟩ := mem_zipWith_at f v p (by simpa using hl) x h
      exact ⟨y, by simp [hy], by simp [hm]⟩
theorem mem_zipWith_at' (f : Int → Int → Int) : ∀ (v p : List Int), v.length = p.length → ∀ y ∈ p, ∃ x ∈ v, f x y ∈ List.zipWith f v p
  | [], [], _, y, h => by simp at h
  | [], _ :: _, hl, _, _ => by simp at hl
  | a :: v, [], hl, _, _ => by simp at hl
  | a :: v, b :: p, hl, y, h => by
    rcases List.mem_cons.1 h with rfl | h
    · exact ⟨a, by simp, by simp⟩
    · obtain ⟨x, hx, hm⟩ := mem_zipWith_at' f v p (by simpa using hl) y h
      exact ⟨x, by simp [hx], by simp [hm]⟩
theorem mem_zipWith (f : Int → Int → Int) : ∀ (v p : List Int), ∀ z ∈ List.zipWith f v p, ∃ x ∈ v, ∃ y ∈ p, z = f x y
  | [], _, z, h => by simp at h
  | a :: v, [], z, h => by simp at h
  | a :: v, b :: p, z, h => by
    rcases List.mem_cons.1 (by simpa using h : z ∈ f a b :: List.zipWith f v p) with rfl | h
    · exact ⟨a, by simp, b, by simp, rfl⟩
    · obtain ⟨x, hx, y, hy, e⟩ := mem_zipWith f v p z h
      exact ⟨x, by simp [hx], y, by simp [hy], e⟩
theorem Sol.nonneg : ∀ {ps : List (List Int)} {ks v : List Int} {n : Nat}, (∀ p ∈ ps, Nat0 n p) → v.length = n → Sol ps ks v → ∀ x ∈ v, 0 ≤ x
  | [], [], v, n, _, _, h, x, hx => by have := h x hx; omega
  | p :: ps, k :: ks, v, n, hp, hv, h, x, hx => by
    have hp1 := hp p (by simp)
    have ih := Sol.nonneg (fun q hq => hp q (by simp [hq])) (subk_len hp1.1 hv) h.2
    obtain ⟨y, hy, hm⟩ := mem_zipWith_at (fun a x => a - k * x) v p (by rw [hv, hp1.1]) x hx
    have h1 := ih _ hm
    have h2 := Int.mul_nonneg h.1 (hp1.2 y hy)
    omega
  | [], _ :: _, _, _, _, _, h, _, _ => h.elim
  | _ :: _, [], _, _, _, _, h, _, _ => h.elim
theorem Sol.le : ∀ {ps : List (List Int)} {ks v : List Int} {n : Nat} {M : Int}, (∀ p ∈ ps, Nat0 n p ∧ Some1 p) → v.length = n → (∀ x ∈ v, x ≤ M) → Sol ps ks v → ∀ k ∈ ks, 0 ≤ k ∧ k ≤ M
  | [], [], v, n, M, _, _, _, h, k, hk => by simp at hk
  | p :: ps, k :: ks, v, n, M, hp, hv, hM, h, j, hj => by
    have hp1 := hp p (by simp)
    rcases List.mem_cons.1 hj with rfl | hj
    · obtain ⟨y, hy, h1⟩ := hp1.2
      obtain ⟨x, hx, hm⟩ := mem_zipWith_at' (fun a x => a - j * x) v p (by rw [hv, hp1.1.1]) y hy
      have h2 := Sol.nonneg (fun q hq => (hp q (by simp [hq])).1) (subk_len hp1.1.1 hv) h.2 _ hm
      have h3 := hM x hx
      have h4 := Int.mul_le_mul_of_nonneg_left h1 h.1
      have := h.1
      omega
    · refine Sol.le (fun q hq => hp q (by simp [hq])) (subk_len hp1.1.1 hv) (M := M) ?_ h.2 j hj
      intro z hz
      obtain ⟨x, hx, y, hy, rfl⟩ := mem_zipWith _ v p z hz
      have h3 := hM x hx
      have h4 := Int.mul_nonneg h.1 (hp1.1.2 y hy)
      omega
  | [], _ :: _, _, _, _, _, _, _, h, _, _ => h.elim
  | _ :: _, [], _, _, _, _, _, _, h, _, _ => h.elim

/-- The loop of times: nothing with fewer of the first period. -/
def Fewer (ps : List (List Int)) (p v : List Int) (k : Int) : Prop := ∀ ks j, 0 ≤ j → j < k → ¬ Sol ps ks (subk j p v)
theorem Fewer.zero (ps : List (List Int)) (p v : List Int) : Fewer ps p v 0 := fun _ _ h0 h1 => absurd h0 (by omega)
theorem Fewer.next {ps : List (List Int)} {p v : List Int} {k : Int} (h : Fewer ps p v k) (hn : Least ps (subk k p v) none) : Fewer ps p v (k + 1) := by
  intro ks j h0 h1 hs
  by_cases hj : j = k
  · subst hj; exact hn ks hs
  · exact h ks j h0 (by omega) hs
theorem Fewer.found {ps : List (List Int)} {p v ks : List Int} {k : Int} (h : Fewer ps p v k) (h0 : 0 ≤ k) (hl : Least ps (subk k p v) (some ks)) : Least (p :: ps) v (some (k :: ks)) := by
  refine ⟨⟨h0, hl.1⟩, ?_⟩
  intro ks' hs
  match ks', hs with
  | j :: js, hs =>
    have hj : k ≤ j := Int.not_lt.1 fun hlt => h js j hs.1 hlt hs.2
    unfold lexI
    by_cases he : k < j
    · simp [he]
    · obtain rfl : k = j := by omega
      simpa using hl.2 js hs.2
theorem Fewer.none {ps : List (List Int)} {p v : List Int} {k : Int} {n : Nat} (h : Fewer ps p v k) (hp : Nat0 n p) (hps : ∀ q ∈ ps, Nat0 n q) (hv : v.length = n) (hneg : ∃ x ∈ subk k p v, x < 0) (h0 : 0 ≤ k) : Least (p :: ps) v none := by
  intro ks hs
  match ks, hs with
  | j :: js, hs =>
    have hj : k ≤ j := Int.not_lt.1 fun hlt => h js j hs.1 hlt hs.2
    have hnn := Sol.nonneg hps (subk_len hp.1 hv) hs.2
    obtain ⟨x, hx, hx0⟩ := hneg
    obtain ⟨i, hi, rfl⟩ := List.getElem_of_mem hx
    have hi' : i < n := by rw [subk_len hp.1 hv] at hi; exact hi
    have e1 := subk_at k p v i (by rw [hp.1]; exact hi') (by rw [hv]; exact hi')
    have e2 := subk_at j p v i (by rw [hp.1]; exact hi') (by rw [hv]; exact hi')
    have hi2 : i < (subk j p v).length := by rw [subk_len hp.1 hv]; exact hi'
    rw [List.getElem?_eq_getElem hi] at e1
    rw [List.getElem?_eq_getElem hi2] at e2
    have h3 := hnn _ (List.getElem_mem hi2)
    have hpi : 0 ≤ p[i]?.getD 0 := by
      have hip : i < p.length := by rw [hp.1]; exact hi'
      rw [List.getElem?_eq_getElem hip]
      exact hp.2 _ (List.getElem_mem hip)
    simp only [Option.getD_some] at e1 e2
    have h4 := Int.mul_le_mul_of_nonneg_right hj hpi
    omega

end Go.Proofs.Ytgdnlibklopdiaa
