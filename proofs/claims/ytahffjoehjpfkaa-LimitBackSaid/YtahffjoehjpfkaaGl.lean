/- Plain lemmas: comparing lists of integers. -/
import Derived.Test.YtahffjoehjpfkaaGp
namespace Go.Proofs.Ytahffjoehjpfkaa
open Go.RowKit
set_option linter.unusedVariables false

def orderI (a b : Int) : Int := if a < b then -1 else if b < a then 1 else 0
def lexI : List Int → List Int → Int
  | [], [] => 0
  | [], _ :: _ => -1
  | _ :: _, [] => 1
  | x :: xs, y :: ys => if x < y then -1 else if y < x then 1 else lexI xs ys
def compareI (a b : List Int) : Int := if a.length < b.length then -1 else if b.length < a.length then 1 else lexI a b

theorem lexI_take : ∀ (a b : List Int) (k : Nat), k ≤ a.length → k ≤ b.length → lexI (a.take k) (b.take k) = 0 → lexI a b = lexI (a.drop k) (b.drop k)
  | _, _, 0, _, _, _ => by simp
  | [], _, k + 1, h, _, _ => by simp at h
  | _ :: _, [], k + 1, _, h, _ => by simp at h
  | x :: xs, y :: ys, k + 1, h, h', e => by
    simp only [List.take_succ_cons, lexI, List.drop_succ_cons] at e ⊢
    split at e
    · simp at e
    · rename_i h1
      split at e
      · simp at e
      · rename_i h2
        rw [if_neg h1, if_neg h2]
        exact lexI_take xs ys k (by simpa using h) (by simpa using h') e

theorem lexI_snoc : ∀ (a b : List Int) (k : Nat), k < a.length → k < b.length → lexI (a.take k) (b.take k) = 0 → lexI (a.take (k + 1)) (b.take (k + 1)) = orderI (a[k]?.getD 0) (b[k]?.getD 0)
  | [], _, k, h, _, _ => by simp at h
  | _ :: _, [], k, _, h, _ => by simp at h
  | x :: xs, y :: ys, 0, _, _, _ => by simp [lexI, orderI]
  | x :: xs, y :: ys, k + 1, h, h', e => by
    simp only [List.take_succ_cons, lexI] at e ⊢
    split at e
    · simp at e
    · rename_i h1
      split at e
      · simp at e
      · rename_i h2
        rw [if_neg h1, if_neg h2]
        simpa using lexI_snoc xs ys k (by simpa using h) (by simpa using h') e

theorem lexI_at (a b : List Int) (k : Nat) (ha : k < a.length) (hb : k < b.length) (h : lexI (a.take k) (b.take k) = 0) (hne : orderI (a[k]?.getD 0) (b[k]?.getD 0) ≠ 0) :
    lexI a b = orderI (a[k]?.getD 0) (b[k]?.getD 0) := by
  rw [lexI_take a b k (by omega) (by omega) h]
  rw [List.drop_eq_getElem_cons ha, List.drop_eq_getElem_cons hb]
  simp only [List.getElem?_eq_getElem ha, List.getElem?_eq_getElem hb, Option.getD_some] at hne ⊢
  unfold lexI
  unfold orderI at hne ⊢
  split
  · rfl
  · split
    · rfl
    · simp_all

theorem orderI_zero {x y : Int} : orderI x y = 0 ↔ x = y := by
  unfold orderI; split
  · omega
  · split <;> omega

theorem lexI_zero : ∀ a b : List Int, lexI a b = 0 ↔ a = b
  | [], [] => by simp [lexI]
  | [], _ :: _ => by simp [lexI]
  | _ :: _, [] => by simp [lexI]
  | x :: xs, y :: ys => by
    unfold lexI
    split
    · simp; omega
    · split
      · simp; omega
      · rw [lexI_zero xs ys]; simp; omega

theorem compareI_zero (a b : List Int) : compareI a b = 0 ↔ a = b := by
  unfold compareI
  split
  · simp; intro h; subst h; omega
  · split
    · simp; intro h; subst h; omega
    · exact lexI_zero a b

end Go.Proofs.Ytahffjoehjpfkaa
