/- The deck deals vectors. -/
import Derived.Test.YtahffjoehjpfkaaGt
import Derived.Test.YtahffjoehjpfkaaGv
namespace Go.Proofs.Ytahffjoehjpfkaa
open Go.RowKit
set_option linter.unusedVariables false

theorem elem_bd {xs : List Int} (h : ∀ x ∈ xs, Elem x) : ∀ x ∈ xs, -9223372036854775808 ≤ x ∧ x ≤ 9223372036854775807 := by
  intro x hx
  have := h x hx
  unfold Elem at this
  omega

theorem vector_st {w0 w : World} {p : Value} {d : Nat} (h : St w0 w p d) (n : Int) (h1 : n ≤ 1000) :
    Calls Try.prog 38 #[p, .int .i64 n, .bool true] w (Deals Elem n.toNat w0 w p d) :=
  (vector_true p d n w h.1 h1).mono fun e w' ⟨v, xs, he, hl, hp, ho, hd, hg⟩ => ⟨v, xs, he, hl, hp, ho.vec (elem_bd hp) h.lt, h.deal hd hg, hg⟩
theorem vectorF_st {w0 w : World} {p : Value} {d : Nat} (h : St w0 w p d) (n : Int) (h1 : n ≤ 1000) :
    Calls Try.prog 38 #[p, .int .i64 n, .bool false] w (Deals ElemF n.toNat w0 w p d) :=
  (vector_false p d n w h.1 h1).mono fun e w' ⟨v, xs, he, hl, hp, ho, hd, hg⟩ => ⟨v, xs, he, hl, hp, ho.vec (by intro x hx; have := hp x hx; unfold ElemF at this; omega) h.lt, h.deal hd hg, hg⟩
end Go.Proofs.Ytahffjoehjpfkaa
