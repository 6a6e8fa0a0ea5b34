/- Contracts of the reference of words: Valid, Places, Proves. -/
import Derived.Test.YtgdnlibklopdiaaWk
namespace Go.Proofs.Ytgdnlibklopdiaa
open Go.RowKit
set_option linter.unusedVariables false

theorem okP_neg {ys : List Int} {x p before : Int} (h : p < 0) (hb : -1 ≤ before) : okP ys x p before = false := by
  unfold okP
  have : decide (before < p) = false := by simp; omega
  rw [this]; rfl
theorem okP_far {ys : List Int} {x p before : Int} (h : (ys.length : Int) ≤ p) : okP ys x p before = false := by
  unfold okP
  have : decide (p < (ys.length : Int)) = false := by simp; omega
  rw [this]; simp
theorem okP_low {ys : List Int} {x p before : Int} (h : p ≤ before) : okP ys x p before = false := by
  unfold okP
  have : decide (before < p) = false := by simp; omega
  rw [this]; rfl
theorem okP_in {ys : List Int} {x before : Int} {q : Nat} (h : before < q) (hq : q < ys.length) : okP ys x q before = (ys[q]?.getD 0 == x) := by
  unfold okP
  have h1 : decide (before < (q : Int)) = true := by simpa using h
  have h2 : decide ((q : Int) < (ys.length : Int)) = true := by simpa using hq
  rw [h1, h2]; simp
theorem lastP_take {ps : List Int} {k : Nat} (h : k < ps.length) : lastP (ps.take (k + 1)) (-1) = ps[k]?.getD 0 := by rw [take_snoc' ps k h, lastP_snoc]

end Go.Proofs.Ytgdnlibklopdiaa
