/- Contract of slices.Concat. -/
import Derived.Test.YtahffjoehjpfkaaRw
namespace Go.Proofs.Ytahffjoehjpfkaa
open Go.RowKit
set_option linter.unusedVariables false

/-- slices.Concat. -/
theorem flat_take (ps : List Row) (k : Nat) (h : k < ps.length) : (ps.take (k + 1)).flatMap Prod.snd = (ps.take k).flatMap Prod.snd ++ (ps[k]).2 := by
  rw [List.take_succ_eq_append_getElem h, List.flatMap_append]
  simp
theorem flat_le (ps : List Row) (k : Nat) : ((ps.take k).flatMap Prod.snd).length ≤ (ps.flatMap Prod.snd).length := by
  have h : ps.flatMap Prod.snd = (ps.take k).flatMap Prod.snd ++ (ps.drop k).flatMap Prod.snd := by
    rw [← List.flatMap_append, List.take_append_drop]
  rw [h, List.length_append]
  omega
end Go.Proofs.Ytahffjoehjpfkaa
