/- Vectors of small numbers that the deck deals. -/
import Derived.Test.YthlollnpnangpaaDoorGd
import Derived.Test.YthlollnpnangpaaDoorGo
namespace Go.Proofs.YthlollnpnangpaaDoor
open Go.RowKit
set_option linter.unusedVariables false

/-- What a vector that the deck deals is: n integers with P, in memory of the call's own. -/
def Dealt (P : Int → Prop) (p : Value) (d n : Nat) (w : World) (e : Ending) (w' : World) : Prop :=
  ∃ v xs, e = .returned v ∧ xs.length = n ∧ (∀ x ∈ xs, P x) ∧ OwnI w' w.heap.size v xs ∧ Deck w' p d ∧ w.grownBy w' (some d)

end Go.Proofs.YthlollnpnangpaaDoor
