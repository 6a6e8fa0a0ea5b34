/-
  NARROWER THAN 'FOR EVERY INPUT', by the rows' own cells (each row's printed sentence says how): TreeExact: loops.
  DERIVED. THE GIVEN ROWS OF THIS SEAT. 10 by the template 'for every input the law returns true; each argument reads behind the call as it read before'; 0 by the template 'total and deterministic' (their statements: YtnppmemcdcgjhaaTotals.lean).
  GIVEN WITH THE SEED: the statements are not yours to turn. If you find one false, say at which input.
  Laid BY PROGRAM, IN A SANDBOX (cutbox-rows.mjs): the forced cells as the released guide's own fill.sh prints them over the translation c18f74ed5b43a59a… (all of the seat's roots in one cut). By AI agents, Wed Nov 11 2026. No macro, syntax, notation, axiom, sorry.
-/
import Derived.Test.YtnppmemcdcgjhaaChecked
import GoSem.Claim
import GoSem.ClaimJoined
import GoSem.ClaimMapViews
import Derived.JoinedTies
import Derived.KernelRfl
namespace Go.Proofs.Ytnppmemcdcgjhaa
/- THE CELL 'sum', in the pinned program and in every row, IS THE sha256 OF THE DUMP (.gsa) THAT YtnppmemcdcgjhaaProg.lean LOADS. Nothing in Lean hashes anything: it is a label: what it is worth is what the hold of that sum in a sandbox is worth. -/
noncomputable def Try.pinned : Pinned := { name := "ytnppmemcdcgjhaa", sum := "c18f74ed5b43a59a69ee538736c452dd7a224b674c876bc2cb847d059e5a353f", checked := Try.checked }
namespace Rows
def none {H : Type} : Left H := { results := [], args := [] }

/-- 'coverabilitylaw03.MultisetExact': WHATEVER THE INPUT: true; the input reads as it did. -/
def multisetExactSpec : ChangeSpec := { name := "multisetExact", fn := fun _ => fun
  | [d1, d2, d3] => { results := [.lit (.bool true)], args := [d1, d2, d3] }
  | _ => none }
def multisetExactRow : OpenClaim := { program := "ytnppmemcdcgjhaa", sum := "c18f74ed5b43a59a69ee538736c452dd7a224b674c876bc2cb847d059e5a353f", func := "coverability/coverabilitylaw03.MultisetExact", spec := "multisetExact", recurses := true, apart := false }
def MultisetExactSaid : Prop := multisetExactRow.holds Try.pinned (OpenSpec.ofChange multisetExactSpec)

/-- ITS FALSE NEIGHBOUR: 'it returns false'. Refute it at one input. -/
def multisetExactWrong : ChangeSpec := { name := "multisetExact", fn := fun _ => fun
  | [d1, d2, d3] => { results := [.lit (.bool false)], args := [d1, d2, d3] }
  | _ => none }
def MultisetExactWrongFalsely : Prop := multisetExactRow.holds Try.pinned (OpenSpec.ofChange multisetExactWrong)

/-- 'coverabilitylaw03.MultisetMatches': WHATEVER THE INPUT: true; the input reads as it did. -/
def multisetMatchesSpec : ChangeSpec := { name := "multisetMatches", fn := fun _ => fun
  | [d] => { results := [.lit (.bool true)], args := [d] }
  | _ => none }
def multisetMatchesRow : OpenClaim := { program := "ytnppmemcdcgjhaa", sum := "c18f74ed5b43a59a69ee538736c452dd7a224b674c876bc2cb847d059e5a353f", func := "coverability/coverabilitylaw03.MultisetMatches", spec := "multisetMatches", recurses := true, apart := false }
def MultisetMatchesSaid : Prop := multisetMatchesRow.holds Try.pinned (OpenSpec.ofChange multisetMatchesSpec)

/-- ITS FALSE NEIGHBOUR: 'it returns false'. Refute it at one input. -/
def multisetMatchesWrong : ChangeSpec := { name := "multisetMatches", fn := fun _ => fun
  | [d] => { results := [.lit (.bool false)], args := [d] }
  | _ => none }
def MultisetMatchesWrongFalsely : Prop := multisetMatchesRow.holds Try.pinned (OpenSpec.ofChange multisetMatchesWrong)

/-- 'coverabilitylaw03.MultisetGrows': WHATEVER THE INPUT: true; the input reads as it did. -/
def multisetGrowsSpec : ChangeSpec := { name := "multisetGrows", fn := fun _ => fun
  | [d] => { results := [.lit (.bool true)], args := [d] }
  | _ => none }
def multisetGrowsRow : OpenClaim := { program := "ytnppmemcdcgjhaa", sum := "c18f74ed5b43a59a69ee538736c452dd7a224b674c876bc2cb847d059e5a353f", func := "coverability/coverabilitylaw03.MultisetGrows", spec := "multisetGrows", recurses := true, apart := false }
def MultisetGrowsSaid : Prop := multisetGrowsRow.holds Try.pinned (OpenSpec.ofChange multisetGrowsSpec)

/-- ITS FALSE NEIGHBOUR: 'it returns false'. Refute it at one input. -/
def multisetGrowsWrong : ChangeSpec := { name := "multisetGrows", fn := fun _ => fun
  | [d] => { results := [.lit (.bool false)], args := [d] }
  | _ => none }
def MultisetGrowsWrongFalsely : Prop := multisetGrowsRow.holds Try.pinned (OpenSpec.ofChange multisetGrowsWrong)

/-- 'coverabilitylaw03.MultisetKoenig': WHATEVER THE INPUT: true; the input reads as it did. -/
def multisetKoenigSpec : ChangeSpec := { name := "multisetKoenig", fn := fun _ => fun
  | [d] => { results := [.lit (.bool true)], args := [d] }
  | _ => none }
def multisetKoenigRow : OpenClaim := { program := "ytnppmemcdcgjhaa", sum := "c18f74ed5b43a59a69ee538736c452dd7a224b674c876bc2cb847d059e5a353f", func := "coverability/coverabilitylaw03.MultisetKoenig", spec := "multisetKoenig", recurses := true, apart := false }
def MultisetKoenigSaid : Prop := multisetKoenigRow.holds Try.pinned (OpenSpec.ofChange multisetKoenigSpec)

/-- ITS FALSE NEIGHBOUR: 'it returns false'. Refute it at one input. -/
def multisetKoenigWrong : ChangeSpec := { name := "multisetKoenig", fn := fun _ => fun
  | [d] => { results := [.lit (.bool false)], args := [d] }
  | _ => none }
def MultisetKoenigWrongFalsely : Prop := multisetKoenigRow.holds Try.pinned (OpenSpec.ofChange multisetKoenigWrong)

/-- 'coverabilitylaw03.MultisetTurns': WHATEVER THE INPUT: true; the input reads as it did. -/
def multisetTurnsSpec : ChangeSpec := { name := "multisetTurns", fn := fun _ => fun
  | [d] => { results := [.lit (.bool true)], args := [d] }
  | _ => none }
def multisetTurnsRow : OpenClaim := { program := "ytnppmemcdcgjhaa", sum := "c18f74ed5b43a59a69ee538736c452dd7a224b674c876bc2cb847d059e5a353f", func := "coverability/coverabilitylaw03.MultisetTurns", spec := "multisetTurns", recurses := true, apart := false }
def MultisetTurnsSaid : Prop := multisetTurnsRow.holds Try.pinned (OpenSpec.ofChange multisetTurnsSpec)

/-- ITS FALSE NEIGHBOUR: 'it returns false'. Refute it at one input. -/
def multisetTurnsWrong : ChangeSpec := { name := "multisetTurns", fn := fun _ => fun
  | [d] => { results := [.lit (.bool false)], args := [d] }
  | _ => none }
def MultisetTurnsWrongFalsely : Prop := multisetTurnsRow.holds Try.pinned (OpenSpec.ofChange multisetTurnsWrong)

/-- 'coverabilitylaw04.TreeExact': WHATEVER THE INPUT: true; the input reads as it did. -/
def treeExactSpec : ChangeSpec := { name := "treeExact", fn := fun _ => fun
  | [d1, d2, d3, d4] => { results := [.lit (.bool true)], args := [d1, d2, d3, d4] }
  | _ => none }
def treeExactRow : OpenClaim := { program := "ytnppmemcdcgjhaa", sum := "c18f74ed5b43a59a69ee538736c452dd7a224b674c876bc2cb847d059e5a353f", func := "coverability/coverabilitylaw04.TreeExact", spec := "treeExact", recurses := true, loops := true, apart := false }
def TreeExactSaid : Prop := treeExactRow.holds Try.pinned (OpenSpec.ofChange treeExactSpec)

/-- ITS FALSE NEIGHBOUR: 'it returns false'. Refute it at one input. -/
def treeExactWrong : ChangeSpec := { name := "treeExact", fn := fun _ => fun
  | [d1, d2, d3, d4] => { results := [.lit (.bool false)], args := [d1, d2, d3, d4] }
  | _ => none }
def TreeExactWrongFalsely : Prop := treeExactRow.holds Try.pinned (OpenSpec.ofChange treeExactWrong)

/-- 'coverabilitylaw04.TreeOrder': WHATEVER THE INPUT: true; the input reads as it did. -/
def treeOrderSpec : ChangeSpec := { name := "treeOrder", fn := fun _ => fun
  | [d] => { results := [.lit (.bool true)], args := [d] }
  | _ => none }
def treeOrderRow : OpenClaim := { program := "ytnppmemcdcgjhaa", sum := "c18f74ed5b43a59a69ee538736c452dd7a224b674c876bc2cb847d059e5a353f", func := "coverability/coverabilitylaw04.TreeOrder", spec := "treeOrder", recurses := true, apart := false }
def TreeOrderSaid : Prop := treeOrderRow.holds Try.pinned (OpenSpec.ofChange treeOrderSpec)

/-- ITS FALSE NEIGHBOUR: 'it returns false'. Refute it at one input. -/
def treeOrderWrong : ChangeSpec := { name := "treeOrder", fn := fun _ => fun
  | [d] => { results := [.lit (.bool false)], args := [d] }
  | _ => none }
def TreeOrderWrongFalsely : Prop := treeOrderRow.holds Try.pinned (OpenSpec.ofChange treeOrderWrong)

/-- 'coverabilitylaw04.TreeBelow': WHATEVER THE INPUT: true; the input reads as it did. -/
def treeBelowSpec : ChangeSpec := { name := "treeBelow", fn := fun _ => fun
  | [d] => { results := [.lit (.bool true)], args := [d] }
  | _ => none }
def treeBelowRow : OpenClaim := { program := "ytnppmemcdcgjhaa", sum := "c18f74ed5b43a59a69ee538736c452dd7a224b674c876bc2cb847d059e5a353f", func := "coverability/coverabilitylaw04.TreeBelow", spec := "treeBelow", recurses := true, apart := false }
def TreeBelowSaid : Prop := treeBelowRow.holds Try.pinned (OpenSpec.ofChange treeBelowSpec)

/-- ITS FALSE NEIGHBOUR: 'it returns false'. Refute it at one input. -/
def treeBelowWrong : ChangeSpec := { name := "treeBelow", fn := fun _ => fun
  | [d] => { results := [.lit (.bool false)], args := [d] }
  | _ => none }
def TreeBelowWrongFalsely : Prop := treeBelowRow.holds Try.pinned (OpenSpec.ofChange treeBelowWrong)

/-- 'coverabilitylaw04.TreeGrows': WHATEVER THE INPUT: true; the input reads as it did. -/
def treeGrowsSpec : ChangeSpec := { name := "treeGrows", fn := fun _ => fun
  | [d] => { results := [.lit (.bool true)], args := [d] }
  | _ => none }
def treeGrowsRow : OpenClaim := { program := "ytnppmemcdcgjhaa", sum := "c18f74ed5b43a59a69ee538736c452dd7a224b674c876bc2cb847d059e5a353f", func := "coverability/coverabilitylaw04.TreeGrows", spec := "treeGrows", recurses := true, apart := false }
def TreeGrowsSaid : Prop := treeGrowsRow.holds Try.pinned (OpenSpec.ofChange treeGrowsSpec)

/-- ITS FALSE NEIGHBOUR: 'it returns false'. Refute it at one input. -/
def treeGrowsWrong : ChangeSpec := { name := "treeGrows", fn := fun _ => fun
  | [d] => { results := [.lit (.bool false)], args := [d] }
  | _ => none }
def TreeGrowsWrongFalsely : Prop := treeGrowsRow.holds Try.pinned (OpenSpec.ofChange treeGrowsWrong)

/-- 'coverabilitylaw04.TreeCompare': WHATEVER THE INPUT: true; the input reads as it did. -/
def treeCompareSpec : ChangeSpec := { name := "treeCompare", fn := fun _ => fun
  | [d] => { results := [.lit (.bool true)], args := [d] }
  | _ => none }
def treeCompareRow : OpenClaim := { program := "ytnppmemcdcgjhaa", sum := "c18f74ed5b43a59a69ee538736c452dd7a224b674c876bc2cb847d059e5a353f", func := "coverability/coverabilitylaw04.TreeCompare", spec := "treeCompare", recurses := true, apart := false }
def TreeCompareSaid : Prop := treeCompareRow.holds Try.pinned (OpenSpec.ofChange treeCompareSpec)

/-- ITS FALSE NEIGHBOUR: 'it returns false'. Refute it at one input. -/
def treeCompareWrong : ChangeSpec := { name := "treeCompare", fn := fun _ => fun
  | [d] => { results := [.lit (.bool false)], args := [d] }
  | _ => none }
def TreeCompareWrongFalsely : Prop := treeCompareRow.holds Try.pinned (OpenSpec.ofChange treeCompareWrong)

/- THE SECOND FORM. 'bulk': how many values and letters a reading holds, each counted each time it is reached (what is shared counts as often as it is met; a slice's spare places count too). A statement '..UptoSaid' is the law's where the arguments, and the package variables that the reading takes, are together of bulk at most 1048576: NARROWER than '..Said'. Prove '..Said' where nothing that the law and all that it calls make is longer than what came in: it says more and counts as full. Else prove '..UptoSaid'. A law counts once. -/
mutual
def uptoBulk {H : Type} : DataW H → Nat
  | .lit (.string bytes) => bytes.length + 1
  | .lit _ => 1
  | .nil => 1
  | .ptr d => uptoBulk d + 1
  | .slice elems spare => uptoBulkAll elems + uptoBulkAll spare + 1
  | .agg parts => uptoBulkAll parts + 1
  | .iface _ d => uptoBulk d + 1
  | .map entries => uptoBulkEntries entries + 1
  | .held _ => 1
def uptoBulkAll {H : Type} : List (DataW H) → Nat
  | [] => 0
  | d :: r => uptoBulk d + uptoBulkAll r
def uptoBulkEntries {H : Type} : List (Lit × DataW H) → Nat
  | [] => 0
  | x :: r => uptoBulkEntry x + uptoBulkEntries r
def uptoBulkEntry {H : Type} : Lit × DataW H → Nat
  | (.string bytes, d) => bytes.length + uptoBulk d + 1
  | (_, d) => uptoBulk d + 1
 end
def uptoSmall : (H : Type) → List (DataW H) → Bool := fun _ ds => decide (uptoBulkAll ds ≤ 1048576)
def OpenSpec.upto (s : _root_.Go.ChangeSpec) : _root_.Go.OpenSpec := { _root_.Go.OpenSpec.ofChange s with cond := some uptoSmall }

/-- 'coverabilitylaw03.MultisetExact', WHERE WHAT IT READS IS OF BULK AT MOST 1048576: true; the input reads as it did. -/
def multisetExactUptoRow : OpenClaim := { program := "ytnppmemcdcgjhaa", sum := "c18f74ed5b43a59a69ee538736c452dd7a224b674c876bc2cb847d059e5a353f", func := "coverability/coverabilitylaw03.MultisetExact", spec := "multisetExact", recurses := true, apart := false, narrowed := true }
def MultisetExactUptoSaid : Prop := multisetExactUptoRow.holds Try.pinned (OpenSpec.upto multisetExactSpec)

/-- 'coverabilitylaw03.MultisetMatches', WHERE WHAT IT READS IS OF BULK AT MOST 1048576: true; the input reads as it did. -/
def multisetMatchesUptoRow : OpenClaim := { program := "ytnppmemcdcgjhaa", sum := "c18f74ed5b43a59a69ee538736c452dd7a224b674c876bc2cb847d059e5a353f", func := "coverability/coverabilitylaw03.MultisetMatches", spec := "multisetMatches", recurses := true, apart := false, narrowed := true }
def MultisetMatchesUptoSaid : Prop := multisetMatchesUptoRow.holds Try.pinned (OpenSpec.upto multisetMatchesSpec)

/-- 'coverabilitylaw03.MultisetGrows', WHERE WHAT IT READS IS OF BULK AT MOST 1048576: true; the input reads as it did. -/
def multisetGrowsUptoRow : OpenClaim := { program := "ytnppmemcdcgjhaa", sum := "c18f74ed5b43a59a69ee538736c452dd7a224b674c876bc2cb847d059e5a353f", func := "coverability/coverabilitylaw03.MultisetGrows", spec := "multisetGrows", recurses := true, apart := false, narrowed := true }
def MultisetGrowsUptoSaid : Prop := multisetGrowsUptoRow.holds Try.pinned (OpenSpec.upto multisetGrowsSpec)

/-- 'coverabilitylaw03.MultisetKoenig', WHERE WHAT IT READS IS OF BULK AT MOST 1048576: true; the input reads as it did. -/
def multisetKoenigUptoRow : OpenClaim := { program := "ytnppmemcdcgjhaa", sum := "c18f74ed5b43a59a69ee538736c452dd7a224b674c876bc2cb847d059e5a353f", func := "coverability/coverabilitylaw03.MultisetKoenig", spec := "multisetKoenig", recurses := true, apart := false, narrowed := true }
def MultisetKoenigUptoSaid : Prop := multisetKoenigUptoRow.holds Try.pinned (OpenSpec.upto multisetKoenigSpec)

/-- 'coverabilitylaw03.MultisetTurns', WHERE WHAT IT READS IS OF BULK AT MOST 1048576: true; the input reads as it did. -/
def multisetTurnsUptoRow : OpenClaim := { program := "ytnppmemcdcgjhaa", sum := "c18f74ed5b43a59a69ee538736c452dd7a224b674c876bc2cb847d059e5a353f", func := "coverability/coverabilitylaw03.MultisetTurns", spec := "multisetTurns", recurses := true, apart := false, narrowed := true }
def MultisetTurnsUptoSaid : Prop := multisetTurnsUptoRow.holds Try.pinned (OpenSpec.upto multisetTurnsSpec)

/-- 'coverabilitylaw04.TreeExact', WHERE WHAT IT READS IS OF BULK AT MOST 1048576: true; the input reads as it did. -/
def treeExactUptoRow : OpenClaim := { program := "ytnppmemcdcgjhaa", sum := "c18f74ed5b43a59a69ee538736c452dd7a224b674c876bc2cb847d059e5a353f", func := "coverability/coverabilitylaw04.TreeExact", spec := "treeExact", recurses := true, loops := true, apart := false, narrowed := true }
def TreeExactUptoSaid : Prop := treeExactUptoRow.holds Try.pinned (OpenSpec.upto treeExactSpec)

/-- 'coverabilitylaw04.TreeOrder', WHERE WHAT IT READS IS OF BULK AT MOST 1048576: true; the input reads as it did. -/
def treeOrderUptoRow : OpenClaim := { program := "ytnppmemcdcgjhaa", sum := "c18f74ed5b43a59a69ee538736c452dd7a224b674c876bc2cb847d059e5a353f", func := "coverability/coverabilitylaw04.TreeOrder", spec := "treeOrder", recurses := true, apart := false, narrowed := true }
def TreeOrderUptoSaid : Prop := treeOrderUptoRow.holds Try.pinned (OpenSpec.upto treeOrderSpec)

/-- 'coverabilitylaw04.TreeBelow', WHERE WHAT IT READS IS OF BULK AT MOST 1048576: true; the input reads as it did. -/
def treeBelowUptoRow : OpenClaim := { program := "ytnppmemcdcgjhaa", sum := "c18f74ed5b43a59a69ee538736c452dd7a224b674c876bc2cb847d059e5a353f", func := "coverability/coverabilitylaw04.TreeBelow", spec := "treeBelow", recurses := true, apart := false, narrowed := true }
def TreeBelowUptoSaid : Prop := treeBelowUptoRow.holds Try.pinned (OpenSpec.upto treeBelowSpec)

/-- 'coverabilitylaw04.TreeGrows', WHERE WHAT IT READS IS OF BULK AT MOST 1048576: true; the input reads as it did. -/
def treeGrowsUptoRow : OpenClaim := { program := "ytnppmemcdcgjhaa", sum := "c18f74ed5b43a59a69ee538736c452dd7a224b674c876bc2cb847d059e5a353f", func := "coverability/coverabilitylaw04.TreeGrows", spec := "treeGrows", recurses := true, apart := false, narrowed := true }
def TreeGrowsUptoSaid : Prop := treeGrowsUptoRow.holds Try.pinned (OpenSpec.upto treeGrowsSpec)

/-- 'coverabilitylaw04.TreeCompare', WHERE WHAT IT READS IS OF BULK AT MOST 1048576: true; the input reads as it did. -/
def treeCompareUptoRow : OpenClaim := { program := "ytnppmemcdcgjhaa", sum := "c18f74ed5b43a59a69ee538736c452dd7a224b674c876bc2cb847d059e5a353f", func := "coverability/coverabilitylaw04.TreeCompare", spec := "treeCompare", recurses := true, apart := false, narrowed := true }
def TreeCompareUptoSaid : Prop := treeCompareUptoRow.holds Try.pinned (OpenSpec.upto treeCompareSpec)

end Rows
end Go.Proofs.Ytnppmemcdcgjhaa
