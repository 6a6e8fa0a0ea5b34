/- A region that draws its order and whose operations read, and whose callees grow memory: walked once, in the order of the text. -/
import Derived.Test.YtelpkcndbcfaiaaGp
import Derived.Test.YtelpkcndbcfaiaaRows
namespace Go.Proofs.Ytelpkcndbcfaiaa
open Go.RowKit
set_option linter.unusedVariables false

/-- A world that has grown out of w. -/
structure Later (w : World) where
  to : World
  grown : w.grownBy to none

instance laterIs (w : World) : Nonempty (Later w) := ⟨⟨w, grown_refl w none⟩⟩
/-- A region that asks the tape, walked in the order of the text, each operation in every world grown out of the first. -/
theorem wp_region_later {id : Nat} {Q : Exit → Act → World → Prop} {a : Act} {w : World} {l : List Oper} (hm : Try.prog.follows .mixedOrders = true) (hB : Region.lexB .any l.toArray = true)
    (h : wpQuiet Try.prog l.toArray (fun w' => ∃ x : Later w, w' = x.to) (fun a' => ∀ w', (∃ x : Later w, w' = x.to) → Q .normal a' w') l a) : (Code.region id l.toArray true).wp Try.prog Q a w :=
  wp_region_quiet (C := fun w' => ∃ x : Later w, w' = x.to) hm hB ⟨⟨{ w with drawn := w.drawn + 1 }, grown_drew w none⟩, rfl⟩ (by simpa using h)

theorem Calls.later {f : FuncId} {args : Array Value} {w : World} {x : Later w} {v : Value} (h : Calls Try.prog f args x.to fun e w' => e = .returned v ∧ x.to.grownBy w' none) :
    Calls Try.prog f args x.to fun e w'' => e = .returned v ∧ ∃ y : Later w, w'' = y.to :=
  h.mono fun _ w' ⟨he, hg⟩ => ⟨he, ⟨w', grown_trans x.grown hg⟩, rfl⟩

end Go.Proofs.Ytelpkcndbcfaiaa
