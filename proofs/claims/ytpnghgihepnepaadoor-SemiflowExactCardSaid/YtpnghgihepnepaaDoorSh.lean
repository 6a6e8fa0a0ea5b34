/- Nothing is laid here; what the texts behind it import by it. -/
import Derived.Laws.Small
import Derived.Lib.MinMax
import Derived.WalkLawsBesides
import Derived.WalkSpells
import Derived.IntWalk
import Derived.BigRegion
import Derived.BigQuiet
import Derived.Deep.LoopGhost
import Derived.Test.YtpnghgihepnepaaDoorProg
namespace Go.Proofs
end Go.Proofs
