/- Contracts of the reference of words: Embed, Leq, Compare. -/
import Derived.Test.YtgdnlibklopdiaaXa
import Derived.Test.YtgdnlibklopdiaaGr
import Derived.Test.YtgdnlibklopdiaaWc
namespace Go.Proofs.Ytgdnlibklopdiaa
open Go.RowKit
set_option linter.unusedVariables false

end Go.Proofs.Ytgdnlibklopdiaa
