/- slices.SortFunc at words: the contract. -/
import Derived.Test.YtgdnlibklopdiaaSf
namespace Go.Proofs.Ytgdnlibklopdiaa
open Go.RowKit Go.Shelf Go.Lib Go.Sort
set_option linter.unusedVariables false


end Go.Proofs.Ytgdnlibklopdiaa
