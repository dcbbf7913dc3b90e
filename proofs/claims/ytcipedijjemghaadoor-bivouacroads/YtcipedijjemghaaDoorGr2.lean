/- Contracts of the reference of layer 7, first part: Open. -/
import Derived.Test.YtcipedijjemghaaDoorGr1
namespace Go.Proofs.YtcipedijjemghaaDoor
open Go.RowKit
set_option linter.unusedVariables false

end Go.Proofs.YtcipedijjemghaaDoor
