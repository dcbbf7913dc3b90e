/- Contracts of the reference of layer 7, first part: Open. -/
import Derived.Test.YtljedkceicahaaaGr1
namespace Go.Proofs.Ytljedkceicahaaa
open Go.RowKit
set_option linter.unusedVariables false

end Go.Proofs.Ytljedkceicahaaa
