/- Contracts of package relief, fourth part: cornersOf. -/
import Derived.Test.YtljedkceicahaaaRel3
import Derived.StillTailTactics
namespace Go.Proofs.Ytljedkceicahaaa
open Go.RowKit
set_option linter.unusedVariables false

end Go.Proofs.Ytljedkceicahaaa
