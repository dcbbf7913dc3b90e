/- Contracts of the reference of layer 7, first part: Open. -/
import Derived.Test.YtcneilhhpblclaaGr1
namespace Go.Proofs.Ytcneilhhpblclaa
open Go.RowKit
set_option linter.unusedVariables false

end Go.Proofs.Ytcneilhhpblclaa
