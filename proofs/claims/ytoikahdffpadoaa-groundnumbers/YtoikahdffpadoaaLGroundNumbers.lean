/- The walk of the law GroundNumbers. -/
import Derived.Test.YtoikahdffpadoaaAwake7
namespace Go.Proofs.Ytoikahdffpadoaa
open Go.RowKit
set_option linter.unusedVariables false

set_option maxHeartbeats 400000 in
theorem walk_GroundNumbers (w : World) : Calls Try.prog 3 #[] w (Ret (.bool true) w) := by
  go_enter Try.func3, Try.ntmps3
  go_wp2_with fail
  refine (awake_any _).mono ?_
  rintro e w1 ⟨rfl, b1⟩
  go_wp2
  go_ret
  exact Ret.mk rfl b1

end Go.Proofs.Ytoikahdffpadoaa
