/- The walk of the law. -/
import Derived.Test.YtiiojickhegapaaRef6
import Derived.Test.YtiiojickhegapaaAwake4
namespace Go.Proofs.Ytiiojickhegapaa
open Go.RowKit
set_option linter.unusedVariables false

set_option maxHeartbeats 800000 in
theorem walk_RealFixes (a0 : Int) (w0 : (Lit.int .u64 a0).wf = true) (w : World) : Calls Try.prog 3 #[.int .u64 a0] w (Ret (.bool true) w) := by
  obtain ⟨v0, v1⟩ := wfI w0
  have v0' : 0 ≤ a0 := v0
  have v1' : a0 ≤ 18446744073709551615 := v1
  obtain ⟨b, rfl⟩ : ∃ b : Nat, a0 = (b : Int) := ⟨a0.toNat, by omega⟩
  have hb : b < 18446744073709551616 := by omega
  clear v0 v1 v0' v1' w0
  have h1 := fun w => bits_any b hb w
  have h2 := fun w => of_any b hb w
  have h3 := fun w => refOf_any b hb w
  have hc := frombits b
  generalize ofV b = v at h1 h2 h3
  generalize ofE b = n at h1 h2 h3
  go_enter Try.func3, Try.ntmps3
  go_wp2_with fail
  refine (h1 _).mono ?_
  rintro e w1 ⟨rfl, b1⟩
  have HB1 := Lib.hid b1
  clear b1
  clear h1
  go_wp2_with fail
  refine (h2 _).mono ?_
  rintro e w2 ⟨rfl, b2⟩
  have HB2 : Hid (Below w.heap.size w w2) := HB1.out.trans (b2.mono HB1.out.size)
  clear b2 HB1
  clear h2
  go_wp2_with fail
  refine (h3 _).mono ?_
  rintro e w3 ⟨rfl, b3⟩
  have HB3 : Hid (Below w.heap.size w w3) := HB2.out.trans (b3.mono HB2.out.size)
  clear b3 HB2
  clear h3
  go_wp2_with fail
  refine (awake_any _).mono ?_
  rintro e w4 ⟨rfl, b4⟩
  have HB4 : Hid (Below w.heap.size w w4) := HB3.out.trans (b4.mono HB3.out.size)
  clear b4 HB3
  go_wp2
  go_ret
  exact Ret.mk rfl HB4.out
end Go.Proofs.Ytiiojickhegapaa
