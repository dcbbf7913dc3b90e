/- The walk of the law RngAt. -/
import Derived.Test.YtlpoholdphihfaaAwake5
namespace Go.Proofs.Ytlpoholdphihfaa
open Go.RowKit
set_option linter.unusedVariables false

set_option maxHeartbeats 1000000 in
theorem walk_RngAt (a0 a1 : Int) (w0 : (Lit.int .u64 a0).wf = true) (w1 : (Lit.int .u64 a1).wf = true) (w : World) :
    Calls Try.prog 3 #[.int .u64 a0, .int .u64 a1] w (Ret (.bool true) w) := by
  obtain ⟨s, rfl, hs⟩ := nat_of w0
  obtain ⟨n, rfl, hn⟩ := nat_of w1
  clear w0 w1
  go_enter Try.func3, Try.ntmps3
  go_wp2_with fail
  refine (rngAt_any s n _ hs hn).mono ?_
  rintro e w1 ⟨rfl, b1⟩
  go_wp2_with fail
  refine (refAt_any s n _ hs hn).mono ?_
  rintro e w2 ⟨rfl, b2⟩
  have B2 := Lib.hid (b1.trans (b2.mono b1.size))
  clear b1 b2
  obtain ⟨z, ez⟩ : ∃ z, atN s n = z := ⟨_, rfl⟩
  rw [ez]
  clear ez
  go_wp2_with fail
  refine (awake_any _).mono ?_
  rintro e w3 ⟨rfl, b3⟩
  have B3 := Lib.hid (B2.out.trans (b3.mono B2.out.size))
  clear b3 B2
  go_wp2
  go_ret
  exact Ret.mk rfl B3.out

end Go.Proofs.Ytlpoholdphihfaa
