/- The examples of layer 2 all hold: the law package's 'awake' answers true. -/
import Derived.Test.YtnneinjmdkoopaaFix
namespace Go.Proofs.Ytnneinjmdkoopaa
open Go.RowKit
set_option linter.unusedVariables false

theorem wfI {a : Int} (h : (Lit.int .i64 a).wf = true) : -9223372036854775808 ≤ a ∧ a ≤ 9223372036854775807 := by
  simpa [Lit.wf, IntKind.min, IntKind.max, IntKind.signed, IntKind.bits] using h
theorem wfU {a : Int} (h : (Lit.int .u64 a).wf = true) : 0 ≤ a ∧ a ≤ 18446744073709551615 := by
  simpa [Lit.wf, IntKind.min, IntKind.max, IntKind.signed, IntKind.bits] using h

set_option maxHeartbeats 1000000 in
theorem awake2_any (w : World) : Calls Try.prog 14 #[] w (Ret (.bool true) w) := by
  go_enter Try.func14, Try.ntmps14
  go_wp2_with fail
  refine (fixMul_any _ _ _ (by omega) (by omega) (by omega) (by omega)).mono ?_
  rintro e w1 ⟨rfl, b1⟩
  rw [show rV (32768 * 32768 / 65536) = 16384 by decide, show rE (32768 * 32768 / 65536) = 0 by decide]
  go_wp2_with fail
  refine (fixMul_any _ _ _ (by omega) (by omega) (by omega) (by omega)).mono ?_
  rintro e w2 ⟨rfl, b2⟩
  rw [show rV (-1 * 1 / 65536) = -1 by decide, show rE (-1 * 1 / 65536) = 0 by decide]
  go_wp2_with fail
  refine (fixDiv_any _ _ _ (by omega) (by omega) (by omega) (by omega)).mono ?_
  rintro e w3 ⟨rfl, b3⟩
  rw [show qV (65536 * 65536) 196608 = 21845 by decide, show qE (65536 * 65536) 196608 = 0 by decide]
  go_wp2_with fail
  refine (fixDiv_any _ _ _ (by omega) (by omega) (by omega) (by omega)).mono ?_
  rintro e w4 ⟨rfl, b4⟩
  rw [show qV (-65536 * 65536) 196608 = -21846 by decide, show qE (-65536 * 65536) 196608 = 0 by decide]
  go_wp2_with fail
  refine (sqrt_in _ _ (by omega) (by omega)).mono ?_
  rintro e w5 ⟨r, hr, rfl, _, rfl⟩
  obtain rfl : r = 92681 := hr.same ⟨by decide, by decide, by decide⟩
  clear hr
  go_wp2_with fail
  refine (length_in _ _ _ (by unfold Near2; omega)).mono ?_
  rintro e w6 ⟨r, hr, rfl, _, rfl⟩
  obtain rfl : r = 5 := hr.same ⟨by decide, by decide, by decide⟩
  clear hr
  go_wp2_with fail
  refine (whole_any _ _).mono ?_
  rintro e w7 ⟨rfl, b7⟩
  rw [show (-1 : Int) / 65536 = -1 by decide]
  go_wp2_with fail
  refine (part_any _ _).mono ?_
  rintro e w8 ⟨rfl, b8⟩
  rw [show (-1 : Int) % 65536 = 65535 by decide]
  have HB : Hid (Below w.heap.size w w8) := by
    have c2 := b1.trans (b2.mono b1.size)
    have c3 := c2.trans (b3.mono c2.size)
    have c4 := c3.trans (b4.mono c3.size)
    have c5 := c4.trans (b7.mono c4.size)
    exact c5.trans (b8.mono c5.size)
  clear b1 b2 b3 b4 b7 b8
  go_wp2
  go_ret
  exact Ret.mk rfl HB.out

end Go.Proofs.Ytnneinjmdkoopaa
