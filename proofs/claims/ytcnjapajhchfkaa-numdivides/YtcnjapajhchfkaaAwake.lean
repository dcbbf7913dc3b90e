/- The law package's examples all hold: 'awake' answers true. -/
import Derived.Test.YtcnjapajhchfkaaNum4
namespace Go.Proofs.Ytcnjapajhchfkaa
open Go.RowKit
set_option linter.unusedVariables false

set_option maxHeartbeats 1000000 in
theorem awake_any (w : World) : Calls Try.prog 10 #[] w (Ret (.bool true) w) := by
  go_enter Try.func10, Try.ntmps10
  go_wp2_with fail
  refine (add_any _ _ _ (by omega) (by omega) (by omega) (by omega)).mono ?_
  rintro e w1 ⟨rfl, b1⟩
  rw [show rV (9223372036854775807 + 1) = 0 by decide, show rE (9223372036854775807 + 1) = 8 by decide]
  go_wp2_with fail
  refine (div_any _ _ _ (by omega) (by omega) (by omega) (by omega)).mono ?_
  rintro e w2 ⟨rfl, b2⟩
  rw [show qV (-7) 2 = -4 by decide, show qE (-7) 2 = 0 by decide]
  go_wp2_with fail
  refine (mod_any _ _ _ (by omega) (by omega) (by omega) (by omega)).mono ?_
  rintro e w3 ⟨rfl, b3⟩
  rw [show mV (-7) 2 = 1 by decide, show mE (-7) 2 = 0 by decide]
  go_wp2_with fail
  refine (mod_any _ _ _ (by omega) (by omega) (by omega) (by omega)).mono ?_
  rintro e w4 ⟨rfl, b4⟩
  rw [show mV 7 (-2) = -1 by decide, show mE 7 (-2) = 0 by decide]
  go_wp2_with fail
  refine (div_any _ _ _ (by omega) (by omega) (by omega) (by omega)).mono ?_
  rintro e w5 ⟨rfl, b5⟩
  rw [div_over.1, div_over.2]
  go_wp2_with fail
  refine (muldiv_any _ _ _ _ (by omega) (by omega) (by omega) (by omega) (by omega) (by omega)).mono ?_
  rintro e w6 ⟨rfl, b6⟩
  rw [show qV (4611686018427387904 * 6) 8 = 3458764513820540928 by decide, show qE (4611686018427387904 * 6) 8 = 0 by decide]
  go_wp2_with fail
  refine (muldiv_any _ _ _ _ (by omega) (by omega) (by omega) (by omega) (by omega) (by omega)).mono ?_
  rintro e w7 ⟨rfl, b7⟩
  rw [show qV (-1 * 1) 3 = -1 by decide, show qE (-1 * 1) 3 = 0 by decide]
  have HB : Hid (Below w.heap.size w w7) := by
    have c2 := b1.trans (b2.mono b1.size)
    have c3 := c2.trans (b3.mono c2.size)
    have c4 := c3.trans (b4.mono c3.size)
    have c5 := c4.trans (b5.mono c4.size)
    have c6 := c5.trans (b6.mono c5.size)
    exact c6.trans (b7.mono c6.size)
  go_wp2
  go_ret
  exact Ret.mk rfl HB.out

end Go.Proofs.Ytcnjapajhchfkaa
