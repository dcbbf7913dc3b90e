/- The examples of layer 3 all hold: the law package's 'awake' answers true. -/
import Derived.Test.YtbmjijllfiokkaaDoorHead
namespace Go.Proofs.YtbmjijllfiokkaaDoor
open Go.RowKit
set_option linter.unusedVariables false

theorem wfI3 {a : Int} (h : (Lit.int .i64 a).wf = true) : -9223372036854775808 ≤ a ∧ a ≤ 9223372036854775807 := by
  simpa [Lit.wf, IntKind.min, IntKind.max, IntKind.signed, IntKind.bits] using h

set_option maxRecDepth 20000 in
set_option maxHeartbeats 1000000 in
theorem awake3_any (w : World) (hT : Tab w) : Calls Tryd.prog 16 #[] w (Ret (.bool true) w) := by
  have HT := Lib.hid hT
  clear hT
  go_enter Tryd.func16, Tryd.ntmps16
  go_wp2_with fail
  refine (heading_in 65536 0 _ HT.out (by decide) (by decide)).mono ?_
  rintro e w1 ⟨d1, h1, rfl, b1⟩
  obtain rfl : d1 = 0 := h1.same (by decide +kernel)
  have B1 := Lib.hid b1
  clear b1 h1
  go_wp2_with fail
  refine (heading_in 0 (-65536) _ (HT.out.keep B1.out) (by decide) (by decide)).mono ?_
  rintro e w2 ⟨d2, h2, rfl, b2⟩
  obtain rfl : d2 = 192 := h2.same (by decide +kernel)
  have B2 := Lib.hid (B1.out.trans (b2.mono B1.out.size))
  clear b2 h2
  go_wp2_with fail
  refine (heading_in 65536 65536 _ (HT.out.keep B2.out) (by decide) (by decide)).mono ?_
  rintro e w3 ⟨d3, h3, rfl, b3⟩
  obtain rfl : d3 = 32 := h3.same (by decide +kernel)
  have B3 := Lib.hid (B2.out.trans (b3.mono B2.out.size))
  clear b3 h3
  go_wp2_with fail
  refine (sin_any 0 _ (HT.out.keep B3.out) (by omega) (by omega)).mono ?_
  rw [show sn 0 = 0 by decide +kernel]
  rintro e w4 ⟨rfl, b4⟩
  have B4 := Lib.hid (B3.out.trans (b4.mono B3.out.size))
  clear b4
  go_wp2_with fail
  refine (sin_any 16384 _ (HT.out.keep B4.out) (by omega) (by omega)).mono ?_
  rw [show sn 16384 = 65536 by decide +kernel]
  rintro e w5 ⟨rfl, b5⟩
  have B5 := Lib.hid (B4.out.trans (b5.mono B4.out.size))
  clear b5
  go_wp2_with fail
  refine (sin_any 128 _ (HT.out.keep B5.out) (by omega) (by omega)).mono ?_
  rw [show sn 128 = 804 by decide +kernel]
  rintro e w6 ⟨rfl, b6⟩
  have B6 := Lib.hid (B5.out.trans (b6.mono B5.out.size))
  clear b6
  go_wp2_with fail
  refine (cos_any 32768 _ (HT.out.keep B6.out) (by omega) (by omega)).mono ?_
  rw [show cs 32768 = -65536 by decide +kernel]
  rintro e w7 ⟨rfl, b7⟩
  have B7 := Lib.hid (B6.out.trans (b7.mono B6.out.size))
  clear b7
  go_wp2_with fail
  refine (toward_any 0 65535 10 _ (by omega) (by omega) (by omega) (by omega)).mono ?_
  rw [show tw 0 65535 10 = 65535 by decide +kernel]
  rintro e w8 ⟨rfl, b8⟩
  have B8 := Lib.hid (B7.out.trans (b8.mono B7.out.size))
  clear b8
  go_wp2_with fail
  refine (toward_any 0 32768 10 _ (by omega) (by omega) (by omega) (by omega)).mono ?_
  rw [show tw 0 32768 10 = 10 by decide +kernel]
  rintro e w9 ⟨rfl, b9⟩
  have B9 := Lib.hid (B8.out.trans (b9.mono B8.out.size))
  clear b9
  go_wp2_with fail
  refine (toward_any 5 100 (-1) _ (by omega) (by omega) (by omega) (by omega)).mono ?_
  rw [show tw 5 100 (-1) = 5 by decide +kernel]
  rintro e w10 ⟨rfl, b10⟩
  have B10 := Lib.hid (B9.out.trans (b10.mono B9.out.size))
  clear b10
  go_wp2
  go_ret
  exact Ret.mk rfl B10.out

end Go.Proofs.YtbmjijllfiokkaaDoor
