/- The walk of the law TrigSines. -/
import Derived.Test.YtbmjijllfiokkaaDoorAwake3
namespace Go.Proofs.YtbmjijllfiokkaaDoor
open Go.RowKit
set_option linter.unusedVariables false

set_option maxHeartbeats 400000 in
theorem walk_TrigSines (a : Int) (h0 : (Lit.int .i64 a).wf = true) (w : World) (hT : Tab w) (hR : RTab w) :
    Calls Tryd.prog 3 #[.int .i64 a] w (Ret (.bool true) w) := by
  obtain ⟨ha, ha'⟩ := wfI3 h0
  have HT := Lib.hid hT
  have HR := Lib.hid hR
  clear hT hR h0
  go_enter Tryd.func3, Tryd.ntmps3
  go_wp2_with fail
  refine (norm_any a _ ha ha').mono ?_
  rintro e w1 ⟨rfl, b1⟩
  have B1 := Lib.hid b1
  clear b1
  go_wp2_with fail
  refine (rnorm_any a _).mono ?_
  rintro e w2 ⟨rfl, rfl⟩
  go_wp2_with fail
  refine (sin_any a _ (HT.out.keep B1.out) ha ha').mono ?_
  rintro e w3 ⟨rfl, b3⟩
  have B3 := Lib.hid (B1.out.trans (b3.mono B1.out.size))
  clear b3
  go_wp2_with fail
  refine (rsin_any a _ (HR.out.keep B3.out)).mono ?_
  rintro e w4 ⟨rfl, b4⟩
  have B4 := Lib.hid (B3.out.trans (b4.mono B3.out.size))
  clear b4
  go_wp2_with fail
  refine (cos_any a _ (HT.out.keep B4.out) ha ha').mono ?_
  rintro e w5 ⟨rfl, b5⟩
  have B5 := Lib.hid (B4.out.trans (b5.mono B4.out.size))
  clear b5
  go_wp2_with fail
  refine (rcos_any a _ (HR.out.keep B5.out)).mono ?_
  rintro e w6 ⟨rfl, b6⟩
  have B6 := Lib.hid (B5.out.trans (b6.mono B5.out.size))
  clear b6
  go_wp2_with fail
  refine (awake3_any _ (HT.out.keep B6.out)).mono ?_
  rintro e w7 ⟨rfl, b7⟩
  have B7 := Lib.hid (B6.out.trans (b7.mono B6.out.size))
  clear b7
  go_wp2
  go_ret
  exact Ret.mk rfl B7.out

end Go.Proofs.YtbmjijllfiokkaaDoor
