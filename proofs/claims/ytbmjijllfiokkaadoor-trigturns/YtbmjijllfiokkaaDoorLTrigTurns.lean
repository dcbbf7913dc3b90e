/- The walk of the law TrigTurns. -/
import Derived.Test.YtbmjijllfiokkaaDoorAwake3
namespace Go.Proofs.YtbmjijllfiokkaaDoor
open Go.RowKit
set_option linter.unusedVariables false

set_option maxHeartbeats 400000 in
theorem walk_TrigTurns (a b m : Int) (h0 : (Lit.int .i64 a).wf = true) (h1 : (Lit.int .i64 b).wf = true) (h2 : (Lit.int .i64 m).wf = true) (w : World) (hT : Tab w) :
    Calls Tryd.prog 8 #[.int .i64 a, .int .i64 b, .int .i64 m] w (Ret (.bool true) w) := by
  obtain ⟨ha, ha'⟩ := wfI3 h0
  obtain ⟨hb, hb'⟩ := wfI3 h1
  have HT := Lib.hid hT
  clear hT h0 h1 h2
  go_enter Tryd.func8, Tryd.ntmps8
  go_wp2_with fail
  refine (toward_any a b m _ ha ha' hb hb').mono ?_
  rintro e w1 ⟨rfl, b1⟩
  have B1 := Lib.hid b1
  clear b1
  go_wp2_with fail
  refine (rtoward_any a b m _).mono ?_
  rintro e w2 ⟨rfl, b2⟩
  have B2 := Lib.hid (B1.out.trans (b2.mono B1.out.size))
  clear b2
  go_wp2_with fail
  refine (awake3_any _ (HT.out.keep B2.out)).mono ?_
  rintro e w3 ⟨rfl, b3⟩
  have B3 := Lib.hid (B2.out.trans (b3.mono B2.out.size))
  clear b3
  go_wp2
  go_ret
  exact Ret.mk rfl B3.out

end Go.Proofs.YtbmjijllfiokkaaDoor
