/- The walk of FixMuls. -/
import Derived.Test.YtnneinjmdkoopaaAwake2
import Derived.Test.YtnneinjmdkoopaaLawFloors
import Derived.Test.YtnneinjmdkoopaaRefFloor
namespace Go.Proofs.Ytnneinjmdkoopaa
open Go.RowKit
set_option linter.unusedVariables false

set_option maxHeartbeats 1000000 in
theorem walk_FixMuls (a b : Int) (h0 : (Lit.int .i64 a).wf = true) (h1 : (Lit.int .i64 b).wf = true) (w : World) :
    Calls Try.prog 3 #[.int .i64 a, .int .i64 b] w (Ret (.bool true) w) := by
  obtain ⟨ha, ha'⟩ := wfI h0
  obtain ⟨hb, hb'⟩ := wfI h1
  clear h0 h1
  have SP := Lib.hid (prod_of ha ha' hb hb')
  have SW : Hid (Word 65536) := word_of (by decide) (by decide)
  go_enter Try.func3, Try.ntmps3
  go_wp2_with fail
  refine (fixMul_any _ _ _ ha ha' hb hb').mono ?_
  rw [← fdiv_one]
  rintro e w1 ⟨rfl, b1⟩
  go_wp2_with fail
  refine (refMul_any _ _ _ ha ha' hb hb' (small_prod SP.out)).mono ?_
  rintro e w2 ⟨v2, rfl, hv2, b2⟩
  have HV2 := Lib.hid hv2
  clear hv2
  go_wp2_with fail
  refine (of_any _ _ (by omega) (by omega)).mono ?_
  rintro e w3 ⟨v3, rfl, hv3, b3⟩
  have HV3 := Lib.hid hv3
  clear hv3
  go_wp2_with fail
  refine (floors_true v2 v3 (a * b) 65536 _ (HV2.out.keep b3) HV3.out SP.out SW.out (by decide)).mono ?_
  rintro e w4 ⟨rfl, b4⟩
  have c2 := b1.trans (b2.mono b1.size)
  have c3 := c2.trans (b3.mono c2.size)
  have c4 := c3.trans (b4.mono c3.size)
  clear c2 c3 b1 b2 b3 b4
  go_wp2_with fail
  refine (awake2_any _).mono ?_
  rintro e w5 ⟨rfl, b5⟩
  have HB : Hid (Below w.heap.size w w5) := c4.trans (b5.mono c4.size)
  clear c4 b5
  go_wp2
  go_ret
  exact Ret.mk rfl HB.out

end Go.Proofs.Ytnneinjmdkoopaa
