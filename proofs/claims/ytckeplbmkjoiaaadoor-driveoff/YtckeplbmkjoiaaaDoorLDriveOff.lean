/- Stage 14: how far off two angles are; the law. -/
import Derived.Test.YtckeplbmkjoiaaaDoorDv7
namespace Go.Proofs.YtckeplbmkjoiaaaDoor
open Go.RowKit
set_option linter.unusedVariables false

set_option maxRecDepth 20000 in
set_option maxHeartbeats 1000000 in
theorem walk_DriveOff (a b : Int) (wa : (Lit.int .i64 a).wf = true) (wb : (Lit.int .i64 b).wf = true) (w : World) (hT : Tab w) :
    Calls Tryd.prog 3 #[.int .i64 a, .int .i64 b] w (Ret (.bool true) w) := by
  have ha := wfI14 wa
  have hb := wfI14 wb
  have HT := Lib.hid hT
  clear wa wb hT
  have hs := off_symm b a
  have hr := (off_range a b).2
  have HO : Hid (∀ u, Calls Tryd.prog 8 #[.int .i64 a, .int .i64 b] u (Ret (.int .i64 (off a b)) u)) := fun u => off14_any a b u ha.1 ha.2 hb.1 hb.2
  have HP : Hid (∀ u, Calls Tryd.prog 8 #[.int .i64 b, .int .i64 a] u (Ret (.int .i64 (off a b)) u)) := fun u => by rw [← hs]; exact off14_any b a u hb.1 hb.2 ha.1 ha.2
  have HQ : Hid (∀ u, Calls Tryd.prog 9 #[.int .i64 a, .int .i64 b] u (fun e w' => e = .returned (.int .i64 (off a b)) ∧ u = w')) := fun u => roff14_any a b u
  generalize off a b = o at *
  clear hs ha hb
  go_enter Tryd.func3, Tryd.ntmps3
  go_wp2_with fail
  refine (HO.out w).mono ?_
  rintro e w1 ⟨rfl, b1⟩
  have B1 := Lib.hid b1
  clear b1
  go_wp2_with fail
  refine (HQ.out w1).mono ?_
  rintro e w2 ⟨rfl, rfl⟩
  go_wp2_with fail
  refine (HO.out w1).mono ?_
  rintro e w3 ⟨rfl, b3⟩
  have B3 := Lib.hid (B1.out.trans (b3.mono B1.out.size))
  clear b3
  go_wp2_with fail
  refine (HP.out w3).mono ?_
  rintro e w4 ⟨rfl, b4⟩
  have B4 := Lib.hid (B3.out.trans (b4.mono B3.out.size))
  clear b4
  go_wp2_with fail
  refine (HO.out w4).mono ?_
  rintro e w5 ⟨rfl, b5⟩
  have B5 := Lib.hid (B4.out.trans (b5.mono B4.out.size))
  clear b5
  go_wp2_with fail
  refine (awake14_any w5 (HT.out.keep B5.out)).mono ?_
  rintro e w6 ⟨rfl, b6⟩
  have B6 := Lib.hid (B5.out.trans (b6.mono B5.out.size))
  clear b6
  go_wp2
  go_ret
  exact Ret.mk rfl B6.out
end Go.Proofs.YtckeplbmkjoiaaaDoor
