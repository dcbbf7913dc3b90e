/- The law's own 'awake' of layer 9: the chapter's examples hold. -/
import Derived.Test.YtcneilhhpblclaaCr2
namespace Go.Proofs.Ytcneilhhpblclaa
open Go.RowKit
set_option linter.unusedVariables false

set_option maxHeartbeats 1000000 in
theorem awake9_any (w : World) : Calls Try.prog 12 #[] w (Ret (.bool true) w) := by
  have L1 := Lib.hid (fun u => Lowers_any ⟨5, 5, 2, 8⟩ 5 5 u)
  have L2 := Lib.hid (fun u => Lowers_any ⟨5, 5, 2, 8⟩ 6 5 u)
  have L3 := Lib.hid (fun u => Lowers_any ⟨5, 5, 2, 8⟩ 6 6 u)
  have L4 := Lib.hid (fun u => Lowers_any ⟨5, 5, 2, 8⟩ 7 5 u)
  rw [show lo9 ⟨5, 5, 2, 8⟩ 5 5 = 8 by decide] at L1
  rw [show lo9 ⟨5, 5, 2, 8⟩ 6 5 = 6 by decide] at L2
  rw [show lo9 ⟨5, 5, 2, 8⟩ 6 6 = 4 by decide] at L3
  rw [show lo9 ⟨5, 5, 2, 8⟩ 7 5 = 0 by decide] at L4
  have M1 := Lib.hid (fun u => may_yes ⟨5, 5, 2, 8⟩ u (by decide))
  have M2 := Lib.hid (fun u => may_no ⟨0, 0, 0, 0⟩ u (by decide))
  unfold hv at *
  go_enter Try.func12, Try.ntmps12
  go_wp2_with fail
  refine (L1.out _).mono ?_
  rintro e w1 ⟨rfl, b1⟩
  have X1 := Lib.hid ((Bx.new w (.int .i64 5) (.int .i64 5) (.int .i64 2) (.int .i64 8) 23).keep b1)
  clear b1 L1
  obtain ⟨-, c0, c1, c2, c3, -, -, -, -, -⟩ := X1.out
  go_wp2_with fail
  refine (L2.out _).mono ?_
  rintro e w2 ⟨rfl, b2⟩
  have X2 := Lib.hid (X1.out.keep b2)
  clear b2 c0 c1 c2 c3 X1 L2
  obtain ⟨-, c0, c1, c2, c3, -, -, -, -, -⟩ := X2.out
  go_wp2_with fail
  refine (L3.out _).mono ?_
  rintro e w3 ⟨rfl, b2⟩
  have X3 := Lib.hid (X2.out.keep b2)
  clear b2 c0 c1 c2 c3 X2 L3
  obtain ⟨-, c0, c1, c2, c3, -, -, -, -, -⟩ := X3.out
  go_wp2_with fail
  refine (L4.out _).mono ?_
  rintro e w4 ⟨rfl, b2⟩
  have X4 := Lib.hid (X3.out.keep b2)
  clear b2 c0 c1 c2 c3 X3 L4
  obtain ⟨-, c0, c1, c2, c3, -, -, -, -, -⟩ := X4.out
  go_wp2_with fail
  refine (M1.out _).mono ?_
  rintro e w5 ⟨rfl, b2⟩
  have X5 := Lib.hid (X4.out.keep b2)
  clear b2 c0 c1 c2 c3 X4 M1
  go_wp2_with fail
  refine (M2.out _).mono ?_
  rintro e w6 ⟨rfl, b2⟩
  have X6 := Lib.hid (X5.out.keep b2)
  clear b2 X5 M2
  go_wp2
  go_ret
  exact Ret.mk rfl X6.out.below

end Go.Proofs.Ytcneilhhpblclaa
