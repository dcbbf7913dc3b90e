/- The walk of the law TrigHeads. -/
import Derived.Test.YtbmjijllfiokkaaDoorAwake3
import Derived.Test.YtbmjijllfiokkaaDoorLawFar
namespace Go.Proofs.YtbmjijllfiokkaaDoor
open Go.RowKit
set_option linter.unusedVariables false

set_option maxHeartbeats 400000 in
theorem heads_far1 (x y : Int) (w : World) (hT : Tab w) (hx : FarT x) :
    Calls Tryd.prog 7 #[.int .i64 x, .int .i64 y] w (Ret (.bool true) w) := by
  have HT := Lib.hid hT
  have HD := Lib.hid (decide_eq_true hx)
  have HX := Lib.hid hx
  clear hT hx
  go_enter Tryd.func7, Tryd.ntmps7
  go_wp2_with fail
  refine (heading_over x y _ (Or.inl HX.out)).mono ?_
  rintro e w1 ⟨rfl, b1⟩
  have B1 := Lib.hid b1
  clear b1
  go_wp2_with fail
  refine (lawFar_any x _).mono ?_
  rw [HD.out]
  rintro e w2 ⟨rfl, rfl⟩
  go_wp2_with fail
  refine (awake3_any _ (HT.out.keep B1.out)).mono ?_
  rintro e w3 ⟨rfl, b3⟩
  have B3 := Lib.hid (B1.out.trans (b3.mono B1.out.size))
  clear b3
  go_wp2
  go_ret
  exact Ret.mk rfl B3.out

set_option maxHeartbeats 400000 in
theorem heads_far2 (x y : Int) (w : World) (hT : Tab w) (hx : ¬ FarT x) (hy : FarT y) :
    Calls Tryd.prog 7 #[.int .i64 x, .int .i64 y] w (Ret (.bool true) w) := by
  have HT := Lib.hid hT
  have HD := Lib.hid (decide_eq_false hx)
  have HD2 := Lib.hid (decide_eq_true hy)
  have HY := Lib.hid hy
  clear hT hx hy
  go_enter Tryd.func7, Tryd.ntmps7
  go_wp2_with fail
  refine (heading_over x y _ (Or.inr HY.out)).mono ?_
  rintro e w1 ⟨rfl, b1⟩
  have B1 := Lib.hid b1
  clear b1
  go_wp2_with fail
  refine (lawFar_any x _).mono ?_
  rw [HD.out]
  rintro e w2 ⟨rfl, rfl⟩
  go_wp2_with fail
  refine (lawFar_any y _).mono ?_
  rw [HD2.out]
  rintro e w3 ⟨rfl, rfl⟩
  go_wp2_with fail
  refine (awake3_any _ (HT.out.keep B1.out)).mono ?_
  rintro e w4 ⟨rfl, b4⟩
  have B4 := Lib.hid (B1.out.trans (b4.mono B1.out.size))
  clear b4
  go_wp2
  go_ret
  exact Ret.mk rfl B4.out

set_option maxHeartbeats 400000 in
theorem heads_near (x y : Int) (w : World) (hT : Tab w) (hR : RTab w) (hx : ¬ FarT x) (hy : ¬ FarT y) :
    Calls Tryd.prog 7 #[.int .i64 x, .int .i64 y] w (Ret (.bool true) w) := by
  have HT := Lib.hid hT
  have HR := Lib.hid hR
  have HD := Lib.hid (decide_eq_false hx)
  have HD2 := Lib.hid (decide_eq_false hy)
  have HX := Lib.hid hx
  have HY := Lib.hid hy
  clear hT hR hx hy
  go_enter Tryd.func7, Tryd.ntmps7
  go_wp2_with fail
  refine (heading_in x y _ HT.out HX.out HY.out).mono ?_
  rintro e w1 ⟨d, hd, rfl, b1⟩
  have HH := Lib.hid hd
  have B1 := Lib.hid b1
  clear b1 hd
  go_wp2_with fail
  refine (lawFar_any x _).mono ?_
  rw [HD.out]
  rintro e w2 ⟨rfl, rfl⟩
  go_wp2_with fail
  refine (lawFar_any y _).mono ?_
  rw [HD2.out]
  rintro e w3 ⟨rfl, rfl⟩
  go_wp2_with fail
  refine (rheading_any x y _ (HR.out.keep B1.out) HX.out HY.out).mono ?_
  rintro e w4 ⟨d4, hd4, rfl, b4⟩
  obtain rfl : d = d4 := HH.out.same hd4
  have B4 := Lib.hid (B1.out.trans (b4.mono B1.out.size))
  clear b4 hd4
  go_wp2_with fail
  refine (awake3_any _ (HT.out.keep B4.out)).mono ?_
  rintro e w5 ⟨rfl, b5⟩
  have B5 := Lib.hid (B4.out.trans (b5.mono B4.out.size))
  clear b5
  go_wp2
  go_ret
  exact Ret.mk rfl B5.out

theorem walk_TrigHeads (x y : Int) (h0 : (Lit.int .i64 x).wf = true) (h1 : (Lit.int .i64 y).wf = true) (w : World) (hT : Tab w) (hR : RTab w) :
    Calls Tryd.prog 7 #[.int .i64 x, .int .i64 y] w (Ret (.bool true) w) := by
  by_cases hx : FarT x
  · exact heads_far1 x y w hT hx
  · by_cases hy : FarT y
    · exact heads_far2 x y w hT hx hy
    · exact heads_near x y w hT hR hx hy

end Go.Proofs.YtbmjijllfiokkaaDoor
