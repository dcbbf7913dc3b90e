/- Contracts of the reference of layer 7, first part: Open. -/
import Derived.Test.YtoikahdffpadoaaGr1
namespace Go.Proofs.Ytoikahdffpadoaa
open Go.RowKit
set_option linter.unusedVariables false

set_option maxHeartbeats 1000000 in
theorem refOpen_0_0 (W H T i j s d lo hi : Int) (A : Option Addr) (n k : Nat) (w : World) (hs : hi - lo = s) (l0 : 0 ≤ lo) (l1 : lo ≤ 255) (m0 : 0 ≤ hi) (m1 : hi ≤ 255)
    (C1 : Hid (∀ u, Below w.heap.size w u → Calls Try.prog 24 #[.agg #[.int .i64 W, .int .i64 H, .int .i64 T, .slice A n k], .int .i64 i, .int .i64 j] u (Ret (.tuple #[.int .i64 lo, .int .i64 hi]) u)))
    (C2 : Hid (∀ u, Below w.heap.size w u → Calls Try.prog 25 #[.agg #[.int .i64 W, .int .i64 H, .int .i64 T, .slice A n k], .int .i64 i, .int .i64 j] u (Ret (.int .i64 d) u))) (ha : s ≤ 24) (hb : d ≤ 12) :
    Calls Try.prog 13 #[.agg #[.int .i64 W, .int .i64 H, .int .i64 T, .slice A n k], .int .i64 0, .int .i64 i, .int .i64 j] w (Ret (.bool true) w) := by
  have HX := Lib.hid (Bx.new w (.int .i64 W) (.int .i64 H) (.int .i64 T) (.slice A n k) 25)
  go_enter Try.func13, Try.ntmps13
  go_wp2_with fail
  refine (C1.out _ HX.out.below).mono ?_
  rintro e w1 ⟨rfl, b1⟩
  have X1 := Lib.hid (HX.out.keep b1)
  clear b1
  obtain ⟨-, c0, c1, c2, c3, -, -, -, -, -⟩ := X1.out
  go_wp2_with fail
  refine (C2.out _ X1.out.below).mono ?_
  rintro e w2 ⟨rfl, b2⟩
  have X2 := Lib.hid (X1.out.keep b2)
  clear b2 X1 c0 c1 c2 c3
  go_wp2
  go_ret
  exact Ret.mk rfl X2.out.below

set_option maxHeartbeats 1000000 in
theorem refOpen_0_1 (W H T i j s d lo hi : Int) (A : Option Addr) (n k : Nat) (w : World) (hs : hi - lo = s) (l0 : 0 ≤ lo) (l1 : lo ≤ 255) (m0 : 0 ≤ hi) (m1 : hi ≤ 255)
    (C1 : Hid (∀ u, Below w.heap.size w u → Calls Try.prog 24 #[.agg #[.int .i64 W, .int .i64 H, .int .i64 T, .slice A n k], .int .i64 i, .int .i64 j] u (Ret (.tuple #[.int .i64 lo, .int .i64 hi]) u)))
    (C2 : Hid (∀ u, Below w.heap.size w u → Calls Try.prog 25 #[.agg #[.int .i64 W, .int .i64 H, .int .i64 T, .slice A n k], .int .i64 i, .int .i64 j] u (Ret (.int .i64 d) u))) (ha : s ≤ 24) (hb : decide (d ≤ 12) = false) :
    Calls Try.prog 13 #[.agg #[.int .i64 W, .int .i64 H, .int .i64 T, .slice A n k], .int .i64 0, .int .i64 i, .int .i64 j] w (Ret (.bool false) w) := by
  have HX := Lib.hid (Bx.new w (.int .i64 W) (.int .i64 H) (.int .i64 T) (.slice A n k) 25)
  go_enter Try.func13, Try.ntmps13
  go_wp2_with fail
  refine (C1.out _ HX.out.below).mono ?_
  rintro e w1 ⟨rfl, b1⟩
  have X1 := Lib.hid (HX.out.keep b1)
  clear b1
  obtain ⟨-, c0, c1, c2, c3, -, -, -, -, -⟩ := X1.out
  go_wp2_with fail
  refine (C2.out _ X1.out.below).mono ?_
  rintro e w2 ⟨rfl, b2⟩
  have X2 := Lib.hid (X1.out.keep b2)
  clear b2 X1 c0 c1 c2 c3
  go_wp2
  go_ret
  exact Ret.mk rfl X2.out.below

set_option maxHeartbeats 1000000 in
theorem refOpen_0_2 (W H T i j s d lo hi : Int) (A : Option Addr) (n k : Nat) (w : World) (hs : hi - lo = s) (l0 : 0 ≤ lo) (l1 : lo ≤ 255) (m0 : 0 ≤ hi) (m1 : hi ≤ 255)
    (C1 : Hid (∀ u, Below w.heap.size w u → Calls Try.prog 24 #[.agg #[.int .i64 W, .int .i64 H, .int .i64 T, .slice A n k], .int .i64 i, .int .i64 j] u (Ret (.tuple #[.int .i64 lo, .int .i64 hi]) u)))
    (C2 : Hid (∀ u, Below w.heap.size w u → Calls Try.prog 25 #[.agg #[.int .i64 W, .int .i64 H, .int .i64 T, .slice A n k], .int .i64 i, .int .i64 j] u (Ret (.int .i64 d) u))) (ha : decide (s ≤ 24) = false) :
    Calls Try.prog 13 #[.agg #[.int .i64 W, .int .i64 H, .int .i64 T, .slice A n k], .int .i64 0, .int .i64 i, .int .i64 j] w (Ret (.bool false) w) := by
  have HX := Lib.hid (Bx.new w (.int .i64 W) (.int .i64 H) (.int .i64 T) (.slice A n k) 25)
  go_enter Try.func13, Try.ntmps13
  go_wp2_with fail
  refine (C1.out _ HX.out.below).mono ?_
  rintro e w1 ⟨rfl, b1⟩
  have X1 := Lib.hid (HX.out.keep b1)
  clear b1
  obtain ⟨-, c0, c1, c2, c3, -, -, -, -, -⟩ := X1.out
  go_wp2_with fail
  refine (C2.out _ X1.out.below).mono ?_
  rintro e w2 ⟨rfl, b2⟩
  have X2 := Lib.hid (X1.out.keep b2)
  clear b2 X1 c0 c1 c2 c3
  go_wp2
  go_ret
  exact Ret.mk rfl X2.out.below

set_option maxHeartbeats 1000000 in
theorem refOpen_1_3 (W H T i j s d lo hi : Int) (A : Option Addr) (n k : Nat) (w : World) (hs : hi - lo = s) (l0 : 0 ≤ lo) (l1 : lo ≤ 255) (m0 : 0 ≤ hi) (m1 : hi ≤ 255)
    (C1 : Hid (∀ u, Below w.heap.size w u → Calls Try.prog 24 #[.agg #[.int .i64 W, .int .i64 H, .int .i64 T, .slice A n k], .int .i64 i, .int .i64 j] u (Ret (.tuple #[.int .i64 lo, .int .i64 hi]) u)))
    (C2 : Hid (∀ u, Below w.heap.size w u → Calls Try.prog 25 #[.agg #[.int .i64 W, .int .i64 H, .int .i64 T, .slice A n k], .int .i64 i, .int .i64 j] u (Ret (.int .i64 d) u))) (ha : 0 < d) :
    Calls Try.prog 13 #[.agg #[.int .i64 W, .int .i64 H, .int .i64 T, .slice A n k], .int .i64 1, .int .i64 i, .int .i64 j] w (Ret (.bool true) w) := by
  have HX := Lib.hid (Bx.new w (.int .i64 W) (.int .i64 H) (.int .i64 T) (.slice A n k) 25)
  go_enter Try.func13, Try.ntmps13
  go_wp2_with fail
  refine (C1.out _ HX.out.below).mono ?_
  rintro e w1 ⟨rfl, b1⟩
  have X1 := Lib.hid (HX.out.keep b1)
  clear b1
  obtain ⟨-, c0, c1, c2, c3, -, -, -, -, -⟩ := X1.out
  go_wp2_with fail
  refine (C2.out _ X1.out.below).mono ?_
  rintro e w2 ⟨rfl, b2⟩
  have X2 := Lib.hid (X1.out.keep b2)
  clear b2 X1 c0 c1 c2 c3
  go_wp2
  go_ret
  exact Ret.mk rfl X2.out.below

set_option maxHeartbeats 1000000 in
theorem refOpen_1_4 (W H T i j s d lo hi : Int) (A : Option Addr) (n k : Nat) (w : World) (hs : hi - lo = s) (l0 : 0 ≤ lo) (l1 : lo ≤ 255) (m0 : 0 ≤ hi) (m1 : hi ≤ 255)
    (C1 : Hid (∀ u, Below w.heap.size w u → Calls Try.prog 24 #[.agg #[.int .i64 W, .int .i64 H, .int .i64 T, .slice A n k], .int .i64 i, .int .i64 j] u (Ret (.tuple #[.int .i64 lo, .int .i64 hi]) u)))
    (C2 : Hid (∀ u, Below w.heap.size w u → Calls Try.prog 25 #[.agg #[.int .i64 W, .int .i64 H, .int .i64 T, .slice A n k], .int .i64 i, .int .i64 j] u (Ret (.int .i64 d) u))) (ha : decide (0 < d) = false) (hb : s ≤ 16) :
    Calls Try.prog 13 #[.agg #[.int .i64 W, .int .i64 H, .int .i64 T, .slice A n k], .int .i64 1, .int .i64 i, .int .i64 j] w (Ret (.bool true) w) := by
  have HX := Lib.hid (Bx.new w (.int .i64 W) (.int .i64 H) (.int .i64 T) (.slice A n k) 25)
  go_enter Try.func13, Try.ntmps13
  go_wp2_with fail
  refine (C1.out _ HX.out.below).mono ?_
  rintro e w1 ⟨rfl, b1⟩
  have X1 := Lib.hid (HX.out.keep b1)
  clear b1
  obtain ⟨-, c0, c1, c2, c3, -, -, -, -, -⟩ := X1.out
  go_wp2_with fail
  refine (C2.out _ X1.out.below).mono ?_
  rintro e w2 ⟨rfl, b2⟩
  have X2 := Lib.hid (X1.out.keep b2)
  clear b2 X1 c0 c1 c2 c3
  go_wp2
  go_ret
  exact Ret.mk rfl X2.out.below

set_option maxHeartbeats 1000000 in
theorem refOpen_1_5 (W H T i j s d lo hi : Int) (A : Option Addr) (n k : Nat) (w : World) (hs : hi - lo = s) (l0 : 0 ≤ lo) (l1 : lo ≤ 255) (m0 : 0 ≤ hi) (m1 : hi ≤ 255)
    (C1 : Hid (∀ u, Below w.heap.size w u → Calls Try.prog 24 #[.agg #[.int .i64 W, .int .i64 H, .int .i64 T, .slice A n k], .int .i64 i, .int .i64 j] u (Ret (.tuple #[.int .i64 lo, .int .i64 hi]) u)))
    (C2 : Hid (∀ u, Below w.heap.size w u → Calls Try.prog 25 #[.agg #[.int .i64 W, .int .i64 H, .int .i64 T, .slice A n k], .int .i64 i, .int .i64 j] u (Ret (.int .i64 d) u))) (ha : decide (0 < d) = false) (hb : decide (s ≤ 16) = false) :
    Calls Try.prog 13 #[.agg #[.int .i64 W, .int .i64 H, .int .i64 T, .slice A n k], .int .i64 1, .int .i64 i, .int .i64 j] w (Ret (.bool false) w) := by
  have HX := Lib.hid (Bx.new w (.int .i64 W) (.int .i64 H) (.int .i64 T) (.slice A n k) 25)
  go_enter Try.func13, Try.ntmps13
  go_wp2_with fail
  refine (C1.out _ HX.out.below).mono ?_
  rintro e w1 ⟨rfl, b1⟩
  have X1 := Lib.hid (HX.out.keep b1)
  clear b1
  obtain ⟨-, c0, c1, c2, c3, -, -, -, -, -⟩ := X1.out
  go_wp2_with fail
  refine (C2.out _ X1.out.below).mono ?_
  rintro e w2 ⟨rfl, b2⟩
  have X2 := Lib.hid (X1.out.keep b2)
  clear b2 X1 c0 c1 c2 c3
  go_wp2
  go_ret
  exact Ret.mk rfl X2.out.below

set_option maxHeartbeats 1000000 in
theorem refOpen_2_6 (W H T i j s d lo hi : Int) (A : Option Addr) (n k : Nat) (w : World) (hs : hi - lo = s) (l0 : 0 ≤ lo) (l1 : lo ≤ 255) (m0 : 0 ≤ hi) (m1 : hi ≤ 255)
    (C1 : Hid (∀ u, Below w.heap.size w u → Calls Try.prog 24 #[.agg #[.int .i64 W, .int .i64 H, .int .i64 T, .slice A n k], .int .i64 i, .int .i64 j] u (Ret (.tuple #[.int .i64 lo, .int .i64 hi]) u)))
    (C2 : Hid (∀ u, Below w.heap.size w u → Calls Try.prog 25 #[.agg #[.int .i64 W, .int .i64 H, .int .i64 T, .slice A n k], .int .i64 i, .int .i64 j] u (Ret (.int .i64 d) u))) (ha : 16 ≤ d) :
    Calls Try.prog 13 #[.agg #[.int .i64 W, .int .i64 H, .int .i64 T, .slice A n k], .int .i64 2, .int .i64 i, .int .i64 j] w (Ret (.bool true) w) := by
  have HX := Lib.hid (Bx.new w (.int .i64 W) (.int .i64 H) (.int .i64 T) (.slice A n k) 25)
  go_enter Try.func13, Try.ntmps13
  go_wp2_with fail
  refine (C1.out _ HX.out.below).mono ?_
  rintro e w1 ⟨rfl, b1⟩
  have X1 := Lib.hid (HX.out.keep b1)
  clear b1
  obtain ⟨-, c0, c1, c2, c3, -, -, -, -, -⟩ := X1.out
  go_wp2_with fail
  refine (C2.out _ X1.out.below).mono ?_
  rintro e w2 ⟨rfl, b2⟩
  have X2 := Lib.hid (X1.out.keep b2)
  clear b2 X1 c0 c1 c2 c3
  go_wp2
  go_ret
  exact Ret.mk rfl X2.out.below

set_option maxHeartbeats 1000000 in
theorem refOpen_2_7 (W H T i j s d lo hi : Int) (A : Option Addr) (n k : Nat) (w : World) (hs : hi - lo = s) (l0 : 0 ≤ lo) (l1 : lo ≤ 255) (m0 : 0 ≤ hi) (m1 : hi ≤ 255)
    (C1 : Hid (∀ u, Below w.heap.size w u → Calls Try.prog 24 #[.agg #[.int .i64 W, .int .i64 H, .int .i64 T, .slice A n k], .int .i64 i, .int .i64 j] u (Ret (.tuple #[.int .i64 lo, .int .i64 hi]) u)))
    (C2 : Hid (∀ u, Below w.heap.size w u → Calls Try.prog 25 #[.agg #[.int .i64 W, .int .i64 H, .int .i64 T, .slice A n k], .int .i64 i, .int .i64 j] u (Ret (.int .i64 d) u))) (ha : decide (16 ≤ d) = false) :
    Calls Try.prog 13 #[.agg #[.int .i64 W, .int .i64 H, .int .i64 T, .slice A n k], .int .i64 2, .int .i64 i, .int .i64 j] w (Ret (.bool false) w) := by
  have HX := Lib.hid (Bx.new w (.int .i64 W) (.int .i64 H) (.int .i64 T) (.slice A n k) 25)
  go_enter Try.func13, Try.ntmps13
  go_wp2_with fail
  refine (C1.out _ HX.out.below).mono ?_
  rintro e w1 ⟨rfl, b1⟩
  have X1 := Lib.hid (HX.out.keep b1)
  clear b1
  obtain ⟨-, c0, c1, c2, c3, -, -, -, -, -⟩ := X1.out
  go_wp2_with fail
  refine (C2.out _ X1.out.below).mono ?_
  rintro e w2 ⟨rfl, b2⟩
  have X2 := Lib.hid (X1.out.keep b2)
  clear b2 X1 c0 c1 c2 c3
  go_wp2
  go_ret
  exact Ret.mk rfl X2.out.below

set_option maxHeartbeats 1000000 in
theorem refOpen_3_8 (W H T i j s d lo hi : Int) (A : Option Addr) (n k : Nat) (w : World) (hs : hi - lo = s) (l0 : 0 ≤ lo) (l1 : lo ≤ 255) (m0 : 0 ≤ hi) (m1 : hi ≤ 255)
    (C1 : Hid (∀ u, Below w.heap.size w u → Calls Try.prog 24 #[.agg #[.int .i64 W, .int .i64 H, .int .i64 T, .slice A n k], .int .i64 i, .int .i64 j] u (Ret (.tuple #[.int .i64 lo, .int .i64 hi]) u)))
    (C2 : Hid (∀ u, Below w.heap.size w u → Calls Try.prog 25 #[.agg #[.int .i64 W, .int .i64 H, .int .i64 T, .slice A n k], .int .i64 i, .int .i64 j] u (Ret (.int .i64 d) u))) (ha : 24 ≤ d) :
    Calls Try.prog 13 #[.agg #[.int .i64 W, .int .i64 H, .int .i64 T, .slice A n k], .int .i64 3, .int .i64 i, .int .i64 j] w (Ret (.bool true) w) := by
  have HX := Lib.hid (Bx.new w (.int .i64 W) (.int .i64 H) (.int .i64 T) (.slice A n k) 25)
  go_enter Try.func13, Try.ntmps13
  go_wp2_with fail
  refine (C1.out _ HX.out.below).mono ?_
  rintro e w1 ⟨rfl, b1⟩
  have X1 := Lib.hid (HX.out.keep b1)
  clear b1
  obtain ⟨-, c0, c1, c2, c3, -, -, -, -, -⟩ := X1.out
  go_wp2_with fail
  refine (C2.out _ X1.out.below).mono ?_
  rintro e w2 ⟨rfl, b2⟩
  have X2 := Lib.hid (X1.out.keep b2)
  clear b2 X1 c0 c1 c2 c3
  go_wp2
  go_ret
  exact Ret.mk rfl X2.out.below

set_option maxHeartbeats 1000000 in
theorem refOpen_3_9 (W H T i j s d lo hi : Int) (A : Option Addr) (n k : Nat) (w : World) (hs : hi - lo = s) (l0 : 0 ≤ lo) (l1 : lo ≤ 255) (m0 : 0 ≤ hi) (m1 : hi ≤ 255)
    (C1 : Hid (∀ u, Below w.heap.size w u → Calls Try.prog 24 #[.agg #[.int .i64 W, .int .i64 H, .int .i64 T, .slice A n k], .int .i64 i, .int .i64 j] u (Ret (.tuple #[.int .i64 lo, .int .i64 hi]) u)))
    (C2 : Hid (∀ u, Below w.heap.size w u → Calls Try.prog 25 #[.agg #[.int .i64 W, .int .i64 H, .int .i64 T, .slice A n k], .int .i64 i, .int .i64 j] u (Ret (.int .i64 d) u))) (ha : decide (24 ≤ d) = false) :
    Calls Try.prog 13 #[.agg #[.int .i64 W, .int .i64 H, .int .i64 T, .slice A n k], .int .i64 3, .int .i64 i, .int .i64 j] w (Ret (.bool false) w) := by
  have HX := Lib.hid (Bx.new w (.int .i64 W) (.int .i64 H) (.int .i64 T) (.slice A n k) 25)
  go_enter Try.func13, Try.ntmps13
  go_wp2_with fail
  refine (C1.out _ HX.out.below).mono ?_
  rintro e w1 ⟨rfl, b1⟩
  have X1 := Lib.hid (HX.out.keep b1)
  clear b1
  obtain ⟨-, c0, c1, c2, c3, -, -, -, -, -⟩ := X1.out
  go_wp2_with fail
  refine (C2.out _ X1.out.below).mono ?_
  rintro e w2 ⟨rfl, b2⟩
  have X2 := Lib.hid (X1.out.keep b2)
  clear b2 X1 c0 c1 c2 c3
  go_wp2
  go_ret
  exact Ret.mk rfl X2.out.below

set_option maxHeartbeats 1000000 in
theorem refOpen_4_10 (W H T i j s d lo hi : Int) (A : Option Addr) (n k : Nat) (w : World) (hs : hi - lo = s) (l0 : 0 ≤ lo) (l1 : lo ≤ 255) (m0 : 0 ≤ hi) (m1 : hi ≤ 255)
    (C1 : Hid (∀ u, Below w.heap.size w u → Calls Try.prog 24 #[.agg #[.int .i64 W, .int .i64 H, .int .i64 T, .slice A n k], .int .i64 i, .int .i64 j] u (Ret (.tuple #[.int .i64 lo, .int .i64 hi]) u)))
    (C2 : Hid (∀ u, Below w.heap.size w u → Calls Try.prog 25 #[.agg #[.int .i64 W, .int .i64 H, .int .i64 T, .slice A n k], .int .i64 i, .int .i64 j] u (Ret (.int .i64 d) u))) (ha : s ≤ 20) :
    Calls Try.prog 13 #[.agg #[.int .i64 W, .int .i64 H, .int .i64 T, .slice A n k], .int .i64 4, .int .i64 i, .int .i64 j] w (Ret (.bool true) w) := by
  have HX := Lib.hid (Bx.new w (.int .i64 W) (.int .i64 H) (.int .i64 T) (.slice A n k) 25)
  go_enter Try.func13, Try.ntmps13
  go_wp2_with fail
  refine (C1.out _ HX.out.below).mono ?_
  rintro e w1 ⟨rfl, b1⟩
  have X1 := Lib.hid (HX.out.keep b1)
  clear b1
  obtain ⟨-, c0, c1, c2, c3, -, -, -, -, -⟩ := X1.out
  go_wp2_with fail
  refine (C2.out _ X1.out.below).mono ?_
  rintro e w2 ⟨rfl, b2⟩
  have X2 := Lib.hid (X1.out.keep b2)
  clear b2 X1 c0 c1 c2 c3
  go_wp2
  go_ret
  exact Ret.mk rfl X2.out.below

set_option maxHeartbeats 1000000 in
theorem refOpen_4_11 (W H T i j s d lo hi : Int) (A : Option Addr) (n k : Nat) (w : World) (hs : hi - lo = s) (l0 : 0 ≤ lo) (l1 : lo ≤ 255) (m0 : 0 ≤ hi) (m1 : hi ≤ 255)
    (C1 : Hid (∀ u, Below w.heap.size w u → Calls Try.prog 24 #[.agg #[.int .i64 W, .int .i64 H, .int .i64 T, .slice A n k], .int .i64 i, .int .i64 j] u (Ret (.tuple #[.int .i64 lo, .int .i64 hi]) u)))
    (C2 : Hid (∀ u, Below w.heap.size w u → Calls Try.prog 25 #[.agg #[.int .i64 W, .int .i64 H, .int .i64 T, .slice A n k], .int .i64 i, .int .i64 j] u (Ret (.int .i64 d) u))) (ha : decide (s ≤ 20) = false) :
    Calls Try.prog 13 #[.agg #[.int .i64 W, .int .i64 H, .int .i64 T, .slice A n k], .int .i64 4, .int .i64 i, .int .i64 j] w (Ret (.bool false) w) := by
  have HX := Lib.hid (Bx.new w (.int .i64 W) (.int .i64 H) (.int .i64 T) (.slice A n k) 25)
  go_enter Try.func13, Try.ntmps13
  go_wp2_with fail
  refine (C1.out _ HX.out.below).mono ?_
  rintro e w1 ⟨rfl, b1⟩
  have X1 := Lib.hid (HX.out.keep b1)
  clear b1
  obtain ⟨-, c0, c1, c2, c3, -, -, -, -, -⟩ := X1.out
  go_wp2_with fail
  refine (C2.out _ X1.out.below).mono ?_
  rintro e w2 ⟨rfl, b2⟩
  have X2 := Lib.hid (X1.out.keep b2)
  clear b2 X1 c0 c1 c2 c3
  go_wp2
  go_ret
  exact Ret.mk rfl X2.out.below

set_option maxHeartbeats 1000000 in
theorem refOpen_5_12 (W H T i j s d lo hi : Int) (A : Option Addr) (n k : Nat) (w : World) (hs : hi - lo = s) (l0 : 0 ≤ lo) (l1 : lo ≤ 255) (m0 : 0 ≤ hi) (m1 : hi ≤ 255)
    (C1 : Hid (∀ u, Below w.heap.size w u → Calls Try.prog 24 #[.agg #[.int .i64 W, .int .i64 H, .int .i64 T, .slice A n k], .int .i64 i, .int .i64 j] u (Ret (.tuple #[.int .i64 lo, .int .i64 hi]) u)))
    (C2 : Hid (∀ u, Below w.heap.size w u → Calls Try.prog 25 #[.agg #[.int .i64 W, .int .i64 H, .int .i64 T, .slice A n k], .int .i64 i, .int .i64 j] u (Ret (.int .i64 d) u))) :
    Calls Try.prog 13 #[.agg #[.int .i64 W, .int .i64 H, .int .i64 T, .slice A n k], .int .i64 5, .int .i64 i, .int .i64 j] w (Ret (.bool true) w) := by
  have HX := Lib.hid (Bx.new w (.int .i64 W) (.int .i64 H) (.int .i64 T) (.slice A n k) 25)
  go_enter Try.func13, Try.ntmps13
  go_wp2_with fail
  refine (C1.out _ HX.out.below).mono ?_
  rintro e w1 ⟨rfl, b1⟩
  have X1 := Lib.hid (HX.out.keep b1)
  clear b1
  obtain ⟨-, c0, c1, c2, c3, -, -, -, -, -⟩ := X1.out
  go_wp2_with fail
  refine (C2.out _ X1.out.below).mono ?_
  rintro e w2 ⟨rfl, b2⟩
  have X2 := Lib.hid (X1.out.keep b2)
  clear b2 X1 c0 c1 c2 c3
  go_wp2
  go_ret
  exact Ret.mk rfl X2.out.below


theorem refOpen_any (W H T c i j : Int) (A : Option Addr) (n k : Nat) (p : Nat → Nat) (w : World) (hb : Bs w A n p) (hp : ∀ i, p i < 256) (hv : Val W H T n) (hc : Cls c) (i0 : 0 ≤ i) (i1 : i < W) (j0 : 0 ≤ j) (j1 : j < H) :
    Calls Try.prog 13 #[.agg #[.int .i64 W, .int .i64 H, .int .i64 T, .slice A n k], .int .i64 c, .int .i64 i, .int .i64 j] w (Ret (.bool (opAt p W T c i j)) w) := by
  have C1 : Hid (∀ u, Below w.heap.size w u → Calls Try.prog 24 #[.agg #[.int .i64 W, .int .i64 H, .int .i64 T, .slice A n k], .int .i64 i, .int .i64 j] u (Ret (.tuple #[.int .i64 (cLo p W i j), .int .i64 (cHi p W i j)]) u)) :=
    fun u hu => refEnds_any W H T i j A n k p u (hb.keep hu) hp hv i0 i1 j0 j1
  have C2 : Hid (∀ u, Below w.heap.size w u → Calls Try.prog 25 #[.agg #[.int .i64 W, .int .i64 H, .int .i64 T, .slice A n k], .int .i64 i, .int .i64 j] u (Ret (.int .i64 (dep p W T i j)) u)) :=
    fun u hu => refDepth_any W H T i j A n k p u (hb.keep hu) hp hv i0 i1 j0 j1
  obtain ⟨l0, l1⟩ := cLo_bd hp W i j
  obtain ⟨m0, m1⟩ := cHi_bd hp W i j
  unfold opAt
  generalize dep p W T i j = d at *
  generalize cLo p W i j = lo at *
  generalize cHi p W i j = hi at *
  obtain ⟨s, hs⟩ : ∃ s, hi - lo = s := ⟨_, rfl⟩
  rw [hs]
  rcases hc.six with h | h | h | h | h | h <;> subst h
  · by_cases ha : s ≤ 24
    · by_cases hb : d ≤ 12
      · have e : opn 0 s d = true := by simp [opn, ha, hb]
        rw [e]
        exact refOpen_0_0 W H T i j s d lo hi A n k w hs l0 l1 m0 m1 C1 C2 ha hb
      · have e : opn 0 s d = false := by simp [opn, ha, hb]
        rw [e]
        exact refOpen_0_1 W H T i j s d lo hi A n k w hs l0 l1 m0 m1 C1 C2 ha (by simp; omega)
    · have e : opn 0 s d = false := by simp [opn, ha]
      rw [e]
      exact refOpen_0_2 W H T i j s d lo hi A n k w hs l0 l1 m0 m1 C1 C2 (by simp; omega)
  · by_cases ha : 0 < d
    · have e : opn 1 s d = true := by simp [opn, ha]
      rw [e]
      exact refOpen_1_3 W H T i j s d lo hi A n k w hs l0 l1 m0 m1 C1 C2 ha
    · by_cases hb : s ≤ 16
      · have e : opn 1 s d = true := by simp [opn, ha, hb]
        rw [e]
        exact refOpen_1_4 W H T i j s d lo hi A n k w hs l0 l1 m0 m1 C1 C2 (by simp; omega) hb
      · have e : opn 1 s d = false := by simp [opn, ha, hb]
        rw [e]
        exact refOpen_1_5 W H T i j s d lo hi A n k w hs l0 l1 m0 m1 C1 C2 (by simp; omega) (by simp; omega)
  · by_cases ha : 16 ≤ d
    · have e : opn 2 s d = true := by simp [opn, ha]
      rw [e]
      exact refOpen_2_6 W H T i j s d lo hi A n k w hs l0 l1 m0 m1 C1 C2 ha
    · have e : opn 2 s d = false := by simp [opn, ha]
      rw [e]
      exact refOpen_2_7 W H T i j s d lo hi A n k w hs l0 l1 m0 m1 C1 C2 (by simp; omega)
  · by_cases ha : 24 ≤ d
    · have e : opn 3 s d = true := by simp [opn, ha]
      rw [e]
      exact refOpen_3_8 W H T i j s d lo hi A n k w hs l0 l1 m0 m1 C1 C2 ha
    · have e : opn 3 s d = false := by simp [opn, ha]
      rw [e]
      exact refOpen_3_9 W H T i j s d lo hi A n k w hs l0 l1 m0 m1 C1 C2 (by simp; omega)
  · by_cases ha : s ≤ 20
    · have e : opn 4 s d = true := by simp [opn, ha]
      rw [e]
      exact refOpen_4_10 W H T i j s d lo hi A n k w hs l0 l1 m0 m1 C1 C2 ha
    · have e : opn 4 s d = false := by simp [opn, ha]
      rw [e]
      exact refOpen_4_11 W H T i j s d lo hi A n k w hs l0 l1 m0 m1 C1 C2 (by simp; omega)
  · have e : opn 5 s d = true := by simp [opn]
    rw [e]
    exact refOpen_5_12 W H T i j s d lo hi A n k w hs l0 l1 m0 m1 C1 C2 

end Go.Proofs.Ytoikahdffpadoaa
