/- The walk of FixRoots. -/
import Derived.Test.YtnneinjmdkoopaaAwake2
namespace Go.Proofs.Ytnneinjmdkoopaa
open Go.RowKit
set_option linter.unusedVariables false

set_option maxHeartbeats 1000000 in
theorem roots_neg (n a : Int) (w : World) (h0 : 0 ≤ n) (h1 : n ≤ 18446744073709551615) (h : a < 0) :
    Calls Try.prog 8 #[.int .u64 n, .int .i64 a] w (Ret (.bool true) w) := by
  go_enter Try.func8, Try.ntmps8
  go_wp2_with fail
  refine (fixRoot_any _ _ h0 h1).mono ?_
  rintro e w1 ⟨r, hr, rfl, _, rfl⟩
  have HR := Lib.hid hr
  clear hr
  go_wp2_with fail
  refine (root_any _ _ h0 h1).mono ?_
  rintro e w2 ⟨s, hs, rfl, _, rfl⟩
  obtain rfl : r = s := HR.out.same hs
  clear hs
  go_wp2_with fail
  refine (sqrt_neg _ _ h).mono ?_
  rintro e w3 ⟨rfl, b3⟩
  go_wp2_with fail
  refine (awake2_any _).mono ?_
  rintro e w4 ⟨rfl, b4⟩
  have HB : Hid (Below w.heap.size w w4) := b3.trans (b4.mono b3.size)
  clear b3 b4
  go_wp2
  go_ret
  exact Ret.mk rfl HB.out

set_option maxHeartbeats 1000000 in
theorem roots_over (n a : Int) (w : World) (h0 : 0 ≤ n) (h1 : n ≤ 18446744073709551615) (h' : ¬ a < 0) (h : 70368744177664 ≤ a) :
    Calls Try.prog 8 #[.int .u64 n, .int .i64 a] w (Ret (.bool true) w) := by
  go_enter Try.func8, Try.ntmps8
  go_wp2_with fail
  refine (fixRoot_any _ _ h0 h1).mono ?_
  rintro e w1 ⟨r, hr, rfl, _, rfl⟩
  have HR := Lib.hid hr
  clear hr
  go_wp2_with fail
  refine (root_any _ _ h0 h1).mono ?_
  rintro e w2 ⟨s, hs, rfl, _, rfl⟩
  obtain rfl : r = s := HR.out.same hs
  clear hs
  go_wp2_with fail
  refine (sqrt_over _ _ h).mono ?_
  rintro e w3 ⟨rfl, b3⟩
  go_wp2_with fail
  refine (awake2_any _).mono ?_
  rintro e w4 ⟨rfl, b4⟩
  have HB : Hid (Below w.heap.size w w4) := b3.trans (b4.mono b3.size)
  clear b3 b4
  go_wp2
  go_ret
  exact Ret.mk rfl HB.out

set_option maxHeartbeats 1000000 in
theorem roots_in (n a : Int) (w : World) (h0 : 0 ≤ n) (h1 : n ≤ 18446744073709551615) (h' : ¬ a < 0) (h : a < 70368744177664) :
    Calls Try.prog 8 #[.int .u64 n, .int .i64 a] w (Ret (.bool true) w) := by
  go_enter Try.func8, Try.ntmps8
  go_wp2_with fail
  refine (fixRoot_any _ _ h0 h1).mono ?_
  rintro e w1 ⟨r, hr, rfl, _, rfl⟩
  have HR := Lib.hid hr
  clear hr
  go_wp2_with fail
  refine (root_any _ _ h0 h1).mono ?_
  rintro e w2 ⟨s, hs, rfl, _, rfl⟩
  obtain rfl : r = s := HR.out.same hs
  clear hs
  go_wp2_with fail
  refine (sqrt_in _ _ (by omega) h).mono ?_
  rintro e w3 ⟨q, hq, rfl, hq2, rfl⟩
  have hq0 := hq.pos
  have HQ := Lib.hid hq
  clear hq
  go_wp2_with fail
  refine (root_any (a * 65536) _ (by omega) (by omega)).mono ?_
  rintro e w3 ⟨p, hp, rfl, hp2, rfl⟩
  obtain rfl : q = p := HQ.out.same hp
  clear hp
  go_wp2_with fail
  refine (awake2_any _).mono ?_
  rintro e w4 ⟨rfl, b4⟩
  have HB := Lib.hid b4
  clear b4
  go_wp2
  go_ret
  exact Ret.mk rfl HB.out

theorem walk_FixRoots (n a : Int) (h0 : (Lit.int .u64 n).wf = true) (h1 : (Lit.int .i64 a).wf = true) (w : World) :
    Calls Try.prog 8 #[.int .u64 n, .int .i64 a] w (Ret (.bool true) w) := by
  obtain ⟨g0, g1⟩ := wfU h0
  by_cases h : a < 0
  · exact roots_neg n a w g0 g1 h
  · by_cases h2 : a < 70368744177664
    · exact roots_in n a w g0 g1 h h2
    · exact roots_over n a w g0 g1 h (by omega)

end Go.Proofs.Ytnneinjmdkoopaa
