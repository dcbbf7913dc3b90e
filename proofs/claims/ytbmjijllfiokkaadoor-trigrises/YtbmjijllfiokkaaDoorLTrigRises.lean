/- The walk of the law TrigRises. -/
import Derived.Test.YtbmjijllfiokkaaDoorAwake3
namespace Go.Proofs.YtbmjijllfiokkaaDoor
open Go.RowKit
set_option linter.unusedVariables false

set_option maxHeartbeats 1000000 in
theorem rises_plain (a b : Int) (w : World) (hT : Tab w) (ha : -9223372036854775808 ≤ a) (ha' : a ≤ 9223372036854775807) (hb : -9223372036854775808 ≤ b) (hb' : b ≤ 9223372036854775807) (hc : ¬ b % 65536 % 16385 < a % 65536 % 16385) :
    Calls Tryd.prog 5 #[.int .i64 a, .int .i64 b] w (Ret (.bool true) w) := by
  have HT := Lib.hid hT
  clear hT
  obtain ⟨r0, r1⟩ := sn_rise (x := (a % 65536 % 16385)) (y := (b % 65536 % 16385)) (by omega) (by omega) (by omega)
  have r2 := cs_fall (x := (a % 65536 % 16385)) (y := (b % 65536 % 16385)) (by omega) (by omega) (by omega)
  have n0 : 0 ≤ a % 65536 := by omega
  have n1 : a % 65536 < 65536 := by omega
  have m0 : 0 ≤ b % 65536 := by omega
  have m1 : b % 65536 < 65536 := by omega
  generalize e1 : sn (a % 65536 % 16385) = S at *
  generalize e2 : sn (b % 65536 % 16385) = S' at *
  generalize e3 : cs (a % 65536 % 16385) = C at *
  generalize e4 : cs (b % 65536 % 16385) = C' at *
  have E1 := Lib.hid e1
  have E2 := Lib.hid e2
  have E3 := Lib.hid e3
  have E4 := Lib.hid e4
  clear e1 e2 e3 e4
  go_enter Tryd.func5, Tryd.ntmps5
  go_wp2_with fail
  refine (norm_any a _ ha ha').mono ?_
  rintro e w1 ⟨rfl, b1⟩
  have B1 := Lib.hid b1
  clear b1
  go_wp2_with fail
  refine (norm_any b _ hb hb').mono ?_
  rintro e w2 ⟨rfl, b2⟩
  have B2 := Lib.hid (B1.out.trans (b2.mono B1.out.size))
  clear b2
  generalize a % 65536 = p at *
  generalize b % 65536 = q at *
  go_wp2_with fail
  refine (sin_any (p % 16385) _ (HT.out.keep B2.out) (by omega) (by omega)).mono ?_
  rw [E1.out]
  rintro e w3 ⟨rfl, b3⟩
  have B3 := Lib.hid (B2.out.trans (b3.mono B2.out.size))
  clear b3
  go_wp2_with fail
  refine (sin_any (q % 16385) _ (HT.out.keep B3.out) (by omega) (by omega)).mono ?_
  rw [E2.out]
  rintro e w4 ⟨rfl, b4⟩
  have B4 := Lib.hid (B3.out.trans (b4.mono B3.out.size))
  clear b4
  go_wp2_with fail
  refine (cos_any (p % 16385) _ (HT.out.keep B4.out) (by omega) (by omega)).mono ?_
  rw [E3.out]
  rintro e w5 ⟨rfl, b5⟩
  have B5 := Lib.hid (B4.out.trans (b5.mono B4.out.size))
  clear b5
  go_wp2_with fail
  refine (cos_any (q % 16385) _ (HT.out.keep B5.out) (by omega) (by omega)).mono ?_
  rw [E4.out]
  rintro e w6 ⟨rfl, b6⟩
  have B6 := Lib.hid (B5.out.trans (b6.mono B5.out.size))
  clear b6
  go_wp2_with fail
  refine (sin_any (p % 16385) _ (HT.out.keep B6.out) (by omega) (by omega)).mono ?_
  rw [E1.out]
  rintro e w7 ⟨rfl, b7⟩
  have B7 := Lib.hid (B6.out.trans (b7.mono B6.out.size))
  clear b7
  go_wp2_with fail
  refine (awake3_any _ (HT.out.keep B7.out)).mono ?_
  rintro e w8 ⟨rfl, b8⟩
  have B8 := Lib.hid (B7.out.trans (b8.mono B7.out.size))
  clear b8
  go_wp2
  go_ret
  exact Ret.mk rfl B8.out

set_option maxHeartbeats 1000000 in
theorem rises_swapped (a b : Int) (w : World) (hT : Tab w) (ha : -9223372036854775808 ≤ a) (ha' : a ≤ 9223372036854775807) (hb : -9223372036854775808 ≤ b) (hb' : b ≤ 9223372036854775807) (hc : b % 65536 % 16385 < a % 65536 % 16385) :
    Calls Tryd.prog 5 #[.int .i64 a, .int .i64 b] w (Ret (.bool true) w) := by
  have HT := Lib.hid hT
  clear hT
  obtain ⟨r0, r1⟩ := sn_rise (x := (b % 65536 % 16385)) (y := (a % 65536 % 16385)) (by omega) (by omega) (by omega)
  have r2 := cs_fall (x := (b % 65536 % 16385)) (y := (a % 65536 % 16385)) (by omega) (by omega) (by omega)
  have n0 : 0 ≤ a % 65536 := by omega
  have n1 : a % 65536 < 65536 := by omega
  have m0 : 0 ≤ b % 65536 := by omega
  have m1 : b % 65536 < 65536 := by omega
  generalize e1 : sn (b % 65536 % 16385) = S at *
  generalize e2 : sn (a % 65536 % 16385) = S' at *
  generalize e3 : cs (b % 65536 % 16385) = C at *
  generalize e4 : cs (a % 65536 % 16385) = C' at *
  have E1 := Lib.hid e1
  have E2 := Lib.hid e2
  have E3 := Lib.hid e3
  have E4 := Lib.hid e4
  clear e1 e2 e3 e4
  go_enter Tryd.func5, Tryd.ntmps5
  go_wp2_with fail
  refine (norm_any a _ ha ha').mono ?_
  rintro e w1 ⟨rfl, b1⟩
  have B1 := Lib.hid b1
  clear b1
  go_wp2_with fail
  refine (norm_any b _ hb hb').mono ?_
  rintro e w2 ⟨rfl, b2⟩
  have B2 := Lib.hid (B1.out.trans (b2.mono B1.out.size))
  clear b2
  generalize a % 65536 = p at *
  generalize b % 65536 = q at *
  go_wp2_with fail
  refine (sin_any (q % 16385) _ (HT.out.keep B2.out) (by omega) (by omega)).mono ?_
  rw [E1.out]
  rintro e w3 ⟨rfl, b3⟩
  have B3 := Lib.hid (B2.out.trans (b3.mono B2.out.size))
  clear b3
  go_wp2_with fail
  refine (sin_any (p % 16385) _ (HT.out.keep B3.out) (by omega) (by omega)).mono ?_
  rw [E2.out]
  rintro e w4 ⟨rfl, b4⟩
  have B4 := Lib.hid (B3.out.trans (b4.mono B3.out.size))
  clear b4
  go_wp2_with fail
  refine (cos_any (q % 16385) _ (HT.out.keep B4.out) (by omega) (by omega)).mono ?_
  rw [E3.out]
  rintro e w5 ⟨rfl, b5⟩
  have B5 := Lib.hid (B4.out.trans (b5.mono B4.out.size))
  clear b5
  go_wp2_with fail
  refine (cos_any (p % 16385) _ (HT.out.keep B5.out) (by omega) (by omega)).mono ?_
  rw [E4.out]
  rintro e w6 ⟨rfl, b6⟩
  have B6 := Lib.hid (B5.out.trans (b6.mono B5.out.size))
  clear b6
  go_wp2_with fail
  refine (sin_any (q % 16385) _ (HT.out.keep B6.out) (by omega) (by omega)).mono ?_
  rw [E1.out]
  rintro e w7 ⟨rfl, b7⟩
  have B7 := Lib.hid (B6.out.trans (b7.mono B6.out.size))
  clear b7
  go_wp2_with fail
  refine (awake3_any _ (HT.out.keep B7.out)).mono ?_
  rintro e w8 ⟨rfl, b8⟩
  have B8 := Lib.hid (B7.out.trans (b8.mono B7.out.size))
  clear b8
  go_wp2
  go_ret
  exact Ret.mk rfl B8.out

theorem walk_TrigRises (a b : Int) (h0 : (Lit.int .i64 a).wf = true) (h1 : (Lit.int .i64 b).wf = true) (w : World) (hT : Tab w) :
    Calls Tryd.prog 5 #[.int .i64 a, .int .i64 b] w (Ret (.bool true) w) := by
  obtain ⟨ha, ha'⟩ := wfI3 h0
  obtain ⟨hb, hb'⟩ := wfI3 h1
  by_cases hc : b % 65536 % 16385 < a % 65536 % 16385
  · exact rises_swapped a b w hT ha ha' hb hb' hc
  · exact rises_plain a b w hT ha ha' hb hb' hc

end Go.Proofs.YtbmjijllfiokkaaDoor
