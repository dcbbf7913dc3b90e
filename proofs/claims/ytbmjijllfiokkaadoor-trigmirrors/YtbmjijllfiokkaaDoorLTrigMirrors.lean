/- The walk of the law TrigMirrors. -/
import Derived.Test.YtbmjijllfiokkaaDoorAwake3
namespace Go.Proofs.YtbmjijllfiokkaaDoor
open Go.RowKit
set_option linter.unusedVariables false

set_option maxHeartbeats 1000000 in
theorem walk_TrigMirrors (a : Int) (h0 : (Lit.int .i64 a).wf = true) (w : World) (hT : Tab w) :
    Calls Tryd.prog 4 #[.int .i64 a] w (Ret (.bool true) w) := by
  obtain ⟨ha, ha'⟩ := wfI3 h0
  have HT := Lib.hid hT
  clear hT h0
  have E1 := Lib.hid (sn_half a (a % 65536 + 32768) (by omega))
  have E2 : Hid (cs (a % 65536 + 32768) = -cs a) := sn_half (a % 65536 + 16384) ((a % 65536 + 32768) % 65536 + 16384) (by omega)
  have E3 : Hid (sn (a % 65536 + 16384) = cs a) := rfl
  have E4 : Hid (cs (a % 65536 + 16384) = -sn a) := sn_half a ((a % 65536 + 16384) % 65536 + 16384) (by omega)
  have E5 := Lib.hid (sn_mirror a (32768 - a % 65536) (by omega))
  obtain ⟨s0, s1⟩ := sn_range a
  obtain ⟨c0, c1⟩ := cs_range a
  have n0 : 0 ≤ a % 65536 := by omega
  have n1 : a % 65536 < 65536 := by omega
  go_enter Tryd.func4, Tryd.ntmps4
  go_wp2_with fail
  refine (norm_any a _ ha ha').mono ?_
  rintro e w1 ⟨rfl, b1⟩
  have B1 := Lib.hid b1
  clear b1
  generalize a % 65536 = n at *
  go_wp2_with fail
  refine (sin_any a _ (HT.out.keep B1.out) ha ha').mono ?_
  rintro e w2 ⟨rfl, b2⟩
  have B2 := Lib.hid (B1.out.trans (b2.mono B1.out.size))
  clear b2
  go_wp2_with fail
  refine (cos_any a _ (HT.out.keep B2.out) ha ha').mono ?_
  rintro e w3 ⟨rfl, b3⟩
  have B3 := Lib.hid (B2.out.trans (b3.mono B2.out.size))
  clear b3
  generalize sn a = S at *
  generalize cs a = C at *
  go_wp2_with fail
  refine (sin_any (n + 32768) _ (HT.out.keep B3.out) (by omega) (by omega)).mono ?_
  rw [E1.out]
  rintro e w4 ⟨rfl, b4⟩
  have B4 := Lib.hid (B3.out.trans (b4.mono B3.out.size))
  clear b4
  go_wp2_with fail
  refine (cos_any (n + 32768) _ (HT.out.keep B4.out) (by omega) (by omega)).mono ?_
  rw [E2.out]
  rintro e w5 ⟨rfl, b5⟩
  have B5 := Lib.hid (B4.out.trans (b5.mono B4.out.size))
  clear b5
  go_wp2_with fail
  refine (sin_any (n + 16384) _ (HT.out.keep B5.out) (by omega) (by omega)).mono ?_
  rw [E3.out]
  rintro e w6 ⟨rfl, b6⟩
  have B6 := Lib.hid (B5.out.trans (b6.mono B5.out.size))
  clear b6
  go_wp2_with fail
  refine (cos_any (n + 16384) _ (HT.out.keep B6.out) (by omega) (by omega)).mono ?_
  rw [E4.out]
  rintro e w7 ⟨rfl, b7⟩
  have B7 := Lib.hid (B6.out.trans (b7.mono B6.out.size))
  clear b7
  go_wp2_with fail
  refine (sin_any (32768 - n) _ (HT.out.keep B7.out) (by omega) (by omega)).mono ?_
  rw [E5.out]
  rintro e w8 ⟨rfl, b8⟩
  have B8 := Lib.hid (B7.out.trans (b8.mono B7.out.size))
  clear b8
  go_wp2_with fail
  refine (awake3_any _ (HT.out.keep B8.out)).mono ?_
  rintro e w9 ⟨rfl, b9⟩
  have B9 := Lib.hid (B8.out.trans (b9.mono B8.out.size))
  clear b9
  go_wp2
  go_ret
  exact Ret.mk rfl B9.out

end Go.Proofs.YtbmjijllfiokkaaDoor
