/- The walk of FixParts. -/
import Derived.Test.YtnneinjmdkoopaaAwake2
import Derived.Test.YtnneinjmdkoopaaRefFloor
namespace Go.Proofs.Ytnneinjmdkoopaa
open Go.RowKit
set_option linter.unusedVariables false

set_option maxHeartbeats 1000000 in
theorem walk_FixParts (a : Int) (h0 : (Lit.int .i64 a).wf = true) (w : World) :
    Calls Try.prog 7 #[.int .i64 a] w (Ret (.bool true) w) := by
  obtain ⟨ha, ha'⟩ := wfI h0
  clear h0
  have q0 : -9223372036854775808 ≤ a / 65536 := by omega
  have q1 : a / 65536 ≤ 9223372036854775807 := by omega
  have m0 : 0 ≤ a % 65536 := by omega
  have m1 : a % 65536 < 65536 := by omega
  have HS : Hid (a / 65536 * 65536 + a % 65536 = a) := by show _ = a; omega
  have SQ := Lib.hid (small64 q0 q1)
  have S6 : Hid (Small 65536) := small64 (by decide) (by decide)
  have SM : Hid (Small (a % 65536)) := small64 (by omega) (by omega)
  have SP : Hid (Small (a / 65536 * 65536)) := by
    show Small _
    unfold Small
    have h : (a / 65536 * 65536).natAbs ≤ 9223372036854775808 := by omega
    exact Nat.lt_of_le_of_lt h (by decide)
  have SA := Lib.hid (small64 ha ha')
  have HC : Hid ((cmpZ a a == 0) = true) := by show (cmpZ a a == 0) = true; unfold cmpZ; simp
  go_enter Try.func7, Try.ntmps7
  go_wp2_with fail
  refine (whole_any _ _).mono ?_
  rintro e w1 ⟨rfl, b1⟩
  go_wp2_with fail
  refine (part_any _ _).mono ?_
  rintro e w2 ⟨rfl, b2⟩
  have c2 := b1.trans (b2.mono b1.size)
  clear b1 b2
  generalize a / 65536 = q at *
  generalize a % 65536 = m at *
  go_wp2_with fail
  refine (of_any _ _ q0 q1).mono ?_
  rintro e w3 ⟨v3, rfl, hv3, b3⟩
  have HV3 := Lib.hid hv3
  clear hv3
  go_wp2_with fail
  refine (of_any _ _ (by omega) (by omega)).mono ?_
  rintro e w4 ⟨v4, rfl, hv4, b4⟩
  have HV4 := Lib.hid hv4
  clear hv4
  go_wp2_with fail
  refine (mulB_any v3 v4 q 65536 _ (HV3.out.keep b4) HV4.out SQ.out S6.out SP.out).mono ?_
  rintro e w5 ⟨v5, rfl, hv5, b5⟩
  have HV5 := Lib.hid hv5
  clear hv5
  go_wp2_with fail
  refine (of_any m _ (by omega) (by omega)).mono ?_
  rintro e w6 ⟨v6, rfl, hv6, b6⟩
  have HV6 := Lib.hid hv6
  clear hv6
  go_wp2_with fail
  refine (addB_any v5 v6 (q * 65536) m _ (HV5.out.keep b6) HV6.out SP.out SM.out).mono ?_
  rw [HS.out]
  rintro e w7 ⟨v7, rfl, hv7, b7⟩
  obtain ⟨A, ca, na, nx, rfl, _, _, _, HV⟩ := hv7.letters
  clear hv7
  have c3 := c2.trans (b3.mono c2.size)
  have c4 := c3.trans (b4.mono c3.size)
  have c5 := c4.trans (b5.mono c4.size)
  have c6 := c5.trans (b6.mono c5.size)
  have c7 := Lib.hid (c6.trans (b7.mono c6.size))
  clear c2 c3 c4 c5 c6 b3 b4 b5 b6 b7
  go_wp2_with fail
  refine (is_any _ a a _ (HV.out _ ((Below.refl _ _).alloc (Nat.le_refl _) _)) SA.out ha ha').mono ?_
  rw [HC.out]
  rintro e w8 ⟨rfl, b8⟩
  have c8 := c7.out.trans (((Below.refl _ _).alloc (Nat.le_refl _) _ |>.trans (b8.mono (by simp))).mono c7.out.size)
  clear b8
  go_wp2_with fail
  refine (awake2_any _).mono ?_
  rintro e w9 ⟨rfl, b9⟩
  have HB : Hid (Below w.heap.size w w9) := c8.trans (b9.mono c8.size)
  clear c8 b9
  go_wp2
  go_ret
  exact Ret.mk rfl HB.out

end Go.Proofs.Ytnneinjmdkoopaa
