/- The walk of NumAdds. -/
import Derived.Test.YtcnjapajhchfkaaAwake
import Derived.Test.YtcnjapajhchfkaaLawIs
namespace Go.Proofs.Ytcnjapajhchfkaa
open Go.RowKit
set_option linter.unusedVariables false

theorem small_sum {a b : Int} (ha : -9223372036854775808 ≤ a) (ha' : a ≤ 9223372036854775807) (hb : -9223372036854775808 ≤ b) (hb' : b ≤ 9223372036854775807) : Small (a + b) ∧ Small (a - b) := by
  unfold Small
  have h1 : (a + b).natAbs ≤ 18446744073709551616 := by omega
  have h2 : (a - b).natAbs ≤ 18446744073709551616 := by omega
  exact ⟨Nat.lt_of_le_of_lt h1 (by decide), Nat.lt_of_le_of_lt h2 (by decide)⟩

set_option maxHeartbeats 1000000 in
theorem walk_NumAdds (a b : Int) (h0 : (Lit.int .i64 a).wf = true) (h1 : (Lit.int .i64 b).wf = true) (w : World) :
    Calls Try.prog 4 #[.int .i64 a, .int .i64 b] w (Ret (.bool true) w) := by
  obtain ⟨ha, ha'⟩ := wf_fit h0
  obtain ⟨hb, hb'⟩ := wf_fit h1
  clear h0 h1
  have SA := Lib.hid (small64 ha ha')
  have SB := Lib.hid (small64 hb hb')
  have SS := Lib.hid (small_sum ha ha' hb hb')
  go_enter Try.func4, Try.ntmps4
  go_wp2_with fail
  refine (add_any _ _ _ ha ha' hb hb').mono ?_
  rintro e w1 ⟨rfl, b1⟩
  go_wp2_with fail
  refine (sub_any _ _ _ ha ha' hb hb').mono ?_
  rintro e w2 ⟨rfl, b2⟩
  have c2 := b1.trans (b2.mono b1.size)
  clear b1 b2
  go_wp2_with fail
  refine (of_any _ _ ha ha').mono ?_
  rintro e w3 ⟨v3, rfl, hv3, b3⟩
  have HV3 := Lib.hid hv3
  clear hv3
  go_wp2_with fail
  refine (of_any _ _ hb hb').mono ?_
  rintro e w4 ⟨v4, rfl, hv4, b4⟩
  have HV4 := Lib.hid hv4
  clear hv4
  go_wp2_with fail
  refine (addB_any v3 v4 a b _ (HV3.out.keep b4) HV4.out SA.out SB.out).mono ?_
  rintro e w5 ⟨v5, rfl, hv5, b5⟩
  have HV5 := Lib.hid hv5
  clear hv5
  go_wp2_with fail
  refine (is_true v5 (a + b) _ HV5.out SS.out.1).mono ?_
  rintro e w6 ⟨rfl, b6⟩
  have c3 := c2.trans (b3.mono c2.size)
  have c4 := c3.trans (b4.mono c3.size)
  have c5 := c4.trans (b5.mono c4.size)
  have c6 := c5.trans (b6.mono c5.size)
  clear c2 c3 c4 c5 b3 b4 b5 b6
  go_wp2_with fail
  refine (of_any _ _ ha ha').mono ?_
  rintro e w7 ⟨v7, rfl, hv7, b7⟩
  have HV7 := Lib.hid hv7
  clear hv7
  go_wp2_with fail
  refine (of_any _ _ hb hb').mono ?_
  rintro e w8 ⟨v8, rfl, hv8, b8⟩
  have HV8 := Lib.hid hv8
  clear hv8
  go_wp2_with fail
  refine (subB_any v7 v8 a b _ (HV7.out.keep b8) HV8.out SA.out SB.out).mono ?_
  rintro e w9 ⟨v9, rfl, hv9, b9⟩
  have HV9 := Lib.hid hv9
  clear hv9
  go_wp2_with fail
  refine (is_true v9 (a - b) _ HV9.out SS.out.2).mono ?_
  rintro e w10 ⟨rfl, b10⟩
  have c7 := c6.trans (b7.mono c6.size)
  have c8 := c7.trans (b8.mono c7.size)
  have c9 := c8.trans (b9.mono c8.size)
  have c10 := c9.trans (b10.mono c9.size)
  clear c6 c7 c8 c9 b7 b8 b9 b10
  go_wp2_with fail
  refine (awake_any _).mono ?_
  rintro e w11 ⟨rfl, b11⟩
  go_wp2
  go_ret
  exact Ret.mk rfl (c10.trans (b11.mono c10.size))

end Go.Proofs.Ytcnjapajhchfkaa
