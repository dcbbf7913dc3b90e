/- The walk of NumMuls. -/
import Derived.Test.YtcnjapajhchfkaaAwake
import Derived.Test.YtcnjapajhchfkaaLawIs
import Derived.Test.YtcnjapajhchfkaaBig8
namespace Go.Proofs.Ytcnjapajhchfkaa
open Go.RowKit
set_option linter.unusedVariables false

theorem small_mul {a b : Int} (ha : -9223372036854775808 ≤ a) (ha' : a ≤ 9223372036854775807) (hb : -9223372036854775808 ≤ b) (hb' : b ≤ 9223372036854775807) : Small (a * b) := by
  unfold Small
  rw [Int.natAbs_mul]
  have h1 : a.natAbs ≤ 9223372036854775808 := by omega
  have h2 : b.natAbs ≤ 9223372036854775808 := by omega
  exact Nat.lt_of_le_of_lt (Nat.mul_le_mul h1 h2) (by decide)

set_option maxHeartbeats 1000000 in
theorem walk_NumMuls (a b : Int) (h0 : (Lit.int .i64 a).wf = true) (h1 : (Lit.int .i64 b).wf = true) (w : World) :
    Calls Try.prog 5 #[.int .i64 a, .int .i64 b] w (Ret (.bool true) w) := by
  obtain ⟨ha, ha'⟩ := wf_fit h0
  obtain ⟨hb, hb'⟩ := wf_fit h1
  clear h0 h1
  have SA := Lib.hid (small64 ha ha')
  have SB := Lib.hid (small64 hb hb')
  have SS := Lib.hid (small_mul ha ha' hb hb')
  go_enter Try.func5, Try.ntmps5
  go_wp2_with fail
  refine (mul_any _ _ _ ha ha' hb hb').mono ?_
  rintro e w2 ⟨rfl, c2⟩
  go_wp2_with fail
  refine (of_any _ _ ha ha').mono ?_
  rintro e w3 ⟨v3, rfl, hv3, b3⟩
  have HV3 := Lib.hid hv3
  clear hv3
  go_wp2_with fail
  refine (of_any _ _ hb hb').mono ?_
  rintro e w4 ⟨v4, rfl, hv4, b4⟩
  have HV4 := Lib.hid hv4
  clear hv4
  go_wp2_with fail
  refine (mulB_any v3 v4 a b _ (HV3.out.keep b4) HV4.out SA.out SB.out SS.out).mono ?_
  rintro e w5 ⟨v5, rfl, hv5, b5⟩
  have HV5 := Lib.hid hv5
  clear hv5
  go_wp2_with fail
  refine (is_true v5 (a * b) _ HV5.out SS.out).mono ?_
  rintro e w6 ⟨rfl, b6⟩
  have c3 := c2.trans (b3.mono c2.size)
  have c4 := c3.trans (b4.mono c3.size)
  have c5 := c4.trans (b5.mono c4.size)
  have c6 := c5.trans (b6.mono c5.size)
  clear c2 c3 c4 c5 b3 b4 b5 b6
  go_wp2_with fail
  refine (awake_any _).mono ?_
  rintro e w11 ⟨rfl, b11⟩
  go_wp2
  go_ret
  exact Ret.mk rfl (c6.trans (b11.mono c6.size))

end Go.Proofs.Ytcnjapajhchfkaa
