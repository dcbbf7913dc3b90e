/- The walk of NumScales. -/
import Derived.Test.YtcnjapajhchfkaaAwake
import Derived.Test.YtcnjapajhchfkaaLawQuot
namespace Go.Proofs.Ytcnjapajhchfkaa
open Go.RowKit
set_option linter.unusedVariables false

theorem wf_fit3 {a : Int} (h : (Lit.int .i64 a).wf = true) : -9223372036854775808 ≤ a ∧ a ≤ 9223372036854775807 := by
  simpa [Lit.wf, IntKind.min, IntKind.max, IntKind.signed, IntKind.bits] using h
theorem prod_mul {a b : Int} (ha : -9223372036854775808 ≤ a) (ha' : a ≤ 9223372036854775807) (hb : -9223372036854775808 ≤ b) (hb' : b ≤ 9223372036854775807) : Prod (a * b) := by
  unfold Prod
  rw [Int.natAbs_mul]
  have h1 : a.natAbs ≤ 9223372036854775808 := by omega
  have h2 : b.natAbs ≤ 9223372036854775808 := by omega
  exact Nat.le_trans (Nat.mul_le_mul h1 h2) (by decide)
theorem word64 {a : Int} (ha : -9223372036854775808 ≤ a) (ha' : a ≤ 9223372036854775807) : Word a := by
  unfold Word
  omega

set_option maxHeartbeats 1000000 in
theorem walk_NumScales (a b c : Int) (h0 : (Lit.int .i64 a).wf = true) (h1 : (Lit.int .i64 b).wf = true) (h2 : (Lit.int .i64 c).wf = true) (w : World) :
    Calls Try.prog 7 #[.int .i64 a, .int .i64 b, .int .i64 c] w (Ret (.bool true) w) := by
  obtain ⟨ha, ha'⟩ := wf_fit3 h0
  obtain ⟨hb, hb'⟩ := wf_fit3 h1
  obtain ⟨hc, hc'⟩ := wf_fit3 h2
  clear h0 h1 h2
  have SA := Lib.hid (small64 ha ha')
  have SB := Lib.hid (small64 hb hb')
  have SP := Lib.hid (prod_mul ha ha' hb hb')
  have SW := Lib.hid (word64 hc hc')
  go_enter Try.func7, Try.ntmps7
  go_wp2_with fail
  refine (muldiv_any _ _ _ _ ha ha' hb hb' hc hc').mono ?_
  rintro e w2 ⟨rfl, c2⟩
  go_wp2_with fail
  refine (of_any _ _ ha ha').mono ?_
  rintro e w3 ⟨v3, rfl, hv3, b3⟩
  have HV3 := Lib.hid hv3
  clear hv3
  go_wp2_with fail
  refine (of_any _ _ hb hb').mono ?_
  rintro e w4 ⟨v4, rfl, hv4, b4⟩
  have HV4 := Lib.hid hv4
  clear hv4
  go_wp2_with fail
  refine (mulB_any v3 v4 a b _ (HV3.out.keep b4) HV4.out SA.out SB.out (small_prod SP.out)).mono ?_
  rintro e w5 ⟨v5, rfl, hv5, b5⟩
  have HV5 := Lib.hid hv5
  clear hv5
  go_wp2_with fail
  refine (of_any _ _ hc hc').mono ?_
  rintro e w6 ⟨v6, rfl, hv6, b6⟩
  have HV6 := Lib.hid hv6
  clear hv6
  go_wp2_with fail
  refine (quot_true v5 v6 (a * b) c _ (HV5.out.keep b6) HV6.out SP.out SW.out).mono ?_
  rintro e w7 ⟨rfl, b7⟩
  have c3 := c2.trans (b3.mono c2.size)
  have c4 := c3.trans (b4.mono c3.size)
  have c5 := c4.trans (b5.mono c4.size)
  have c6 := c5.trans (b6.mono c5.size)
  have c7 := c6.trans (b7.mono c6.size)
  clear c2 c3 c4 c5 c6 b3 b4 b5 b6 b7
  go_wp2_with fail
  refine (awake_any _).mono ?_
  rintro e w11 ⟨rfl, b11⟩
  go_wp2
  go_ret
  exact Ret.mk rfl (c7.trans (b11.mono c7.size))

end Go.Proofs.Ytcnjapajhchfkaa
