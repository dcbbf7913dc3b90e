/- The walk of NumBack. -/
import Derived.Test.YtcnjapajhchfkaaAwake
namespace Go.Proofs.Ytcnjapajhchfkaa
open Go.RowKit
set_option linter.unusedVariables false

theorem wf_bounds {a : Int} (h : (Lit.int .i64 a).wf = true) : -9223372036854775808 ≤ a ∧ a ≤ 9223372036854775807 := by
  simpa [Lit.wf, IntKind.min, IntKind.max, IntKind.signed, IntKind.bits] using h

theorem back_add (a b : Int) (ha : -9223372036854775808 ≤ a) (ha' : a ≤ 9223372036854775807) : rV (a + b - b) = a ∧ rE (a + b - b) = 0 := by
  rw [show a + b - b = a by omega]
  exact ⟨rV_in ⟨ha, ha'⟩, rE_in ⟨ha, ha'⟩⟩
theorem back_mul (a b : Int) (hb : b ≠ 0) (ha : -9223372036854775808 ≤ a) (ha' : a ≤ 9223372036854775807) : qV (a * b) b = a ∧ qE (a * b) b = 0 ∧ mV (a * b) b = 0 ∧ mE (a * b) b = 0 := by
  have e : (a * b).fdiv b = a := by rw [Int.mul_comm]; exact Int.mul_fdiv_cancel_left a hb
  have m : (a * b).fmod b = 0 := by
    have := Int.mul_fdiv_add_fmod (a * b) b
    rw [e] at this
    have e2 : a * b = b * a := Int.mul_comm _ _
    omega
  unfold qV qE mV mE
  simp only [if_neg hb, e, m]
  exact ⟨rV_in ⟨ha, ha'⟩, rE_in ⟨ha, ha'⟩, trivial, trivial⟩

set_option maxHeartbeats 1000000 in
theorem back_in_out (a b : Int) (w : World) (ha : -9223372036854775808 ≤ a) (ha' : a ≤ 9223372036854775807) (hb : -9223372036854775808 ≤ b) (hb' : b ≤ 9223372036854775807) (HF : Hid (Fit (a + b))) (HM : Hid (¬ Fit (a * b))) :
    Calls Try.prog 8 #[.int .i64 a, .int .i64 b] w (Ret (.bool true) w) := by
  go_enter Try.func8, Try.ntmps8
  go_wp2_with fail
  refine (add_any _ _ _ ha ha' hb hb').mono ?_
  rintro e w1 ⟨rfl, b1⟩
  rw [rV_in HF.out, rE_in HF.out]
  go_wp2_with fail
  refine (sub_any _ _ _ HF.out.1 HF.out.2 hb hb').mono ?_
  rintro e w2 ⟨rfl, b2⟩
  rw [(back_add a b ha ha').1, (back_add a b ha ha').2]
  have c2 := b1.trans (b2.mono b1.size)
  clear b1 b2
  go_wp2_with fail
  refine (mul_any _ _ _ ha ha' hb hb').mono ?_
  rintro e w3 ⟨rfl, b3⟩
  have c3 := c2.trans (b3.mono c2.size)
  clear b3 c2
  rw [rV_out HM.out, rE_out HM.out]
  go_wp2_with fail
  refine (awake_any _).mono ?_
  rintro e w6 ⟨rfl, b6⟩
  go_wp2
  go_ret
  exact Ret.mk rfl (c3.trans (b6.mono c3.size))

set_option maxHeartbeats 1000000 in
theorem back_in_zero (a b : Int) (w : World) (ha : -9223372036854775808 ≤ a) (ha' : a ≤ 9223372036854775807) (hb : -9223372036854775808 ≤ b) (hb' : b ≤ 9223372036854775807) (HF : Hid (Fit (a + b))) (HM : Hid (Fit (a * b))) (hz : (b != 0) = false) :
    Calls Try.prog 8 #[.int .i64 a, .int .i64 b] w (Ret (.bool true) w) := by
  go_enter Try.func8, Try.ntmps8
  go_wp2_with fail
  refine (add_any _ _ _ ha ha' hb hb').mono ?_
  rintro e w1 ⟨rfl, b1⟩
  rw [rV_in HF.out, rE_in HF.out]
  go_wp2_with fail
  refine (sub_any _ _ _ HF.out.1 HF.out.2 hb hb').mono ?_
  rintro e w2 ⟨rfl, b2⟩
  rw [(back_add a b ha ha').1, (back_add a b ha ha').2]
  have c2 := b1.trans (b2.mono b1.size)
  clear b1 b2
  go_wp2_with fail
  refine (mul_any _ _ _ ha ha' hb hb').mono ?_
  rintro e w3 ⟨rfl, b3⟩
  have c3 := c2.trans (b3.mono c2.size)
  clear b3 c2
  rw [rV_in HM.out, rE_in HM.out]
  go_wp2_with fail
  refine (awake_any _).mono ?_
  rintro e w6 ⟨rfl, b6⟩
  go_wp2
  go_ret
  exact Ret.mk rfl (c3.trans (b6.mono c3.size))

set_option maxHeartbeats 1000000 in
theorem back_in_in (a b : Int) (w : World) (ha : -9223372036854775808 ≤ a) (ha' : a ≤ 9223372036854775807) (hb : -9223372036854775808 ≤ b) (hb' : b ≤ 9223372036854775807) (HF : Hid (Fit (a + b))) (HM : Hid (Fit (a * b))) (HZ : Hid (b ≠ 0)) (hz : (b != 0) = true) :
    Calls Try.prog 8 #[.int .i64 a, .int .i64 b] w (Ret (.bool true) w) := by
  go_enter Try.func8, Try.ntmps8
  go_wp2_with fail
  refine (add_any _ _ _ ha ha' hb hb').mono ?_
  rintro e w1 ⟨rfl, b1⟩
  rw [rV_in HF.out, rE_in HF.out]
  go_wp2_with fail
  refine (sub_any _ _ _ HF.out.1 HF.out.2 hb hb').mono ?_
  rintro e w2 ⟨rfl, b2⟩
  rw [(back_add a b ha ha').1, (back_add a b ha ha').2]
  have c2 := b1.trans (b2.mono b1.size)
  clear b1 b2
  go_wp2_with fail
  refine (mul_any _ _ _ ha ha' hb hb').mono ?_
  rintro e w3 ⟨rfl, b3⟩
  have c3 := c2.trans (b3.mono c2.size)
  clear b3 c2
  rw [rV_in HM.out, rE_in HM.out]
  go_wp2_with fail
  refine (div_any _ _ _ HM.out.1 HM.out.2 hb hb').mono ?_
  rintro e w4 ⟨rfl, b4⟩
  have c4 := c3.trans (b4.mono c3.size)
  clear b4 c3
  rw [(back_mul a b HZ.out ha ha').1, (back_mul a b HZ.out ha ha').2.1]
  go_wp2_with fail
  refine (mod_any _ _ _ HM.out.1 HM.out.2 hb hb').mono ?_
  rintro e w5 ⟨rfl, b5⟩
  have c3 := c4.trans (b5.mono c4.size)
  clear b5 c4
  rw [(back_mul a b HZ.out ha ha').2.2.1, (back_mul a b HZ.out ha ha').2.2.2]
  go_wp2_with fail
  refine (awake_any _).mono ?_
  rintro e w6 ⟨rfl, b6⟩
  go_wp2
  go_ret
  exact Ret.mk rfl (c3.trans (b6.mono c3.size))

set_option maxHeartbeats 1000000 in
theorem back_out_out (a b : Int) (w : World) (ha : -9223372036854775808 ≤ a) (ha' : a ≤ 9223372036854775807) (hb : -9223372036854775808 ≤ b) (hb' : b ≤ 9223372036854775807) (HF : Hid (¬ Fit (a + b))) (HM : Hid (¬ Fit (a * b))) :
    Calls Try.prog 8 #[.int .i64 a, .int .i64 b] w (Ret (.bool true) w) := by
  go_enter Try.func8, Try.ntmps8
  go_wp2_with fail
  refine (add_any _ _ _ ha ha' hb hb').mono ?_
  rintro e w1 ⟨rfl, b1⟩
  rw [rV_out HF.out, rE_out HF.out]
  have c2 := b1
  clear b1
  go_wp2_with fail
  refine (mul_any _ _ _ ha ha' hb hb').mono ?_
  rintro e w3 ⟨rfl, b3⟩
  have c3 := c2.trans (b3.mono c2.size)
  clear b3 c2
  rw [rV_out HM.out, rE_out HM.out]
  go_wp2_with fail
  refine (awake_any _).mono ?_
  rintro e w6 ⟨rfl, b6⟩
  go_wp2
  go_ret
  exact Ret.mk rfl (c3.trans (b6.mono c3.size))

set_option maxHeartbeats 1000000 in
theorem back_out_zero (a b : Int) (w : World) (ha : -9223372036854775808 ≤ a) (ha' : a ≤ 9223372036854775807) (hb : -9223372036854775808 ≤ b) (hb' : b ≤ 9223372036854775807) (HF : Hid (¬ Fit (a + b))) (HM : Hid (Fit (a * b))) (hz : (b != 0) = false) :
    Calls Try.prog 8 #[.int .i64 a, .int .i64 b] w (Ret (.bool true) w) := by
  go_enter Try.func8, Try.ntmps8
  go_wp2_with fail
  refine (add_any _ _ _ ha ha' hb hb').mono ?_
  rintro e w1 ⟨rfl, b1⟩
  rw [rV_out HF.out, rE_out HF.out]
  have c2 := b1
  clear b1
  go_wp2_with fail
  refine (mul_any _ _ _ ha ha' hb hb').mono ?_
  rintro e w3 ⟨rfl, b3⟩
  have c3 := c2.trans (b3.mono c2.size)
  clear b3 c2
  rw [rV_in HM.out, rE_in HM.out]
  go_wp2_with fail
  refine (awake_any _).mono ?_
  rintro e w6 ⟨rfl, b6⟩
  go_wp2
  go_ret
  exact Ret.mk rfl (c3.trans (b6.mono c3.size))

set_option maxHeartbeats 1000000 in
theorem back_out_in (a b : Int) (w : World) (ha : -9223372036854775808 ≤ a) (ha' : a ≤ 9223372036854775807) (hb : -9223372036854775808 ≤ b) (hb' : b ≤ 9223372036854775807) (HF : Hid (¬ Fit (a + b))) (HM : Hid (Fit (a * b))) (HZ : Hid (b ≠ 0)) (hz : (b != 0) = true) :
    Calls Try.prog 8 #[.int .i64 a, .int .i64 b] w (Ret (.bool true) w) := by
  go_enter Try.func8, Try.ntmps8
  go_wp2_with fail
  refine (add_any _ _ _ ha ha' hb hb').mono ?_
  rintro e w1 ⟨rfl, b1⟩
  rw [rV_out HF.out, rE_out HF.out]
  have c2 := b1
  clear b1
  go_wp2_with fail
  refine (mul_any _ _ _ ha ha' hb hb').mono ?_
  rintro e w3 ⟨rfl, b3⟩
  have c3 := c2.trans (b3.mono c2.size)
  clear b3 c2
  rw [rV_in HM.out, rE_in HM.out]
  go_wp2_with fail
  refine (div_any _ _ _ HM.out.1 HM.out.2 hb hb').mono ?_
  rintro e w4 ⟨rfl, b4⟩
  have c4 := c3.trans (b4.mono c3.size)
  clear b4 c3
  rw [(back_mul a b HZ.out ha ha').1, (back_mul a b HZ.out ha ha').2.1]
  go_wp2_with fail
  refine (mod_any _ _ _ HM.out.1 HM.out.2 hb hb').mono ?_
  rintro e w5 ⟨rfl, b5⟩
  have c3 := c4.trans (b5.mono c4.size)
  clear b5 c4
  rw [(back_mul a b HZ.out ha ha').2.2.1, (back_mul a b HZ.out ha ha').2.2.2]
  go_wp2_with fail
  refine (awake_any _).mono ?_
  rintro e w6 ⟨rfl, b6⟩
  go_wp2
  go_ret
  exact Ret.mk rfl (c3.trans (b6.mono c3.size))

theorem walk_NumBack (a b : Int) (h0 : (Lit.int .i64 a).wf = true) (h1 : (Lit.int .i64 b).wf = true) (w : World) :
    Calls Try.prog 8 #[.int .i64 a, .int .i64 b] w (Ret (.bool true) w) := by
  obtain ⟨ha, ha'⟩ := wf_bounds h0
  obtain ⟨hb, hb'⟩ := wf_bounds h1
  by_cases hf : Fit (a + b) <;> by_cases hm : Fit (a * b) <;> by_cases hz : b = 0
  · exact back_in_zero a b w ha ha' hb hb' hf hm (by simp [hz])
  · exact back_in_in a b w ha ha' hb hb' hf hm hz (by simp [hz])
  · exact back_in_out a b w ha ha' hb hb' hf hm
  · exact back_in_out a b w ha ha' hb hb' hf hm
  · exact back_out_zero a b w ha ha' hb hb' hf hm (by simp [hz])
  · exact back_out_in a b w ha ha' hb hb' hf hm hz (by simp [hz])
  · exact back_out_out a b w ha ha' hb hb' hf hm
  · exact back_out_out a b w ha ha' hb hb' hf hm

end Go.Proofs.Ytcnjapajhchfkaa
