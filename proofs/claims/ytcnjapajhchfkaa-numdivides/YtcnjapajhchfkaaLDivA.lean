/- NumDivides, first part: what the law asks, and where b is 0. -/
import Derived.Test.YtcnjapajhchfkaaLNumScales
namespace Go.Proofs.Ytcnjapajhchfkaa
open Go.RowKit
set_option linter.unusedVariables false

/-- What the law asks of the remainder y and of the quotient. -/
structure RestH (a b y : Int) : Prop where
  lo : -9223372036854775808 ≤ y
  hi : y ≤ 9223372036854775807
  sign : y ≠ 0 → (!decide (y < 0) == decide (b < 0)) = false
  sq : cmpZ (y * y) (b * b) = -1
  rest : a.fdiv b * b = a - y
theorem sq_lt {y b : Int} (h0 : 0 ≤ y) (h1 : y < b) : y * y < b * b := by
  have g1 := Int.mul_le_mul_of_nonneg_left (Int.le_of_lt h1) h0
  have g2 := Int.mul_lt_mul_of_pos_right h1 (show 0 < b by omega)
  omega
theorem restH (a b : Int) (hb : b ≠ 0) (h0 : -9223372036854775808 ≤ b) (h1 : b ≤ 9223372036854775807) : RestH a b (a.fmod b) := by
  have e := Int.mul_fdiv_add_fmod a b
  have hm : b * a.fdiv b = a.fdiv b * b := Int.mul_comm _ _
  have hs : (0 ≤ a.fmod b ∧ a.fmod b < b) ∨ (b < a.fmod b ∧ a.fmod b ≤ 0) := by
    by_cases h : 0 < b
    · exact .inl ⟨Int.fmod_nonneg_of_pos a h, Int.fmod_lt_of_pos a h⟩
    · right
      have hn : 0 < -b := by omega
      have f := Int.mul_fdiv_add_fmod (-a) (-b)
      rw [fdiv_neg_neg] at f
      have g0 := Int.fmod_nonneg_of_pos (-a) hn
      have g1 := Int.fmod_lt_of_pos (-a) hn
      have hm2 : -b * a.fdiv b = -(a.fdiv b * b) := by rw [Int.neg_mul, hm]
      omega
  generalize a.fmod b = y at *
  refine ⟨by omega, by omega, fun hy => ?_, ?_, by omega⟩
  · rcases hs with ⟨s0, s1⟩ | ⟨s0, s1⟩
    · have : ¬ y < 0 := by omega
      have : ¬ b < 0 := by omega
      simp [*]
    · have : y < 0 := by omega
      have : b < 0 := by omega
      simp [*]
  · apply cmpZ_lt
    rcases hs with ⟨s0, s1⟩ | ⟨s0, s1⟩
    · exact sq_lt s0 s1
    · have := sq_lt (y := -y) (b := -b) (by omega) (by omega)
      rwa [Int.neg_mul_neg, Int.neg_mul_neg] at this

set_option maxHeartbeats 2000000 in
theorem divides_zero (a : Int) (w : World) (ha : -9223372036854775808 ≤ a) (ha' : a ≤ 9223372036854775807) :
    Calls Try.prog 6 #[.int .i64 a, .int .i64 0] w (Ret (.bool true) w) := by
  have SP : Hid (Prod a) := by show Prod a; unfold Prod; omega
  have SW : Hid (Word 0) := by show Word 0; unfold Word; omega
  go_enter Try.func6, Try.ntmps6
  go_wp2_with fail
  refine (div_any _ _ _ ha ha' (by omega) (by omega)).mono ?_
  rintro e w1 ⟨rfl, b1⟩
  go_wp2_with fail
  refine (mod_any _ _ _ ha ha' (by omega) (by omega)).mono ?_
  rintro e w2 ⟨rfl, b2⟩
  rw [show mV a 0 = 0 from rfl, show mE a 0 = 9 from rfl]
  go_wp2_with fail
  refine (of_any _ _ ha ha').mono ?_
  rintro e w3 ⟨v3, rfl, hv3, b3⟩
  have HV3 := Lib.hid hv3
  clear hv3
  go_wp2_with fail
  refine (of_any _ _ (by omega) (by omega)).mono ?_
  rintro e w4 ⟨v4, rfl, hv4, b4⟩
  have HV4 := Lib.hid hv4
  clear hv4
  go_wp2_with fail
  refine (quot_true v3 v4 a 0 _ (HV3.out.keep b4) HV4.out SP.out SW.out).mono ?_
  rintro e w5 ⟨rfl, b5⟩
  have c2 := b1.trans (b2.mono b1.size)
  have c3 := c2.trans (b3.mono c2.size)
  have c4 := c3.trans (b4.mono c3.size)
  have c5 := c4.trans (b5.mono c4.size)
  clear b1 b2 b3 b4 b5 c2 c3 c4
  go_wp2_with fail
  refine (awake_any _).mono ?_
  rintro e w11 ⟨rfl, b11⟩
  go_wp2
  go_ret
  exact Ret.mk rfl (c5.trans (b11.mono c5.size))

theorem small_sum' {a b : Int} (ha : -9223372036854775808 ≤ a) (ha' : a ≤ 9223372036854775807) (hb : -9223372036854775808 ≤ b) (hb' : b ≤ 9223372036854775807) : Small (a - b) := by
  unfold Small
  have h2 : (a - b).natAbs ≤ 18446744073709551616 := by omega
  exact Nat.lt_of_le_of_lt h2 (by decide)

end Go.Proofs.Ytcnjapajhchfkaa
