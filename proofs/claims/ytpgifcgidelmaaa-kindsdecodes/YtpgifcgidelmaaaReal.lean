/- Contracts of package real's inner functions, over the translated program. -/
import Derived.Test.YtpgifcgidelmaaaNum
import Derived.Test.YtpgifcgidelmaaaRMath
import Derived.Recover
import Derived.Laws.Externs
import Derived.Laws.BitsAll
import Derived.RegionTactic
namespace Go.Proofs.Ytpgifcgidelmaaa
open Go.RowKit
set_option linter.unusedVariables false

theorem bitsOf (b : Nat) (w : World) : (callFunc 43 #[.float .f64 b]).run Try.prog w = .ok (.value (.int .u64 b)) w := by
  rw [run_callFunc_extern (e := Extern.MathFloatBits.float64bits) Try.func43 (by kernel_rfl) (by kernel_rfl) (by kernel_rfl) (by kernel_rfl)]
  rfl
theorem ofBits (n : Int) (w : World) : (callFunc 56 #[.int .u64 n]).run Try.prog w = .ok (.value (.float .f64 n.toNat)) w := by
  rw [run_callFunc_extern (e := Extern.MathFloatBits.float64frombits) Try.func56 (by kernel_rfl) (by kernel_rfl) (by kernel_rfl) (by kernel_rfl)]
  rfl

theorem size_bits (b : Nat) (hb : b < 18446744073709551616) : bits BinOp.andNot IntKind.u64 (b : Int) 9223372036854775808 = (b : Int) % 9223372036854775808 := by
  rw [u64_andNot _ _ (by omega) (by omega) (by omega) (by omega)]
  have := Nat.and_two_pow_sub_one_eq_mod b 63
  have h2 : ((b % 9223372036854775808 : Nat) : Int) = (b : Int) % 9223372036854775808 := by omega
  rw [← h2]
  exact congrArg Int.ofNat this

/-- A frame that is left by a panic with this error. -/
abbrev Raised (n : Int) : List PanicEntry := [{ v := .iface 28 (.int .i64 n), recovered := false }]

set_option maxHeartbeats 400000 in
theorem counted_nan (b : Nat) (w : World) (hb : b < 18446744073709551616) (h : 9218868437227405312 < (b : Int) % 9223372036854775808) :
    Calls Try.prog 59 #[.float .f64 b] w (fun e w' => e = .panicked (Raised 14) ∧ w' = w) := by
  have hs := size_bits b hb
  have hc := bitsOf b
  go_enter Try.func59, Try.ntmps59
  go_wp2
  exact ⟨rfl, rfl, rfl⟩

set_option maxHeartbeats 400000 in
theorem counted_inf (b : Nat) (w : World) (hb : b < 18446744073709551616) (h : (b : Int) % 9223372036854775808 = 9218868437227405312) :
    Calls Try.prog 59 #[.float .f64 b] w (fun e w' => e = .panicked (Raised 8) ∧ w' = w) := by
  have hs := size_bits b hb
  rw [h] at hs
  have hc := bitsOf b
  go_enter Try.func59, Try.ntmps59
  go_wp2
  exact ⟨rfl, rfl, rfl⟩

/-- The bounds of the range. -/
theorem isF_lo : IsF 13965662444475908096 (-(1073741824 * (pw 0 : Int))) := by
  have h : Ieee.double.read 13965662444475908096 = .number true 4503599627370496 (-22) := by decide +kernel
  have := isF_of_read h
  have e : pw 0 = pw (-22) * 2 ^ 22 := pw_at (-22) 0 22 (by decide) (by decide)
  have h2 : val true 4503599627370496 (-22) = -(1073741824 * (pw 0 : Int)) := by unfold val; simp only [if_true]; omega
  rw [← h2]; exact this
theorem isF_hi : IsF 4742290407621132288 (1073741824 * (pw 0 : Int)) := by
  have h : Ieee.double.read 4742290407621132288 = .number false 4503599627370496 (-22) := by decide +kernel
  have := isF_of_read h
  have e : pw 0 = pw (-22) * 2 ^ 22 := pw_at (-22) 0 22 (by decide) (by decide)
  have h2 : val false 4503599627370496 (-22) = 1073741824 * (pw 0 : Int) := by unfold val; simp only [Bool.false_eq_true, if_false]; omega
  rw [← h2]; exact this
theorem isF_half : IsF 4602678819172646912 (pw (-1) : Int) := by
  have h : Ieee.double.read 4602678819172646912 = .number false 4503599627370496 (-53) := by decide +kernel
  have := isF_of_read h
  have e : pw (-1) = pw (-53) * 2 ^ 52 := pw_at (-53) (-1) 52 (by decide) (by decide)
  have h2 : val false 4503599627370496 (-53) = (pw (-1) : Int) := by unfold val; simp only [Bool.false_eq_true, if_false]; omega
  rw [← h2]; exact this
theorem isF_zero : IsF 0 0 := by
  have h : Ieee.double.read 0 = .number false 0 (-1074) := by decide +kernel
  have := isF_of_read h
  have h2 : val false 0 (-1074) = 0 := by unfold val; simp
  rw [← h2]; exact this
theorem isF_same {b : Nat} {x y : Int} (h : IsF b x) (g : IsF b y) : x = y := by
  obtain ⟨s, m, i, h1, rfl, -⟩ := h
  obtain ⟨t, n, j, h2, rfl, -⟩ := g
  rw [h1] at h2
  injection h2 with a1 a2 a3
  rw [a1, a2, a3]
/-- A finite float's size, by its bits. -/
theorem isF_size {b : Nat} {z : Int} (h : IsF b z) : (b : Int) % 9223372036854775808 < 9218868437227405312 ∧ ((b : Int) % 9223372036854775808 = 0 → z = 0) := by
  obtain ⟨s, m, i, h, rfl, -⟩ := h
  unfold Ieee.Format.read at h
  have e1 : Ieee.double.binade = 4503599627370496 := by decide
  have e2 : Ieee.double.infRung = 9218868437227405312 := by decide
  have e3 : Ieee.double.signWeight = 9223372036854775808 := by decide
  rw [e1, e2, e3] at h
  dsimp only at h
  have hb : (b : Int) % 9223372036854775808 = ((b % 9223372036854775808 : Nat) : Int) := by omega
  rw [hb]
  generalize b % 9223372036854775808 = r at h
  split at h
  · refine ⟨by omega, fun h0 => ?_⟩
    injection h with a1 a2 a3
    have : m = 0 := by omega
    subst this
    unfold val; simp
  · split at h
    · exact ⟨by omega, fun h0 => by omega⟩
    · split at h <;> cases h

set_option maxHeartbeats 400000 in
theorem counted_out (b : Nat) (z : Int) (w : World) (hb : b < 18446744073709551616) (hf : IsF b z) (h : z < -(1073741824 * (pw 0 : Int)) ∨ 1073741824 * (pw 0 : Int) ≤ z) :
    Calls Try.prog 59 #[.float .f64 b] w (fun e w' => e = .panicked (Raised 8) ∧ w' = w) := by
  have hs := size_bits b hb
  have hc := bitsOf b
  have hz := (isF_size hf).1
  have h1 : ¬ 9218868437227405312 < (b : Int) % 9223372036854775808 := by omega
  have h2 : ¬ (b : Int) % 9223372036854775808 = 9218868437227405312 := by omega
  have hL := lt_is hf isF_lo
  have hG := gt_is hf isF_hi
  have hE := eq_is hf isF_hi
  by_cases hlo : z < -(1073741824 * (pw 0 : Int))
  · rw [decide_eq_true hlo] at hL
    clear hG hE hf h hz hlo
    go_enter Try.func59, Try.ntmps59
    go_wp2
    exact ⟨rfl, rfl, rfl⟩
  · rw [decide_eq_false hlo] at hL
    have hGE : (FloatKind.f64.format.order b 4742290407621132288 == some Ordering.gt || FloatKind.f64.format.order b 4742290407621132288 == some Ordering.eq) = true := by
      rw [hG, hE, Bool.or_eq_true, decide_eq_true_eq, decide_eq_true_eq]; omega
    clear hG hE hf h hlo hz
    go_enter Try.func59, Try.ntmps59
    go_wp2
    exact ⟨rfl, rfl, rfl⟩

set_option maxHeartbeats 400000 in
theorem counted_in (b : Nat) (z : Int) (hb : b < 18446744073709551616) (hf : IsF b z) (h1 : -(1073741824 * (pw 0 : Int)) ≤ z) (h2 : z < 1073741824 * (pw 0 : Int)) :
    ∃ r, IsF r (65536 * z) ∧ ∀ w, Calls Try.prog 59 #[.float .f64 b] w (fun e w' => e = .returned (.float .f64 r) ∧ w' = w) := by
  have hs := size_bits b hb
  have hc := bitsOf b
  obtain ⟨hz, hz0⟩ := isF_size hf
  have g1 : ¬ 9218868437227405312 < (b : Int) % 9223372036854775808 := by omega
  have g2 : ¬ (b : Int) % 9223372036854775808 = 9218868437227405312 := by omega
  have hL := lt_is hf isF_lo
  have hG := gt_is hf isF_hi
  have hE := eq_is hf isF_hi
  rw [decide_eq_false (by omega)] at hL hG hE
  have hGE : (FloatKind.f64.format.order b 4742290407621132288 == some Ordering.gt || FloatKind.f64.format.order b 4742290407621132288 == some Ordering.eq) = false := by
    rw [hG, hE]; rfl
  by_cases h0 : (b : Int) % 9223372036854775808 = 0
  · have hzz := hz0 h0
    subst hzz
    refine ⟨0, isF_zero, fun w => ?_⟩
    rw [h0] at hs
    clear hf hz hz0 h1 h2 g1 g2 h0 hG hE
    go_enter Try.func59, Try.ntmps59
    go_wp2
    go_ret
    exact ⟨rfl, rfl⟩
  · have hsm : z.natAbs < pw 80 := by
      have e : pw 80 = pw 0 * 2 ^ 80 := pw_at 0 80 80 (by decide) (by decide)
      have := pw_pos 0
      omega
    obtain ⟨r, hr, hR⟩ := mul_is hf hsm
    refine ⟨r, hR, fun w => ?_⟩
    have hm : ∀ w, (binOp .mul 80 (.float .f64 b) (.float .f64 4679240012837945344)).run Try.prog w = .ok (.float .f64 r) w := fun w => run_float_arith w _ _ _ _ _ _ hr
    clear hf hz hz0 h1 h2 hG hE hr hR hsm
    go_enter Try.func59, Try.ntmps59
    go_wp2
    go_ret
    exact ⟨rfl, rfl⟩

/-- Cut toward 0, and one less where that lies above: rounded down. -/
theorem floor_of (X : Int) (U : Nat) (hU : 0 < U) : X / (U : Int) = if X < X.tdiv (U : Int) * (U : Int) then X.tdiv (U : Int) - 1 else X.tdiv (U : Int) := by
  have hU' : (0 : Int) < U := by omega
  have e1 : (U : Int) * X.tdiv (U : Int) + X.tmod (U : Int) = X := Int.mul_tdiv_add_tmod X U
  have hm : X.tmod (U : Int) < U := Int.tmod_lt_of_pos X hU'
  have hm2 : -(U : Int) < X.tmod (U : Int) := Int.lt_tmod_of_pos X hU'
  generalize X.tdiv (U : Int) = q at *
  generalize X.tmod (U : Int) = r at *
  rw [Int.mul_comm] at e1
  by_cases h : X < q * (U : Int)
  · rw [if_pos h, Int.ediv_eq_iff_of_pos hU']
    rw [Int.sub_mul]
    omega
  · rw [if_neg h, Int.ediv_eq_iff_of_pos hU']
    omega

set_option maxHeartbeats 400000 in
theorem down_in (x : Nat) (X : Int) (w : World) (hf : IsF x X) (h1 : -(70368744177664 * (pw 0 : Int)) ≤ X) (h2 : X < 70368744177664 * (pw 0 : Int)) :
    Calls Try.prog 58 #[.float .f64 x] w (fun e w' => e = .returned (.int .i64 (X / (pw 0 : Int))) ∧ w' = w) := by
  have p0 := pw_pos 0
  have q1 : -70368744177664 ≤ X.tdiv (pw 0 : Int) ∧ X.tdiv (pw 0 : Int) ≤ 70368744177664 := by
    have e1 : (pw 0 : Int) * X.tdiv (pw 0 : Int) + X.tmod (pw 0 : Int) = X := Int.mul_tdiv_add_tmod X _
    have hm : X.tmod (pw 0 : Int) < pw 0 := Int.tmod_lt_of_pos X (by omega)
    have hm2 : -(pw 0 : Int) < X.tmod (pw 0 : Int) := Int.lt_tmod_of_pos X (by omega)
    generalize X.tdiv (pw 0 : Int) = q at *
    generalize X.tmod (pw 0 : Int) = r at *
    generalize (pw 0 : Int) = U at *
    constructor
    · by_cases hc : -70368744177664 ≤ q
      · exact hc
      · exfalso
        have : U * q ≤ U * (-70368744177665) := Int.mul_le_mul_of_nonneg_left (by omega) (by omega)
        omega
    · by_cases hc : q ≤ 70368744177664
      · exact hc
      · exfalso
        have : U * 70368744177665 ≤ U * q := Int.mul_le_mul_of_nonneg_left (by omega) (by omega)
        omega
  have hi := toInt_is hf (by omega) (by omega)
  have hfl := floor_of X (pw 0) p0
  generalize X.tdiv (pw 0 : Int) = q at *
  have hv : ∀ w, (convert 80 2 (.float .f64 x)).run Try.prog w = .ok (.int .i64 q) w := fun w => run_convert_float_int w _ _ _ _ _ _ (by kernel_rfl) (by kernel_rfl) hi
  have hq := ofInt_is q (by omega)
  have hG := gt_is hq hf
  by_cases h : X < q * (pw 0 : Int)
  · rw [decide_eq_true h] at hG
    rw [if_pos h] at hfl
    rw [hfl]
    have hw : -9223372036854775808 ≤ q - 1 := by omega
    clear hf h1 h2 hi hfl hq h
    obtain ⟨q1, q2⟩ := q1
    go_enter Try.func58, Try.ntmps58
    go_wp2
    go_ret
    exact ⟨rfl, rfl⟩
  · rw [decide_eq_false h] at hG
    rw [if_neg h] at hfl
    rw [hfl]
    clear hf h1 h2 hi hfl hq h
    go_enter Try.func58, Try.ntmps58
    go_wp2
    go_ret
    exact ⟨rfl, rfl⟩

set_option maxHeartbeats 400000 in
theorem held_in (v : Int) (w : World) (h1 : -70368744177664 ≤ v) (h2 : v < 70368744177664) :
    Calls Try.prog 50 #[.int .i64 v] w (fun e w' => e = .returned (.int .i64 v) ∧ w' = w) := by
  go_enter Try.func50, Try.ntmps50
  go_wp2
  go_ret
  exact ⟨rfl, rfl⟩

set_option maxHeartbeats 400000 in
theorem held_out (v : Int) (w : World) (h : v < -70368744177664 ∨ 70368744177664 ≤ v) :
    Calls Try.prog 50 #[.int .i64 v] w (fun e w' => e = .panicked (Raised 8) ∧ w' = w) := by
  rcases h with h | h
  · go_enter Try.func50, Try.ntmps50
    go_wp2
    exact ⟨rfl, rfl, rfl⟩
  · have h2 : ¬ v < -70368744177664 := by omega
    go_enter Try.func50, Try.ntmps50
    go_wp2
    exact ⟨rfl, rfl, rfl⟩
end Go.Proofs.Ytpgifcgidelmaaa
