/- Contracts of package real's nearest and exact, and of the three functions that catch a panic. -/
import Derived.Test.YtpgifcgidelmaaaReal
namespace Go.Proofs.Ytpgifcgidelmaaa
open Go.RowKit
set_option linter.unusedVariables false

theorem pw_half : pw 0 = pw (-1) * 2 := pw_at (-1) 0 1 (by decide) (by decide)

/-- The nearest whole number, of two the greater one. -/
noncomputable def roundU (X : Int) : Int := (X + (pw (-1) : Int)) / (pw 0 : Int)
theorem roundU_eq (X : Int) : roundU X = if (pw (-1) : Int) ≤ X % (pw 0 : Int) then X / (pw 0 : Int) + 1 else X / (pw 0 : Int) := by
  have p := pw_pos (-1)
  have e := pw_half
  have h1 := Int.emod_nonneg X (b := (pw 0 : Int)) (by omega)
  have h2 := Int.emod_lt_of_pos X (b := (pw 0 : Int)) (by omega)
  have h3 : (pw 0 : Int) * (X / (pw 0 : Int)) + X % (pw 0 : Int) = X := Int.mul_ediv_add_emod X _
  unfold roundU
  generalize X / (pw 0 : Int) = q at *
  generalize X % (pw 0 : Int) = r at *
  rw [Int.mul_comm] at h3
  split
  · rw [Int.ediv_eq_iff_of_pos (by omega), Int.add_mul]; omega
  · rw [Int.ediv_eq_iff_of_pos (by omega)]; omega

theorem floor_lim (X : Int) (h1 : -(70368744177664 * (pw 0 : Int)) ≤ X) (h2 : X < 70368744177664 * (pw 0 : Int)) : -70368744177664 ≤ X / (pw 0 : Int) ∧ X / (pw 0 : Int) < 70368744177664 := by
  have p := pw_pos 0
  constructor
  · rw [Int.le_ediv_iff_mul_le (by omega)]; omega
  · rw [Int.ediv_lt_iff_lt_mul (by omega)]; omega

theorem realWhole_any (a : Int) (w : World) :
    Calls Try.prog 53 #[.int .i64 a] w (fun e w' => e = .returned (.int .i64 (a / 65536)) ∧ w' = w) := by
  go_enter Try.func53, Try.ntmps53
  go_wp2
  go_ret
  exact ⟨rfl, rfl⟩
theorem realLow16 (a : Int) : bits BinOp.and IntKind.i64 a 65535 = a % 65536 := by
  have h1 : (BitVec.ofInt 64 a &&& BitVec.ofInt 64 65535).toNat = (a % 18446744073709551616).toNat % 65536 := by
    rw [BitVec.toNat_and, BitVec.toNat_ofInt, BitVec.toNat_ofInt]
    have := Nat.and_two_pow_sub_one_eq_mod (a % 18446744073709551616).toNat 16
    exact this
  have h2 : bits BinOp.and IntKind.i64 a 65535 = IntKind.i64.wrap (((BitVec.ofInt 64 a &&& BitVec.ofInt 64 65535).toNat : Nat) : Int) := rfl
  rw [h2, h1, IntWalk.i64_in _ (by omega)]
  omega

set_option maxHeartbeats 400000 in
theorem realPart_any (a : Int) (w : World) :
    Calls Try.prog 54 #[.int .i64 a] w (fun e w' => e = .returned (.int .i64 (a % 65536)) ∧ w' = w) := by
  go_enter Try.func54, Try.ntmps54
  go_wp2
  go_ret
  exact ⟨congrArg (fun x => Ending.returned (Value.int .i64 x)) (realLow16 a), rfl⟩

theorem wf_lt {r : Nat} (h : (Lit.float .f64 r).wf = true) : r < 18446744073709551616 := by
  simp only [Lit.wf, decide_eq_true_eq] at h; exact h

set_option maxHeartbeats 400000 in
theorem exact_in (v : Int) (h1 : -70368744177664 ≤ v) (h2 : v < 70368744177664) :
    ∃ r, IsF r (v * (pw (-16) : Int)) ∧ r < 18446744073709551616 ∧ (v = 0 → r = 0) ∧ ∀ w, Calls Try.prog 49 #[.int .i64 v] w (fun e w' => e = .returned (.float .f64 r) ∧ w' = w) := by
  have pe : pw 0 = pw (-16) * 65536 := pw_at (-16) 0 16 (by decide) (by decide)
  have hA := ofInt_is (v / 65536) (by omega)
  have hB := ofInt_is (v % 65536) (by omega)
  obtain ⟨d, d1, d2⟩ := div_is (y := v % 65536 * (pw (-16) : Int)) hB (by rw [pe, Int.natCast_mul]; grind) (rep_mul _ _ (by omega) (by omega) (by omega))
  have hsum : v / 65536 * (pw 0 : Int) + v % 65536 * (pw (-16) : Int) = v * (pw (-16) : Int) := by
    have e : v = v / 65536 * 65536 + v % 65536 := by omega
    rw [pe, Int.natCast_mul]
    generalize v / 65536 = q at *
    generalize v % 65536 = t at *
    rw [e]; grind
  obtain ⟨r, r1, r2⟩ := add_is hA d2 (by rw [hsum]; exact rep_mul _ _ (by omega) (by omega) (by omega))
  rw [hsum] at r2
  refine ⟨r, r2, wf_lt (floatBits_wf r1), ?_, fun w => ?_⟩
  · intro hv
    subst hv
    have e0 : floatBits .quo .f64 (floatOfInt .f64 (0 % 65536)) 4679240012837945344 = some 0 := by decide +kernel
    rw [e0] at d1
    injection d1 with d1
    subst d1
    have e1 : floatBits .add .f64 (floatOfInt .f64 (0 / 65536)) 0 = some 0 := by decide +kernel
    rw [e1] at r1
    injection r1 with r1
    exact r1.symm
  · have hm : ∀ w, (binOp .quo 80 (.float .f64 (floatOfInt .f64 (v % 65536))) (.float .f64 4679240012837945344)).run Try.prog w = .ok (.float .f64 d) w := fun w => run_float_arith w _ _ _ _ _ _ d1
    have ha : ∀ w, (binOp .add 80 (.float .f64 (floatOfInt .f64 (v / 65536))) (.float .f64 d)).run Try.prog w = .ok (.float .f64 r) w := fun w => run_float_arith w _ _ _ _ _ _ r1
    clear pe hA hB d1 d2 hsum r1 r2 h1 h2
    go_enter Try.func49, Try.ntmps49
    go_wp2_with fail
    refine (realWhole_any v _).mono ?_
    rintro e w1 ⟨rfl, rfl⟩
    go_wp2_with fail
    refine (realPart_any v _).mono ?_
    rintro e w1 ⟨rfl, rfl⟩
    go_wp2
    go_ret
    exact ⟨rfl, rfl⟩
end Go.Proofs.Ytpgifcgidelmaaa
