/- Contracts of package rng's functions, and of the reference's, over the translated program. -/
import Derived.Test.YtlpoholdphihfaaNum
import Derived.Test.YtlpoholdphihfaaGMath
namespace Go.Proofs.Ytlpoholdphihfaa
open Go.RowKit
set_option linter.unusedVariables false

theorem z0_arith (s n : Nat) : IntKind.u64.wrap ((s : Int) + IntKind.u64.wrap (IntKind.u64.wrap ((n : Int) + 1) * 11400714819323198485)) = ((z0 s n : Nat) : Int) := by
  unfold z0
  simp only [wrU, Int.natCast_emod, Int.natCast_add, Int.natCast_mul]
  rfl
theorem mx1_arith {z : Nat} (h : z < 18446744073709551616) : IntKind.u64.wrap (bits .xor .u64 (z : Int) ((z : Int) / 1073741824) * 13787848793156543929) = ((mx 1073741824 13787848793156543929 z : Nat) : Int) := by
  unfold mx
  exact mixStep_u64 z 1073741824 13787848793156543929 h
theorem mx2_arith {z : Nat} (h : z < 18446744073709551616) : IntKind.u64.wrap (bits .xor .u64 (z : Int) ((z : Int) / 134217728) * 10723151780598845931) = ((mx 134217728 10723151780598845931 z : Nat) : Int) := by
  unfold mx
  exact mixStep_u64 z 134217728 10723151780598845931 h
theorem fin3_arith {z : Nat} (h : z < 18446744073709551616) : bits .xor .u64 (z : Int) ((z : Int) / 2147483648) = ((fin3 z : Nat) : Int) := by
  unfold fin3
  exact xorShift_u64 z 2147483648 h

set_option maxHeartbeats 400000 in
theorem rngAt_any (s n : Nat) (w : World) (hs : s < 18446744073709551616) (hn : n < 18446744073709551616) :
    Calls Try.prog 9 #[.int .u64 (s : Int), .int .u64 (n : Int)] w (Ret (.int .u64 ((atN s n : Nat) : Int)) w) := by
  go_enter Try.func9, Try.ntmps9
  go_wp2
  go_ret
  refine Ret.mk (congrArg (Value.int .u64) ?_) (Below.refl _ _)
  have e1 := mx1_arith (z0_lt s n)
  have e2 := mx2_arith (mx_lt 1073741824 13787848793156543929 (z0 s n))
  have e3 := fin3_arith (mx_lt 134217728 10723151780598845931 (mx 1073741824 13787848793156543929 (z0 s n)))
  rw [z0_arith s n, e1, e2, e3]
  unfold atN fin
  rfl

set_option maxHeartbeats 400000 in
theorem rngProduct_any (a b : Nat) (w : World) (ha : a < 18446744073709551616) (hb : b < 18446744073709551616) :
    Calls Try.prog 18 #[.int .u64 (a : Int), .int .u64 (b : Int)] w (Ret (.tuple #[.int .u64 ((a * b / 18446744073709551616 : Nat) : Int), .int .u64 ((a * b % 18446744073709551616 : Nat) : Int)]) w) := by
  go_enter Try.func18, Try.ntmps18
  go_wp2
  go_ret2
  refine Ret.mk (two_eq ?_ ?_) (Below.refl _ _)
  · rw [gand_low32 (a : Int) (by omega) (by omega), gand_low32 (b : Int) (by omega) (by omega)]
    simp only [wrU]
    rw [gand_low32 _ (by omega) (by omega)]
    exact high_form a b ha hb
  · rw [wrU, Int.natCast_emod, Int.natCast_mul]
    rfl

set_option maxHeartbeats 400000 in
theorem refHigh_any (a b : Nat) (w : World) (ha : a < 18446744073709551616) (hb : b < 18446744073709551616) :
    Calls Try.prog 19 #[.int .u64 (a : Int), .int .u64 (b : Int)] w (Ret (.int .u64 ((a * b / 18446744073709551616 : Nat) : Int)) w) := by
  go_enter Try.func19, Try.ntmps19
  go_wp2
  go_ret
  refine Ret.mk (congrArg (Value.int .u64) ?_) (Below.refl _ _)
  simp only [wrU, tdivU, tmodU, halfU]
  exact high_form a b ha hb

/-- A step of the product bit by bit. -/
theorem times_step (S A B a b : Nat) (h : (S + A * B) % 18446744073709551616 = a * b % 18446744073709551616) (hB : B % 2 = 0) :
    (S + (A + A) % 18446744073709551616 * (B / 2)) % 18446744073709551616 = a * b % 18446744073709551616 := by
  rw [← h, Nat.add_mod, Nat.mod_mul_mod, ← Nat.add_mod]
  have : (A + A) * (B / 2) = A * B := by
    have e : B = 2 * (B / 2) := by omega
    generalize B / 2 = C at *
    subst e
    grind
  rw [this]
theorem times_odd (S A B a b : Nat) (h : (S + A * B) % 18446744073709551616 = a * b % 18446744073709551616) (hB : B % 2 = 1) :
    ((S + A) % 18446744073709551616 + (A + A) % 18446744073709551616 * (B / 2)) % 18446744073709551616 = a * b % 18446744073709551616 := by
  rw [← h, Nat.add_mod, Nat.mod_mod, Nat.mod_mul_mod, ← Nat.add_mod]
  have : S + A + (A + A) * (B / 2) = S + A * B := by
    have e : B = 2 * (B / 2) + 1 := by omega
    generalize B / 2 = C at *
    subst e
    grind
  rw [this]

set_option maxHeartbeats 400000 in
theorem times_any (a b : Nat) (w : World) (ha : a < 18446744073709551616) (hb : b < 18446744073709551616) :
    Calls Try.prog 17 #[.int .u64 (a : Int), .int .u64 (b : Int)] w (Ret (.int .u64 ((a * b % 18446744073709551616 : Nat) : Int)) w) := by
  go_enter Try.func17, Try.ntmps17
  go_wp2
  go_loop [0, 1, 5] (fun x y s => ∃ A B S : Nat, A < 18446744073709551616 ∧ B < 18446744073709551616 ∧ S < 18446744073709551616 ∧ x = .int .u64 (A : Int) ∧ y = .int .u64 (B : Int) ∧ s = .int .u64 (S : Int) ∧ Hid ((S + A * B) % 18446744073709551616 = a * b % 18446744073709551616)) (fun x y s => (intOf y).toNat)
  case atStart =>
    refine ⟨a, b, 0, ha, hb, by omega, rfl, rfl, rfl, ?_⟩
    show _ = _
    rw [Nat.zero_add]
  case round =>
    obtain ⟨A, B, S, hA, hB, hS, rfl, rfl, rfl, HI⟩ := hrel
    clear ha hb
    by_cases h0 : B = 0
    · subst h0
      have HE : Hid (((a * b % 18446744073709551616 : Nat) : Int) = (S : Int)) := by
        have h := HI.out
        show _ = _
        rw [← h, Nat.mul_zero, Nat.add_zero, Nat.mod_eq_of_lt hS]
      go_wp2
      go_ret
      exact Ret.mk (congrArg (Value.int .u64) HE.out.symm) (Below.refl _ _)
    · have h0' : 0 < (B : Int) := by omega
      rcases Nat.mod_two_eq_zero_or_one B with h2 | h2
      · have t1 : ((B : Int) % 2 == 1) = false := by simp; omega
        have HN := Lib.hid (times_step S A B a b HI.out h2)
        have hA2 := Lib.hid (show IntKind.u64.wrap ((A : Int) + (A : Int)) = (((A + A) % 18446744073709551616 : Nat) : Int) by rw [wrU]; omega)
        go_wp2
        go_round
        case rel => exact ⟨(A + A) % 18446744073709551616, B / 2, S, Nat.mod_lt _ (by decide), by omega, hS, congrArg (Value.int .u64) hA2.out, congrArg (Value.int .u64) (by omega), rfl, HN⟩
        case measure => simp [intOf]; omega
      · have t1 : ((B : Int) % 2 == 1) = true := by simp; omega
        have HN := Lib.hid (times_odd S A B a b HI.out h2)
        have hA2 := Lib.hid (show IntKind.u64.wrap ((A : Int) + (A : Int)) = (((A + A) % 18446744073709551616 : Nat) : Int) by rw [wrU]; omega)
        have hS2 := Lib.hid (show IntKind.u64.wrap ((S : Int) + (A : Int)) = (((S + A) % 18446744073709551616 : Nat) : Int) by rw [wrU]; omega)
        go_wp2
        go_round
        case rel => exact ⟨(A + A) % 18446744073709551616, B / 2, (S + A) % 18446744073709551616, Nat.mod_lt _ (by decide), by omega, Nat.mod_lt _ (by decide), congrArg (Value.int .u64) hA2.out, congrArg (Value.int .u64) (by omega), congrArg (Value.int .u64) hS2.out, HN⟩
        case measure => simp [intOf]; omega

end Go.Proofs.Ytlpoholdphihfaa
