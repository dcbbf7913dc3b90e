/- The walk of the law. -/
import Derived.Test.YtiiojickhegapaaReal4
import Derived.Test.YtiiojickhegapaaRef4
import Derived.Test.YtiiojickhegapaaAwake4
namespace Go.Proofs.Ytiiojickhegapaa
open Go.RowKit
set_option linter.unusedVariables false

theorem none_bits (b : Nat) (hb : b < 18446744073709551616) : (b ||| 9218868437227405312) < 18446744073709551616 ∧ (b ||| 9218868437227405312) % 9223372036854775808 = 9218868437227405312 + (b ||| 9218868437227405312) % 4503599627370496 := by
  have h1 : (b ||| 9218868437227405312) < 2 ^ 64 := Nat.or_lt_two_pow hb (by decide)
  have h2 : (b ||| 9218868437227405312) / 2 ^ 52 % 2 ^ 11 = 2047 := by
    rw [← Nat.shiftRight_eq_div_pow, Nat.shiftRight_or_distrib]
    have e : 9218868437227405312 >>> 52 = 2047 := by decide
    rw [e, Nat.or_mod_two_pow]
    have g1 : (b >>> 52 % 2 ^ 11 ||| 2047 % 2 ^ 11) < 2 ^ 11 := Nat.or_lt_two_pow (Nat.mod_lt _ (by decide)) (by decide)
    have g2 : 2047 % 2 ^ 11 ≤ (b >>> 52 % 2 ^ 11 ||| 2047 % 2 ^ 11) := Nat.right_le_or
    omega
  generalize b ||| 9218868437227405312 = x at *
  omega
theorem or_bits (b : Nat) (hb : b < 18446744073709551616) : bits BinOp.or IntKind.u64 (b : Int) 9218868437227405312 = ((b ||| 9218868437227405312 : Nat) : Int) := by
  rw [u64_or _ _ (by omega) (by omega) (by omega) (by omega)]
  rfl

set_option maxHeartbeats 800000 in
theorem walk_RealNone (a0 : Int) (w0 : (Lit.int .u64 a0).wf = true) (w : World) : Calls Try.prog 7 #[.int .u64 a0] w (Ret (.bool true) w) := by
  obtain ⟨v0, v1⟩ := wfI w0
  have v0' : 0 ≤ a0 := v0
  have v1' : a0 ≤ 18446744073709551615 := v1
  obtain ⟨b, rfl⟩ : ∃ b : Nat, a0 = (b : Int) := ⟨a0.toNat, by omega⟩
  have hb : b < 18446744073709551616 := by omega
  clear v0 v1 v0' v1' w0
  obtain ⟨n1, n2⟩ := none_bits b hb
  have ho := or_bits b hb
  generalize b ||| 9218868437227405312 = x at *
  have hn : ¬ OfOk x := fun h => by have := h.1; omega
  have hn2 : ¬ NearOk x := fun h => hn h.1
  have h1 := fun w => bits_any x n1 w
  have h2 := fun w => near_any x n1 w
  have e1 : ofV x = 0 := if_neg hn
  have e2 : nearV x = 0 := if_neg hn2
  have hc := frombits x
  have hand := and_frac (x : Int) (by omega) (by omega)
  by_cases hz : (x : Int) % 4503599627370496 = 0
  · have e3 : ofE x = 8 := by unfold ofE; rw [if_neg (by omega), if_neg hn]
    have e4 : nearE x = 8 := by unfold nearE; rw [if_neg (by omega), if_neg hn2]
    rw [e1, e3] at h1
    rw [e2, e4] at h2
    rw [hz] at hand
    clear e1 e2 e3 e4 hn hn2 n1 n2 hz hb
    go_enter Try.func7, Try.ntmps7
    go_wp2_with fail
    refine (h1 _).mono ?_
    rintro e w1 ⟨rfl, b1⟩
    have HB1 := Lib.hid b1
    clear b1
    clear h1
    go_wp2_with fail
    refine (h2 _).mono ?_
    rintro e w2 ⟨rfl, b2⟩
    have HB2 : Hid (Below w.heap.size w w2) := HB1.out.trans (b2.mono HB1.out.size)
    clear b2 HB1
    clear h2
    go_wp2_with fail
    refine (awake_any _).mono ?_
    rintro e w3 ⟨rfl, b3⟩
    have HB3 : Hid (Below w.heap.size w w3) := HB2.out.trans (b3.mono HB2.out.size)
    clear b3 HB2
    go_wp2
    go_ret
    exact Ret.mk rfl HB3.out
  · have e3 : ofE x = 14 := if_pos (by omega)
    have e4 : nearE x = 14 := if_pos (by omega)
    rw [e1, e3] at h1
    rw [e2, e4] at h2
    have hz' : ((x : Int) % 4503599627370496 == 0) = false := by simp; omega
    clear e1 e2 e3 e4 hn hn2 n1 n2 hz hb
    go_enter Try.func7, Try.ntmps7
    go_wp2_with fail
    refine (h1 _).mono ?_
    rintro e w1 ⟨rfl, b1⟩
    have HB1 := Lib.hid b1
    clear b1
    clear h1
    go_wp2_with fail
    refine (h2 _).mono ?_
    rintro e w2 ⟨rfl, b2⟩
    have HB2 : Hid (Below w.heap.size w w2) := HB1.out.trans (b2.mono HB1.out.size)
    clear b2 HB1
    clear h2
    go_wp2_with fail
    refine (awake_any _).mono ?_
    rintro e w3 ⟨rfl, b3⟩
    have HB3 : Hid (Below w.heap.size w w3) := HB2.out.trans (b3.mono HB2.out.size)
    clear b3 HB2
    go_wp2
    go_ret
    exact Ret.mk rfl HB3.out

end Go.Proofs.Ytiiojickhegapaa
