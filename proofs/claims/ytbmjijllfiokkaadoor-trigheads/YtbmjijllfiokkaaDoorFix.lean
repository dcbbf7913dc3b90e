/- Contracts of package fix's functions, over the translated program. -/
import Derived.Test.YtbmjijllfiokkaaDoorNum4
import Derived.Test.YtbmjijllfiokkaaDoorRefRoot
namespace Go.Proofs.YtbmjijllfiokkaaDoor
open Go.RowKit
set_option linter.unusedVariables false

theorem fdiv_one (x : Int) : x.fdiv 65536 = x / 65536 := Int.fdiv_eq_ediv_of_nonneg x (by decide)
theorem qV_one (x : Int) : qV x 65536 = rV (x / 65536) := by unfold qV; rw [if_neg (by decide), fdiv_one]
theorem qE_one (x : Int) : qE x 65536 = rE (x / 65536) := by unfold qE; rw [if_neg (by decide), fdiv_one]

set_option maxHeartbeats 400000 in
theorem fixMul_any (a b : Int) (w : World) (ha : -9223372036854775808 ≤ a) (ha' : a ≤ 9223372036854775807) (hb : -9223372036854775808 ≤ b) (hb' : b ≤ 9223372036854775807) :
    Calls Tryd.prog 30 #[.int .i64 a, .int .i64 b] w (Ret (.tuple #[.int .i64 (rV (a * b / 65536)), .int .i64 (rE (a * b / 65536))]) w) := by
  go_enter Tryd.func30, Tryd.ntmps30
  go_wp2_with fail
  refine (muldiv_any _ _ _ _ ha ha' hb hb' (by omega) (by omega)).mono ?_
  rintro e w1 ⟨rfl, b1⟩
  rw [qV_one, qE_one]
  have HB := Lib.hid b1
  clear b1
  go_wp2
  go_ret2
  exact Ret.mk rfl HB.out

/-- What lies between a and b at t, and its error. -/
def LerpOk (a b t : Int) : Prop := Fit (b - a) ∧ Fit ((b - a) * t / 65536)
instance (a b t : Int) : Decidable (LerpOk a b t) := by unfold LerpOk Fit; exact inferInstance
def lerpV (a b t : Int) : Int := if LerpOk a b t then rV (a + (b - a) * t / 65536) else 0
def lerpE (a b t : Int) : Int := if LerpOk a b t then rE (a + (b - a) * t / 65536) else 8

/-- The low sixteen bits of an int64 are its rest by 65536. -/
theorem and_low16 (a : Int) : bits BinOp.and IntKind.i64 a 65535 = a % 65536 := by
  have h1 : (BitVec.ofInt 64 a &&& BitVec.ofInt 64 65535).toNat = (a % 18446744073709551616).toNat % 65536 := by
    rw [BitVec.toNat_and, BitVec.toNat_ofInt, BitVec.toNat_ofInt]
    have := Nat.and_two_pow_sub_one_eq_mod (a % 18446744073709551616).toNat 16
    exact this
  have h2 : bits BinOp.and IntKind.i64 a 65535 = IntKind.i64.wrap (((BitVec.ofInt 64 a &&& BitVec.ofInt 64 65535).toNat : Nat) : Int) := rfl
  rw [h2, h1, IntWalk.i64_in _ (by omega)]
  omega

/-- The step at the head of the round in which the bits from k on are found. -/
def stp (k : Nat) : Int := 2 ^ k / 2
theorem stp_succ (k : Nat) : stp (k + 1) = 2 ^ k := by unfold stp; rw [Int.pow_succ]; omega
theorem stp_half (k : Nat) : stp (k + 1) / 2 = stp k := by rw [stp_succ]; rfl

/-- A root comes back, without an error; the world is as it was. -/
def RetRoot2 (n : Int) (w : World) (e : Ending) (w' : World) : Prop := ∃ r, IsRoot n r ∧ e = .returned (.tuple #[.int .i64 r, .int .i64 0]) ∧ r ≤ 4294967295 ∧ w = w'

/-- No way's side is too far. -/
def Near2 (x y : Int) : Prop := -1073741824 ≤ x ∧ x ≤ 1073741824 ∧ -1073741824 ≤ y ∧ y ≤ 1073741824
theorem Near2.sq {x y : Int} (h : Near2 x y) : 0 ≤ x * x ∧ x * x ≤ 1152921504606846976 ∧ 0 ≤ y * y ∧ y * y ≤ 1152921504606846976 := by
  have hx : x * x = (x.natAbs : Int) * (x.natAbs : Int) := Int.natAbs_mul_self.symm
  have hy : y * y = (y.natAbs : Int) * (y.natAbs : Int) := Int.natAbs_mul_self.symm
  unfold Near2 at h
  have g : ∀ n : Nat, n ≤ 1073741824 → 0 ≤ (n : Int) * n ∧ (n : Int) * n ≤ 1152921504606846976 := by
    intro n hn
    have : n * n ≤ 1073741824 * 1073741824 := Nat.mul_le_mul hn hn
    constructor
    · exact Int.mul_nonneg (by omega) (by omega)
    · have h2 : ((n * n : Nat) : Int) ≤ ((1073741824 * 1073741824 : Nat) : Int) := Int.ofNat_le.2 this
      simpa using h2
  rw [hx, hy]
  exact ⟨(g _ (by omega)).1, (g _ (by omega)).2, (g _ (by omega)).1, (g _ (by omega)).2⟩

end Go.Proofs.YtbmjijllfiokkaaDoor
