/- Contracts of package fix's functions, over the translated program. -/
import Derived.Test.YtckeplbmkjoiaaaDoorNum4
import Derived.Test.YtckeplbmkjoiaaaDoorRefRoot
namespace Go.Proofs.YtckeplbmkjoiaaaDoor
open Go.RowKit
set_option linter.unusedVariables false

theorem fdiv_one (x : Int) : x.fdiv 65536 = x / 65536 := Int.fdiv_eq_ediv_of_nonneg x (by decide)
theorem qV_one (x : Int) : qV x 65536 = rV (x / 65536) := by unfold qV; rw [if_neg (by decide), fdiv_one]
theorem qE_one (x : Int) : qE x 65536 = rE (x / 65536) := by unfold qE; rw [if_neg (by decide), fdiv_one]

set_option maxHeartbeats 400000 in
theorem fixMul_any (a b : Int) (w : World) (ha : -9223372036854775808 ≤ a) (ha' : a ≤ 9223372036854775807) (hb : -9223372036854775808 ≤ b) (hb' : b ≤ 9223372036854775807) :
    Calls Tryd.prog 57 #[.int .i64 a, .int .i64 b] w (Ret (.tuple #[.int .i64 (rV (a * b / 65536)), .int .i64 (rE (a * b / 65536))]) w) := by
  go_enter Tryd.func57, Tryd.ntmps57
  go_wp2_with fail
  refine (muldiv_any _ _ _ _ ha ha' hb hb' (by omega) (by omega)).mono ?_
  rintro e w1 ⟨rfl, b1⟩
  rw [qV_one, qE_one]
  have HB := Lib.hid b1
  clear b1
  go_wp2
  go_ret2
  exact Ret.mk rfl HB.out

/-- What lies between a and b at t, and its error. -/
def LerpOk (a b t : Int) : Prop := Fit (b - a) ∧ Fit ((b - a) * t / 65536)
instance (a b t : Int) : Decidable (LerpOk a b t) := by unfold LerpOk Fit; exact inferInstance
def lerpV (a b t : Int) : Int := if LerpOk a b t then rV (a + (b - a) * t / 65536) else 0
def lerpE (a b t : Int) : Int := if LerpOk a b t then rE (a + (b - a) * t / 65536) else 8

/-- The low sixteen bits of an int64 are its rest by 65536. -/
theorem and_low16 (a : Int) : bits BinOp.and IntKind.i64 a 65535 = a % 65536 := by
  have h1 : (BitVec.ofInt 64 a &&& BitVec.ofInt 64 65535).toNat = (a % 18446744073709551616).toNat % 65536 := by
    rw [BitVec.toNat_and, BitVec.toNat_ofInt, BitVec.toNat_ofInt]
    have := Nat.and_two_pow_sub_one_eq_mod (a % 18446744073709551616).toNat 16
    exact this
  have h2 : bits BinOp.and IntKind.i64 a 65535 = IntKind.i64.wrap (((BitVec.ofInt 64 a &&& BitVec.ofInt 64 65535).toNat : Nat) : Int) := rfl
  rw [h2, h1, IntWalk.i64_in _ (by omega)]
  omega

/-- The step at the head of the round in which the bits from k on are found. -/
def stp (k : Nat) : Int := 2 ^ k / 2
theorem stp_succ (k : Nat) : stp (k + 1) = 2 ^ k := by unfold stp; rw [Int.pow_succ]; omega
theorem stp_half (k : Nat) : stp (k + 1) / 2 = stp k := by rw [stp_succ]; rfl

set_option maxHeartbeats 400000 in
theorem fixRoot_any (n : Int) (w : World) (h0 : 0 ≤ n) (h1 : n ≤ 18446744073709551615) :
    Calls Tryd.prog 47 #[.int .u64 n] w (RetRoot n w) := by
  have HS := Lib.hid (RootR.start n h0 h1)
  go_enter Tryd.func47, Tryd.ntmps47
  go_wp2
  go_step3
  go_wp2
  go_step3
  go_wp2
  go_loop [3, 4] (fun r s => ∃ (k : Nat) (R : Int), k ≤ 32 ∧ s = .int .u64 (stp k) ∧ r = .int .u64 R ∧ Hid (RootR n R k)) (fun _ s => (intOf s).toNat)
  case atStart => exact ⟨32, 0, by omega, congrArg (Value.int .u64) (by decide), rfl, HS⟩
  case round =>
    obtain ⟨k, R, hk, rfl, rfl, HR⟩ := hrel
    rcases k with _ | k
    · rw [show stp 0 = 0 by decide]
      obtain ⟨hd, hd2⟩ := HR.out.done
      have hp := HR.out.pos
      have HD := Lib.hid hd
      clear hd
      go_wp2
      go_ret
      exact ⟨R, HD.out, rfl, hd2, rfl⟩
    · obtain ⟨b0, b1, b2, b3, b4, b5⟩ := HR.out.bits (by omega)
      have HH := Lib.hid (stp_half k)
      have HE := Lib.hid (stp_succ k)
      rw [← HE.out] at b0 b1 b3 b4 b5
      by_cases hc : (R + stp (k + 1)) * (R + stp (k + 1)) ≤ n
      · have HR' : Hid (RootR n (R + stp (k + 1)) k) := by have := HR.out.yes (by rw [← HE.out]; exact hc); rw [← HE.out] at this; exact this
        generalize stp (k + 1) = S at *
        have hz : (S == 0) = false := by simp; omega
        go_wp2
        go_round
        case rel => exact ⟨k, R + S, by omega, congrArg (Value.int .u64) HH.out, rfl, HR'⟩
        case measure => simp [intOf]; omega
      · have HR' := Lib.hid (HR.out.no (by rw [← HE.out]; exact hc))
        generalize stp (k + 1) = S at *
        have hz : (S == 0) = false := by simp; omega
        go_wp2
        go_round
        case rel => exact ⟨k, R, by omega, congrArg (Value.int .u64) HH.out, rfl, HR'⟩
        case measure => simp [intOf]; omega

/-- A root comes back, without an error; the world is as it was. -/
def RetRoot2 (n : Int) (w : World) (e : Ending) (w' : World) : Prop := ∃ r, IsRoot n r ∧ e = .returned (.tuple #[.int .i64 r, .int .i64 0]) ∧ r ≤ 4294967295 ∧ w = w'

set_option maxHeartbeats 400000 in
theorem tooFar_any (v : Int) (w : World) :
    Calls Tryd.prog 46 #[.int .i64 v] w (fun e w' => e = .returned (.bool (decide (v < -1073741824 ∨ 1073741824 < v))) ∧ w = w') := by
  by_cases h1 : v < -1073741824
  · rw [decide_eq_true (Or.inl h1)]
    go_enter Tryd.func46, Tryd.ntmps46
    go_wp2
    go_ret
    exact ⟨rfl, rfl⟩
  · by_cases h2 : 1073741824 < v
    · rw [decide_eq_true (Or.inr h2)]
      go_enter Tryd.func46, Tryd.ntmps46
      go_wp2
      go_ret
      exact ⟨rfl, rfl⟩
    · rw [decide_eq_false (by omega)]
      go_enter Tryd.func46, Tryd.ntmps46
      go_wp2
      go_ret
      exact ⟨rfl, rfl⟩

/-- No way's side is too far. -/
def Near2 (x y : Int) : Prop := -1073741824 ≤ x ∧ x ≤ 1073741824 ∧ -1073741824 ≤ y ∧ y ≤ 1073741824
theorem Near2.sq {x y : Int} (h : Near2 x y) : 0 ≤ x * x ∧ x * x ≤ 1152921504606846976 ∧ 0 ≤ y * y ∧ y * y ≤ 1152921504606846976 := by
  have hx : x * x = (x.natAbs : Int) * (x.natAbs : Int) := Int.natAbs_mul_self.symm
  have hy : y * y = (y.natAbs : Int) * (y.natAbs : Int) := Int.natAbs_mul_self.symm
  unfold Near2 at h
  have g : ∀ n : Nat, n ≤ 1073741824 → 0 ≤ (n : Int) * n ∧ (n : Int) * n ≤ 1152921504606846976 := by
    intro n hn
    have : n * n ≤ 1073741824 * 1073741824 := Nat.mul_le_mul hn hn
    constructor
    · exact Int.mul_nonneg (by omega) (by omega)
    · have h2 : ((n * n : Nat) : Int) ≤ ((1073741824 * 1073741824 : Nat) : Int) := Int.ofNat_le.2 this
      simpa using h2
  rw [hx, hy]
  exact ⟨(g _ (by omega)).1, (g _ (by omega)).2, (g _ (by omega)).1, (g _ (by omega)).2⟩

set_option maxHeartbeats 400000 in
theorem length_over (x y : Int) (w : World) (h : ¬ Near2 x y) :
    Calls Tryd.prog 34 #[.int .i64 x, .int .i64 y] w (Ret (.tuple #[.int .i64 0, .int .i64 8]) w) := by
  by_cases h1 : x < -1073741824 ∨ 1073741824 < x
  · have HD := Lib.hid (decide_eq_true h1)
    clear h1 h
    go_enter Tryd.func34, Tryd.ntmps34
    go_wp2_with fail
    refine (tooFar_any _ _).mono ?_
    rw [HD.out]
    rintro e w1 ⟨rfl, rfl⟩
    go_wp2
    go_ret2
    exact Ret.mk rfl (Below.refl _ _)
  · have HD := Lib.hid (decide_eq_false h1)
    have HD2 : Hid (decide (y < -1073741824 ∨ 1073741824 < y) = true) := decide_eq_true (by unfold Near2 at h; omega)
    clear h1 h
    go_enter Tryd.func34, Tryd.ntmps34
    go_wp2_with fail
    refine (tooFar_any _ _).mono ?_
    rw [HD.out]
    rintro e w1 ⟨rfl, rfl⟩
    go_wp2_with fail
    refine (tooFar_any _ _).mono ?_
    rw [HD2.out]
    rintro e w2 ⟨rfl, rfl⟩
    go_wp2
    go_ret2
    exact Ret.mk rfl (Below.refl _ _)

set_option maxHeartbeats 400000 in
theorem length_in (x y : Int) (w : World) (h : Near2 x y) :
    Calls Tryd.prog 34 #[.int .i64 x, .int .i64 y] w (RetRoot2 (x * x + y * y) w) := by
  have HD : Hid (decide (x < -1073741824 ∨ 1073741824 < x) = false) := decide_eq_false (by unfold Near2 at h; omega)
  have HD2 : Hid (decide (y < -1073741824 ∨ 1073741824 < y) = false) := decide_eq_false (by unfold Near2 at h; omega)
  obtain ⟨s0, s1, s2, s3⟩ := h.sq
  unfold Near2 at h
  obtain ⟨n0, n1, n2, n3⟩ := h
  go_enter Tryd.func34, Tryd.ntmps34
  go_wp2_with fail
  refine (tooFar_any _ _).mono ?_
  rw [HD.out]
  rintro e w1 ⟨rfl, rfl⟩
  go_wp2_with fail
  refine (tooFar_any _ _).mono ?_
  rw [HD2.out]
  rintro e w2 ⟨rfl, rfl⟩
  go_wp2_with fail
  refine (fixRoot_any (x * x + y * y) _ (by omega) (by omega)).mono ?_
  rintro e w1 ⟨r, hr, rfl, hr2, rfl⟩
  have hr0 := hr.pos
  have HR := Lib.hid hr
  clear hr
  go_wp2
  go_ret2
  exact ⟨r, HR.out, rfl, hr2, rfl⟩

end Go.Proofs.YtckeplbmkjoiaaaDoor
