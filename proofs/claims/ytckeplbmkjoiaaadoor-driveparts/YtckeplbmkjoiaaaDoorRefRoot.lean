/- The reference's Root (layer 2): the greatest number whose square is not above. -/
import Derived.Test.YtckeplbmkjoiaaaDoorNum
namespace Go.Proofs.YtckeplbmkjoiaaaDoor
open Go.RowKit
set_option linter.unusedVariables false

/-- r is the greatest whole number whose square is not above n. -/
structure IsRoot (n r : Int) : Prop where
  pos : 0 ≤ r
  le : r * r ≤ n
  lt : n < (r + 1) * (r + 1)
theorem sq_mono {a b : Int} (h0 : 0 ≤ a) (h : a ≤ b) : a * a ≤ b * b := Int.mul_le_mul h h h0 (by omega)
theorem IsRoot.same {n r s : Int} (h : IsRoot n r) (k : IsRoot n s) : r = s := by
  rcases Int.lt_trichotomy r s with c | c | c
  · have := sq_mono (a := r + 1) (b := s) (by have := h.pos; omega) (by omega)
    have := h.lt
    have := k.le
    omega
  · exact c
  · have := sq_mono (a := s + 1) (b := r) (by have := k.pos; omega) (by omega)
    have := k.lt
    have := h.le
    omega
/-- A root comes back; the world is as it was. -/
def RetRoot (n : Int) (w : World) (e : Ending) (w' : World) : Prop := ∃ r, IsRoot n r ∧ e = .returned (.int .u64 r) ∧ r ≤ 4294967295 ∧ w = w'

/-- The round's head: the bits from k on are found. -/
structure RootR (n R : Int) (k : Nat) : Prop where
  pos : 0 ≤ R
  top : R + 2 ^ k ≤ 4294967296
  le : R * R ≤ n
  lt : n < (R + 2 ^ k) * (R + 2 ^ k)
theorem RootR.start (n : Int) (h0 : 0 ≤ n) (h1 : n ≤ 18446744073709551615) : RootR n 0 32 := ⟨by omega, by decide, by omega, by simp; omega⟩
theorem RootR.yes {n R : Int} {k : Nat} (h : RootR n R (k + 1)) (hc : (R + 2 ^ k) * (R + 2 ^ k) ≤ n) : RootR n (R + 2 ^ k) k := by
  have hp : (0 : Int) < 2 ^ k := Int.pow_pos (by omega)
  have e : (2 : Int) ^ (k + 1) = 2 ^ k + 2 ^ k := by rw [Int.pow_succ]; omega
  have h1 := h.top
  have h2 := h.lt
  have h3 := h.pos
  rw [e] at h1 h2
  exact ⟨by omega, by omega, hc, by rw [Int.add_assoc]; exact h2⟩
theorem RootR.no {n R : Int} {k : Nat} (h : RootR n R (k + 1)) (hc : ¬ (R + 2 ^ k) * (R + 2 ^ k) ≤ n) : RootR n R k := by
  have hp : (0 : Int) < 2 ^ k := Int.pow_pos (by omega)
  have e : (2 : Int) ^ (k + 1) = 2 ^ k + 2 ^ k := by rw [Int.pow_succ]; omega
  have h1 := h.top
  rw [e] at h1
  exact ⟨h.pos, by omega, h.le, by omega⟩
theorem RootR.done {n R : Int} (h : RootR n R 0) : IsRoot n R ∧ R ≤ 4294967295 := by
  have h1 := h.top
  have h2 := h.lt
  simp at h1 h2
  exact ⟨⟨h.pos, h.le, h2⟩, by omega⟩
theorem RootR.bits {n R : Int} {k : Nat} (h : RootR n R (k + 1)) (hk : k < 32) : 0 < (2 : Int) ^ k ∧ (2 : Int) ^ k ≤ 2147483648 ∧ 0 ≤ R ∧ R + 2 ^ k ≤ 4294967295 ∧ 0 ≤ (R + 2 ^ k) * (R + 2 ^ k) ∧ (R + 2 ^ k) * (R + 2 ^ k) ≤ 18446744065119617025 := by
  have hp : (0 : Int) < 2 ^ k := Int.pow_pos (by omega)
  have e : (2 : Int) ^ (k + 1) = 2 ^ k + 2 ^ k := by rw [Int.pow_succ]; omega
  have h1 := h.top
  rw [e] at h1
  have h3 := h.pos
  have hq : (2 : Int) ^ k ≤ 2147483648 := by
    have g : 2 ^ k ≤ 2 ^ 31 := Nat.pow_le_pow_right (by omega) (by omega : k ≤ 31)
    have g2 : ((2 ^ k : Nat) : Int) ≤ ((2 ^ 31 : Nat) : Int) := Int.ofNat_le.2 g
    rw [Int.natCast_pow] at g2
    simpa using g2
  have b := prod_bound (R + 2 ^ k) (R + 2 ^ k) (by omega) (by omega) (by omega) (by omega)
  exact ⟨hp, hq, h3, by omega, b.1, b.2⟩

set_option maxHeartbeats 400000 in
theorem root_any (n : Int) (w : World) (h0 : 0 ≤ n) (h1 : n ≤ 18446744073709551615) :
    Calls Tryd.prog 24 #[.int .u64 n] w (RetRoot n w) := by
  have HS := Lib.hid (RootR.start n h0 h1)
  go_enter Tryd.func24, Tryd.ntmps24
  go_wp2
  go_loop [3, 4] (fun r i => ∃ (k : Nat) (R : Int), k ≤ 32 ∧ i = .int .i64 ((k : Int) - 1) ∧ r = .int .u64 R ∧ Hid (RootR n R k)) (fun _ i => (intOf i + 1).toNat)
  case atStart => exact ⟨32, 0, by omega, by go_num, rfl, HS⟩
  case round =>
    obtain ⟨k, R, hk, rfl, rfl, HR⟩ := hrel
    rcases k with _ | k
    · have e0 : (((0 : Nat) : Int) - 1) = -1 := by omega
      rw [e0]
      clear e0
      obtain ⟨hd, hd2⟩ := HR.out.done
      have HD := Lib.hid hd
      clear hd
      go_wp2
      go_ret
      exact ⟨R, HD.out, rfl, hd2, rfl⟩
    · have e1 : (((k + 1 : Nat) : Int) - 1) = (k : Int) := by omega
      rw [e1]
      clear e1
      obtain ⟨b0, b1, b2, b3, b4, b5⟩ := HR.out.bits (by omega)
      by_cases hc : (R + 2 ^ k) * (R + 2 ^ k) ≤ n
      · have HR' := Lib.hid (HR.out.yes hc)
        go_wp2
        go_round
        case rel => exact ⟨k, R + 2 ^ k, by omega, rfl, rfl, HR'⟩
        case measure => simp [intOf]
      · have HR' := Lib.hid (HR.out.no hc)
        go_wp2
        go_round
        case rel => exact ⟨k, R, by omega, rfl, rfl, HR'⟩
        case measure => simp [intOf]

end Go.Proofs.YtckeplbmkjoiaaaDoor
