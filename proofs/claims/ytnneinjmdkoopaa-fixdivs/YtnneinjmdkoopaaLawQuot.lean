/- The law package's own 'quotient'. -/
import Derived.Test.YtnneinjmdkoopaaBig10
namespace Go.Proofs.Ytnneinjmdkoopaa
open Go.RowKit
set_option linter.unusedVariables false

theorem cmp_neg (x y : Int) : decide (cmpZ x y < 0) = decide (x < y) := by
  unfold cmpZ
  by_cases h : x = y
  · subst h; simp
  · rw [if_neg h]
    by_cases h2 : x < y <;> simp [h2]
theorem cmp_pos (x y : Int) : decide (0 ≤ cmpZ x y) = decide (y ≤ x) := by
  unfold cmpZ
  by_cases h : x = y
  · subst h; simp
  · rw [if_neg h]
    by_cases h2 : x < y
    · rw [if_pos h2, decide_eq_false (by omega), decide_eq_false (by omega)]
    · rw [if_neg h2, decide_eq_true (by omega), decide_eq_true (by omega)]
theorem fdiv_lt_iff {x y k : Int} (hy : 0 < y) : x.fdiv y < k ↔ x < k * y := by
  rw [Int.fdiv_eq_ediv_of_nonneg x (Int.le_of_lt hy)]
  exact Int.ediv_lt_iff_lt_mul hy
theorem le_fdiv_iff {x y k : Int} (hy : 0 < y) : k ≤ x.fdiv y ↔ k * y ≤ x := by
  rw [Int.fdiv_eq_ediv_of_nonneg x (Int.le_of_lt hy)]
  exact Int.le_ediv_iff_mul_le hy
theorem below_bools (x y : Int) (hy : 0 < y) : decide (cmpZ x (-9223372036854775808 * y) < 0) = decide (x.fdiv y < -9223372036854775808) ∧ decide (0 ≤ cmpZ x ((9223372036854775807 + 1) * y)) = decide (9223372036854775808 ≤ x.fdiv y) := by
  rw [cmp_neg, cmp_pos]
  refine ⟨?_, ?_⟩
  · rw [decide_eq_decide, fdiv_lt_iff hy]
  · rw [decide_eq_decide, le_fdiv_iff hy]
    exact Iff.rfl

theorem below_any (v u : Value) (x y : Int) (w : World) (hv : BigIs w v x) (hu : BigIs w u y) (hx : Prod x) (hy : Word y) (hn : y ≠ 0) :
    Calls Try.prog 30 #[v, u] w (Ret (.tuple #[.bool (decide (x.fdiv y < -9223372036854775808)), .bool (decide (9223372036854775808 ≤ x.fdiv y))]) w) := by
  by_cases h : y < 0
  · have hb := below_bools (-x) (-y) (by omega)
    rw [fdiv_neg_neg] at hb
    have := below_minus v u (-x) (-y) w (by rw [Int.neg_neg]; exact hv) (by rw [Int.neg_neg]; exact hu) (by unfold Prod at *; omega) (by unfold Word at *; omega) (by omega)
    rw [hb.1, hb.2] at this
    exact this
  · have hb := below_bools x y (by omega)
    have := below_plus v u x y w hv hu hx hy (by omega)
    rw [hb.1, hb.2] at this
    exact this

theorem floorH {x y : Int} (hx : Prod x) (hy : Word y) (hp : 0 < y) (hf : Fit (x.fdiv y)) : FloorH x y (x.fdiv y) := by
  have e := Int.mul_fdiv_add_fmod x y
  have m0 := Int.fmod_nonneg_of_pos x hp
  have m1 := Int.fmod_lt_of_pos x hp
  have hm : y * x.fdiv y = x.fdiv y * y := Int.mul_comm _ _
  have er : x - x.fdiv y * y = x.fmod y := by omega
  have hs : Small (x.fdiv y * y) := by
    unfold Small
    rw [Int.natAbs_mul]
    have h1 : (x.fdiv y).natAbs ≤ 9223372036854775808 := by unfold Fit at hf; omega
    exact Nat.lt_of_le_of_lt (Nat.mul_le_mul h1 hy) (by decide)
  refine ⟨small_prod hx, small_word hy, small64 hf.1 hf.2, hs, ?_, by rw [er]; exact m0, by rw [er]; exact m1⟩
  rw [er]
  apply small_word
  unfold Word at *
  omega

theorem floor_any (v u t : Value) (x y : Int) (w : World) (hv : BigIs w v x) (hu : BigIs w u y) (ht : BigIs w t (x.fdiv y)) (hx : Prod x) (hy : Word y) (hn : y ≠ 0) (hf : Fit (x.fdiv y)) :
    Calls Try.prog 31 #[v, u, t] w (Ret (.bool true) w) := by
  by_cases h : y < 0
  · have hH : FloorH (-x) (-y) ((-x).fdiv (-y)) := floorH (by unfold Prod at *; omega) (by unfold Word at *; omega) (by omega) (by rw [fdiv_neg_neg]; exact hf)
    rw [fdiv_neg_neg] at hH
    exact floor_minus v u t (-x) (-y) _ w (by rw [Int.neg_neg]; exact hv) (by rw [Int.neg_neg]; exact hu) ht hH
  · exact floor_plus v u t x y _ w hv hu ht (floorH hx hy (by omega) hf)

end Go.Proofs.Ytnneinjmdkoopaa
