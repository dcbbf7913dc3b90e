/- Plain mathematics of the height map: where a corner lies, heights between four corners. -/
import Derived.RowKit
import Derived.IntWalk
namespace Go.Proofs.YtcipedijjemghaaDoor
set_option linter.unusedVariables false

/-- The place of the corner (i, j). -/
def ix (W i j : Int) : Nat := ((W + 1) * j + i).toNat
theorem ix_bd {W H i j : Int} (w1 : 1 ≤ W) (w2 : W ≤ 64) (h1 : 1 ≤ H) (h2 : H ≤ 64) (i0 : 0 ≤ i) (i1 : i ≤ W) (j0 : 0 ≤ j) (j1 : j ≤ H) :
    0 ≤ (W + 1) * j ∧ (W + 1) * j ≤ 4160 ∧ (W + 1) * j + i < (W + 1) * (H + 1) := by
  have a : 0 ≤ (W + 1) * j := Int.mul_nonneg (by omega) j0
  have b : (W + 1) * j ≤ (W + 1) * H := Int.mul_le_mul_of_nonneg_left j1 (by omega)
  have c : (W + 1) * H ≤ 65 * 64 := Int.mul_le_mul (by omega) h2 (by omega) (by omega)
  have d : (W + 1) * (H + 1) = (W + 1) * H + (W + 1) := by rw [Int.mul_add, Int.mul_one]
  exact ⟨a, by omega, by omega⟩
/-- The corner's height. -/
def cr (p : Nat → Nat) (W i j : Int) : Int := (p (ix W i j) : Int)
theorem cr_bd {p : Nat → Nat} (hp : ∀ i, p i < 256) (W i j : Int) : 0 ≤ cr p W i j ∧ cr p W i j ≤ 255 := by
  unfold cr
  have := hp (ix W i j)
  omega

theorem prod_bd {a b A B : Int} (a0 : 0 ≤ a) (a1 : a ≤ A) (b0 : 0 ≤ b) (b1 : b ≤ B) : 0 ≤ a * b ∧ a * b ≤ A * B :=
  ⟨Int.mul_nonneg a0 b0, Int.mul_le_mul a1 b1 b0 (by omega)⟩

/-- The height at the parts u, v of a cell's sides, its corners a, b, c, d. -/
def hgt (a b c d u v : Int) : Int := ((a * (65536 - u) + b * u) * (65536 - v) + (c * (65536 - u) + d * u) * v) / 65536
theorem hgt_sum (a b c d u v : Int) : a * (65536 - u) * (65536 - v) + b * u * (65536 - v) + c * (65536 - u) * v + d * u * v = (a * (65536 - u) + b * u) * (65536 - v) + (c * (65536 - u) + d * u) * v := by
  rw [Int.add_mul, Int.add_mul]
  omega
/-- Between the ends. -/
theorem mix_bd {a b u l h : Int} (u0 : 0 ≤ u) (u1 : u < 65536) (a0 : l ≤ a) (a1 : a ≤ h) (b0 : l ≤ b) (b1 : b ≤ h) : l * 65536 ≤ a * (65536 - u) + b * u ∧ a * (65536 - u) + b * u ≤ h * 65536 := by
  have e1 : l * (65536 - u) ≤ a * (65536 - u) := Int.mul_le_mul_of_nonneg_right a0 (by omega)
  have e2 : l * u ≤ b * u := Int.mul_le_mul_of_nonneg_right b0 u0
  have e3 : a * (65536 - u) ≤ h * (65536 - u) := Int.mul_le_mul_of_nonneg_right a1 (by omega)
  have e4 : b * u ≤ h * u := Int.mul_le_mul_of_nonneg_right b1 u0
  have e5 : l * (65536 - u) = l * 65536 - l * u := Int.mul_sub _ _ _
  have e6 : h * (65536 - u) = h * 65536 - h * u := Int.mul_sub _ _ _
  omega
theorem hgt_bd {a b c d u v l h : Int} (u0 : 0 ≤ u) (u1 : u < 65536) (v0 : 0 ≤ v) (v1 : v < 65536) (a0 : l ≤ a) (a1 : a ≤ h) (b0 : l ≤ b) (b1 : b ≤ h) (c0 : l ≤ c) (c1 : c ≤ h) (d0 : l ≤ d) (d1 : d ≤ h) :
    l * 65536 ≤ hgt a b c d u v ∧ hgt a b c d u v ≤ h * 65536 := by
  obtain ⟨p1, p2⟩ := mix_bd u0 u1 a0 a1 b0 b1
  obtain ⟨q1, q2⟩ := mix_bd u0 u1 c0 c1 d0 d1
  obtain ⟨r1, r2⟩ := mix_bd v0 v1 p1 p2 q1 q2
  unfold hgt
  omega
theorem hgt_corner (a b c d : Int) : hgt a b c d 0 0 = a * 65536 := by
  unfold hgt
  simp only [Int.sub_zero, Int.mul_zero, Int.add_zero]
  omega

/-- The least and the greatest of four. -/
def lo4 (a b c d : Int) : Int := min (min (min (min 255 a) b) c) d
def hi4 (a b c d : Int) : Int := max (max (max (max 0 a) b) c) d
theorem lo4_bd {a b c d : Int} (a0 : 0 ≤ a) (a1 : a ≤ 255) (b0 : 0 ≤ b) (c0 : 0 ≤ c) (d0 : 0 ≤ d) : 0 ≤ lo4 a b c d ∧ lo4 a b c d ≤ 255 ∧ lo4 a b c d ≤ a ∧ lo4 a b c d ≤ b ∧ lo4 a b c d ≤ c ∧ lo4 a b c d ≤ d := by
  unfold lo4; omega
theorem hi4_bd {a b c d : Int} (a0 : 0 ≤ a) (a1 : a ≤ 255) (b1 : b ≤ 255) (c1 : c ≤ 255) (d1 : d ≤ 255) : 0 ≤ hi4 a b c d ∧ hi4 a b c d ≤ 255 ∧ a ≤ hi4 a b c d ∧ b ≤ hi4 a b c d ∧ c ≤ hi4 a b c d ∧ d ≤ hi4 a b c d := by
  unfold hi4; omega

end Go.Proofs.YtcipedijjemghaaDoor
