/- Contracts of package ray, first part: steps, carry, near; the reference's abs, floor, Long, Cell, Is. -/
import Derived.Test.YtljedkceicahaaaSeq8
import Derived.Test.YtljedkceicahaaaRyMath
namespace Go.Proofs.Ytljedkceicahaaa
open Go.RowKit Go.Shelf
set_option linter.unusedVariables false

theorem lng_max (a b c d : Int) : max (max (max (c - a) (-(c - a))) (d - b)) (-(d - b)) = (lng a b c d : Int) := by unfold lng; omega

theorem bl_drewN {B : Nat} {a w : World} (h : Below B a w) (n : Nat) : Below B a (w.drewN n) := ⟨h.os, h.tape, h.output, h.size, h.block⟩
theorem ite_max (x y : Int) : (if x < y then y else x) = max x y := by split <;> omega
theorem ite_min (x y : Int) : (if y < x then y else x) = min x y := by split <;> omega
theorem run_max4 (P : Program) (ts : Array TypeId) (t : TypeId) (k : IntKind) (x y z u M : Int) (h : max (max (max x y) z) u = M) (w : World) : (Builtin.max_ ts t #[.int k x, .int k y, .int k z, .int k u]).run P w = .ok (.int k M) w := by
  subst h
  simp [Builtin.max_, Builtin.max2, ite_max]
theorem run_min4 (P : Program) (ts : Array TypeId) (t : TypeId) (k : IntKind) (x y z u M : Int) (h : min (min (min x y) z) u = M) (w : World) : (Builtin.min_ ts t #[.int k x, .int k y, .int k z, .int k u]).run P w = .ok (.int k M) w := by
  subst h
  simp [Builtin.min_, Builtin.min2, ite_min]

set_option maxHeartbeats 400000 in
theorem steps_any (a b c d : Int) (w : World) (a0 : 0 ≤ a) (a1 : a ≤ 63) (b0 : 0 ≤ b) (b1 : b ≤ 63) (c0 : 0 ≤ c) (c1 : c ≤ 63) (d0 : 0 ≤ d) (d1 : d ≤ 63) :
    Calls Try.prog 25 #[.agg #[.int .i64 a, .int .i64 b], .agg #[.int .i64 c, .int .i64 d]] w (Ret (.int .i64 (lng a b c d : Int)) w) := by
  have hm := fun u => run_max4 Try.prog #[3, 3, 3, 3] 3 .i64 _ _ _ _ _ (lng_max a b c d) u
  go_enter Try.func25, Try.ntmps25
  go_wp2
  go_quiet (fail)
  go_wp2
  go_ret
  exact Ret.mk rfl (bl_drewN (((Below.refl _ _).alloc (Nat.le_refl _) _).alloc (by simp) _) _)

set_option maxHeartbeats 400000 in
theorem carry_any (c r wh : Int) (w : World) (c0 : -100 ≤ c) (c1 : c ≤ 100) (r0 : -1000 ≤ r) (r1 : r ≤ 1000) (w0 : 0 ≤ wh) (w1 : wh ≤ 1000) :
    Calls Try.prog 36 #[.int .i64 c, .int .i64 r, .int .i64 wh] w fun e w' => e = .returned (.tuple #[.int .i64 (cyA c r wh), .int .i64 (cyR r wh)]) ∧ w = w' := by
  unfold cyA cyR
  by_cases h1 : wh ≤ r
  · rw [if_pos h1, if_pos h1]
    go_enter Try.func36, Try.ntmps36
    go_wp2
    go_ret2
    exact ⟨rfl, rfl⟩
  · rw [if_neg h1, if_neg h1]
    by_cases h2 : r < 0
    · rw [if_pos h2, if_pos h2]
      go_enter Try.func36, Try.ntmps36
      go_wp2
      go_ret2
      exact ⟨rfl, rfl⟩
    · rw [if_neg h2, if_neg h2]
      go_enter Try.func36, Try.ntmps36
      go_wp2
      go_ret2
      exact ⟨rfl, rfl⟩

set_option maxHeartbeats 400000 in
theorem near_any (a b c d r : Int) (w : World) (a0 : 0 ≤ a) (a1 : a ≤ 63) (b0 : 0 ≤ b) (b1 : b ≤ 63) (c0 : 0 ≤ c) (c1 : c ≤ 63) (d0 : 0 ≤ d) (d1 : d ≤ 63) (r0 : 0 ≤ r) (r1 : r ≤ 64) :
    Calls Try.prog 34 #[.agg #[.int .i64 a, .int .i64 b], .agg #[.int .i64 c, .int .i64 d], .int .i64 r] w (Ret (.bool (decide ((c - a) * (c - a) + (d - b) * (d - b) ≤ r * r))) w) := by
  have p1 : (c - a) * (c - a) ≤ 63 * 63 := by
    rcases Int.le_total a c with h | h
    · exact Int.mul_le_mul (by omega) (by omega) (by omega) (by omega)
    · rw [← Int.neg_mul_neg (c - a)]; exact Int.mul_le_mul (by omega) (by omega) (by omega) (by omega)
  have p2 : (d - b) * (d - b) ≤ 63 * 63 := by
    rcases Int.le_total b d with h | h
    · exact Int.mul_le_mul (by omega) (by omega) (by omega) (by omega)
    · rw [← Int.neg_mul_neg (d - b)]; exact Int.mul_le_mul (by omega) (by omega) (by omega) (by omega)
  have p3 : 0 ≤ (c - a) * (c - a) := by rw [← Int.natAbs_mul_self]; omega
  have p4 : 0 ≤ (d - b) * (d - b) := by rw [← Int.natAbs_mul_self]; omega
  have p5 : 0 ≤ r * r := Int.mul_nonneg r0 r0
  have p6 : r * r ≤ 64 * 64 := Int.mul_le_mul r1 r1 r0 (by omega)
  go_enter Try.func34, Try.ntmps34
  go_wp2
  go_quiet (fail)
  go_wp2
  go_ret
  exact Ret.mk rfl (bl_drewN (((Below.refl _ _).alloc (Nat.le_refl _) _).alloc (by simp) _) _)

theorem abs_any (v : Int) (w : World) (v0 : -1000 ≤ v) (v1 : v ≤ 1000) : Calls Try.prog 27 #[.int .i64 v] w fun e w' => e = .returned (.int .i64 (v.natAbs : Int)) ∧ w = w' := by
  by_cases h : v < 0
  · have HE : Hid ((v.natAbs : Int) = -v) := by show _ = _; omega
    rw [HE.out]
    go_enter Try.func27, Try.ntmps27
    go_wp2
    go_ret
    exact ⟨rfl, rfl⟩
  · have HE : Hid ((v.natAbs : Int) = v) := by show _ = _; omega
    rw [HE.out]
    go_enter Try.func27, Try.ntmps27
    go_wp2
    go_ret
    exact ⟨rfl, rfl⟩

theorem isCell_any (W H T i j : Int) (A : Option Addr) (n c : Nat) (w : World) :
    Calls Try.prog 18 #[.agg #[.int .i64 W, .int .i64 H, .int .i64 T, .slice A n c], .int .i64 i, .int .i64 j] w (Ret (.bool (decide (0 ≤ i ∧ i < W ∧ 0 ≤ j ∧ j < H))) w) := by
  by_cases h1 : 0 ≤ i
  · by_cases h2 : i < W
    · by_cases h3 : 0 ≤ j
      · by_cases h4 : j < H
        · have HE : Hid (decide (0 ≤ i ∧ i < W ∧ 0 ≤ j ∧ j < H) = true) := by show _ = _; simp; omega
          rw [HE.out]
          go_enter Try.func18, Try.ntmps18
          go_wp2
          go_ret
          exact Ret.mk rfl ((Below.refl _ _).alloc (Nat.le_refl _) _)
        · have HE : Hid (decide (0 ≤ i ∧ i < W ∧ 0 ≤ j ∧ j < H) = false) := by show _ = _; simp; omega
          rw [HE.out]
          have hb : decide (j < H) = false := by simp; omega
          go_enter Try.func18, Try.ntmps18
          go_wp2
          go_ret
          exact Ret.mk rfl ((Below.refl _ _).alloc (Nat.le_refl _) _)
      · have HE : Hid (decide (0 ≤ i ∧ i < W ∧ 0 ≤ j ∧ j < H) = false) := by show _ = _; simp; omega
        rw [HE.out]
        have hb : decide (0 ≤ j) = false := by simp; omega
        go_enter Try.func18, Try.ntmps18
        go_wp2
        go_ret
        exact Ret.mk rfl ((Below.refl _ _).alloc (Nat.le_refl _) _)
    · have HE : Hid (decide (0 ≤ i ∧ i < W ∧ 0 ≤ j ∧ j < H) = false) := by show _ = _; simp; omega
      rw [HE.out]
      have hb : decide (i < W) = false := by simp; omega
      go_enter Try.func18, Try.ntmps18
      go_wp2
      go_ret
      exact Ret.mk rfl ((Below.refl _ _).alloc (Nat.le_refl _) _)
  · have HE : Hid (decide (0 ≤ i ∧ i < W ∧ 0 ≤ j ∧ j < H) = false) := by show _ = _; simp; omega
    rw [HE.out]
    have hb : decide (0 ≤ i) = false := by simp; omega
    go_enter Try.func18, Try.ntmps18
    go_wp2
    go_ret
    exact Ret.mk rfl ((Below.refl _ _).alloc (Nat.le_refl _) _)

end Go.Proofs.Ytljedkceicahaaa
