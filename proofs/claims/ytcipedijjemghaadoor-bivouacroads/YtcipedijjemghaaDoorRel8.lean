/- Contracts of package relief, eighth part: cell, Slope, Depth. -/
import Derived.Test.YtcipedijjemghaaDoorRel7
namespace Go.Proofs.YtcipedijjemghaaDoor
open Go.RowKit
set_option linter.unusedVariables false

theorem clamp_any (v l m : Int) (w : World) :
    Calls Tryd.prog 50 #[.int .i64 v, .int .i64 l, .int .i64 m] w (Ret (.int .i64 (if v < l then l else if m < v then m else v)) w) := by
  by_cases h1 : v < l
  · rw [if_pos h1]
    go_enter Tryd.func50, Tryd.ntmps50
    go_wp2
    go_ret
    exact Ret.mk rfl (Below.refl _ _)
  · rw [if_neg h1]
    by_cases h2 : m < v
    · rw [if_pos h2]
      go_enter Tryd.func50, Tryd.ntmps50
      go_wp2
      go_ret
      exact Ret.mk rfl (Below.refl _ _)
    · rw [if_neg h2]
      go_enter Tryd.func50, Tryd.ntmps50
      go_wp2
      go_ret
      exact Ret.mk rfl (Below.refl _ _)

/-- The world behind cell's entry: the map's box, and the result's. -/
theorem two_boxes (w : World) (a b c d : Value) (t : TypeId) (a' b' c' d' : Value) (t' : TypeId) :
    Bx w w.heap.size ((w.alloc (.cells #[a, b, c, d] t)).alloc (.cells #[a', b', c', d'] t')) a b c d ∧ Bx w (w.heap.size + 1) ((w.alloc (.cells #[a, b, c, d] t)).alloc (.cells #[a', b', c', d'] t')) a' b' c' d' := by
  refine ⟨(Bx.new w a b c d t).keep ((Below.refl _ _).alloc (Nat.le_refl _) _), ?_⟩
  have h := Bx.next ((Below.refl _ w).alloc (Nat.le_refl _) (.cells #[a, b, c, d] t)) a' b' c' d' t'
  rw [size_alloc] at h
  exact h

set_option maxHeartbeats 1000000 in
theorem cell_bad (W H T i j : Int) (A : Option Addr) (n c : Nat) (w : World) (hn : n ≤ maxLen) (hv : ¬ Val W H T n) :
    Calls Tryd.prog 47 #[.agg #[.int .i64 W, .int .i64 H, .int .i64 T, .slice A n c], .int .i64 i, .int .i64 j] w
      (Ret (.tuple #[.agg #[.int .i64 0, .int .i64 0, .int .i64 0, .int .i64 0], .int .i64 1]) w) := by
  have C := Lib.hid (fun u => check_any W H T A n c u hn)
  obtain ⟨k, ek⟩ : ∃ k, chk W H T n = k := ⟨_, rfl⟩
  obtain ⟨k1, k2⟩ := chk_bad hv
  rw [ek] at C k1 k2
  have hk : (k != 0) = true := by simp; omega
  clear hv ek
  have TB := Lib.hid (two_boxes w (.int .i64 W) (.int .i64 H) (.int .i64 T) (.slice A n c) 45 (.int .i64 0) (.int .i64 0) (.int .i64 0) (.int .i64 0) 85)
  go_enter Tryd.func47, Tryd.ntmps47
  go_wp2_with fail
  refine (C.out _).mono ?_
  rintro e w1 ⟨rfl, b1⟩
  have X1 := Lib.hid (TB.out.2.keep b1)
  clear b1 TB
  obtain ⟨_, c0, c1, c2, c3, f0, f1, f2, f3, _⟩ := X1.out
  go_wp2
  have HP := X1.out.put (.int .i64 0) (.int .i64 0) (.int .i64 0) (.int .i64 0)
  unfold put4 at HP
  refine bodyPost_ret (v := .tuple #[.agg #[.int .i64 0, .int .i64 0, .int .i64 0, .int .i64 0], .int .i64 1]) (by simp [results, Tryd.results47, go_sem, HP.c0, HP.c1, HP.c2, HP.c3]) rfl ?_
  exact Ret.mk rfl HP.below

set_option maxHeartbeats 2000000 in
theorem cell_out (W H T i j : Int) (A : Option Addr) (n c : Nat) (w : World) (hn : n ≤ maxLen) (hv : Val W H T n) (ho : i < 0 ∨ W ≤ i ∨ j < 0 ∨ H ≤ j) :
    Calls Tryd.prog 47 #[.agg #[.int .i64 W, .int .i64 H, .int .i64 T, .slice A n c], .int .i64 i, .int .i64 j] w
      (Ret (.tuple #[.agg #[.int .i64 0, .int .i64 0, .int .i64 0, .int .i64 0], .int .i64 4]) w) := by
  have C := Lib.hid (fun u => check_ok W H T A n c u hn hv)
  clear hv
  have TB := Lib.hid (two_boxes w (.int .i64 W) (.int .i64 H) (.int .i64 T) (.slice A n c) 45 (.int .i64 0) (.int .i64 0) (.int .i64 0) (.int .i64 0) 85)
  have ho' : i < 0 ∨ (¬ i < 0 ∧ decide (W ≤ i) = true) ∨ (¬ i < 0 ∧ decide (W ≤ i) = false ∧ j < 0) ∨ (¬ i < 0 ∧ decide (W ≤ i) = false ∧ ¬ j < 0 ∧ decide (H ≤ j) = true) := by
    simp; omega
  clear ho
  rcases ho' with h1 | ⟨h1, h2⟩ | ⟨h1, h2, h3⟩ | ⟨h1, h2, h3, h4⟩
  all_goals
    go_enter Tryd.func47, Tryd.ntmps47
    go_wp2_with fail
    refine (C.out _).mono ?_
    rintro e w1 ⟨rfl, b1⟩
    have X1 := Lib.hid (TB.out.2.keep b1)
    have X0 := Lib.hid (TB.out.1.keep b1)
    clear b1 TB
    obtain ⟨_, c0, c1, c2, c3, f0, f1, f2, f3, _⟩ := X1.out
    obtain ⟨_, d0, d1, d2, d3, _, _, _, _, _⟩ := X0.out
    go_wp2
    have HP := X1.out.put (.int .i64 0) (.int .i64 0) (.int .i64 0) (.int .i64 0)
    unfold put4 at HP
    refine bodyPost_ret (v := .tuple #[.agg #[.int .i64 0, .int .i64 0, .int .i64 0, .int .i64 0], .int .i64 4]) (by simp [results, Tryd.results47, go_sem, HP.c0, HP.c1, HP.c2, HP.c3]) rfl ?_
    exact Ret.mk rfl HP.below

set_option maxHeartbeats 1000000 in
theorem cell_in (W H T i j : Int) (A : Option Addr) (n c : Nat) (p : Nat → Nat) (w : World) (hn : n ≤ maxLen) (hb : Bs w A n p) (hp : ∀ i, p i < 256) (hv : Val W H T n) (i0 : 0 ≤ i) (i1 : i < W) (j0 : 0 ≤ j) (j1 : j < H) :
    Calls Tryd.prog 47 #[.agg #[.int .i64 W, .int .i64 H, .int .i64 T, .slice A n c], .int .i64 i, .int .i64 j] w
      (Ret (.tuple #[.agg #[.int .i64 (cr p W i j), .int .i64 (cr p W (i + 1) j), .int .i64 (cr p W i (j + 1)), .int .i64 (cr p W (i + 1) (j + 1))], .int .i64 0]) w) := by
  have C := Lib.hid (fun u => check_ok W H T A n c u hn hv)
  have K := Lib.hid (fun u hb => cornersOf_any W H T i j A n c p u hb hp hv i0 i1 j0 j1)
  have HB := Lib.hid hb
  clear hv hb hp
  generalize cr p W i j = ca at *
  generalize cr p W (i + 1) j = cb at *
  generalize cr p W i (j + 1) = cc at *
  generalize cr p W (i + 1) (j + 1) = cd at *
  have k1 : ¬ i < 0 := by omega
  have k2 : decide (W ≤ i) = false := by simp; omega
  have k3 : ¬ j < 0 := by omega
  have k4 : decide (H ≤ j) = false := by simp; omega
  have TB := Lib.hid (two_boxes w (.int .i64 W) (.int .i64 H) (.int .i64 T) (.slice A n c) 45 (.int .i64 0) (.int .i64 0) (.int .i64 0) (.int .i64 0) 85)
  go_enter Tryd.func47, Tryd.ntmps47
  go_wp2_with fail
  refine (C.out _).mono ?_
  rintro e w1 ⟨rfl, b1⟩
  have X1 := Lib.hid (TB.out.2.keep b1)
  have X0 := Lib.hid (TB.out.1.keep b1)
  clear b1 TB
  obtain ⟨_, d0, d1, d2, d3, _, _, _, _, _⟩ := X0.out
  go_wp2_with fail
  refine (K.out _ (HB.out.keep X0.out.below)).mono ?_
  rintro e w2 ⟨rfl, b1⟩
  have X2 := Lib.hid (X1.out.keep b1)
  clear b1 X1 X0 d0 d1 d2 d3
  obtain ⟨_, c0, c1, c2, c3, f0, f1, f2, f3, _⟩ := X2.out
  go_wp2
  have HP := X2.out.put (.int .i64 ca) (.int .i64 cb) (.int .i64 cc) (.int .i64 cd)
  unfold put4 at HP
  refine bodyPost_ret (v := .tuple #[.agg #[.int .i64 ca, .int .i64 cb, .int .i64 cc, .int .i64 cd], .int .i64 0]) (by simp [results, Tryd.results47, go_sem, HP.c0, HP.c1, HP.c2, HP.c3]) rfl ?_
  exact Ret.mk rfl HP.below

end Go.Proofs.YtcipedijjemghaaDoor
