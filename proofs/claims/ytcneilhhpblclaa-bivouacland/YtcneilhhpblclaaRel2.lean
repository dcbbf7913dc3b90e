/- Contracts of package relief, second part: places, few, corners, heights. -/
import Derived.Test.YtcneilhhpblclaaRel1
import Derived.Test.YtcneilhhpblclaaRelMath
namespace Go.Proofs.Ytcneilhhpblclaa
open Go.RowKit
set_option linter.unusedVariables false

/-- A map that may be. -/
structure Val (W H T : Int) (n : Nat) : Prop where
  s : Sides W H T
  e : (n : Int) = (W + 1) * (H + 1)
theorem chk_ok {W H T : Int} {n : Nat} (h : Val W H T n) : chk W H T n = 0 := by
  unfold chk
  rw [if_pos h.s, if_neg (by have := h.e; omega), if_neg (by have := h.e; omega)]
theorem chk_bad {W H T : Int} {n : Nat} (h : ¬ Val W H T n) : 1 ≤ chk W H T n ∧ chk W H T n ≤ 7 := by
  unfold chk
  by_cases hs : Sides W H T
  · rw [if_pos hs]
    have : ¬ (n : Int) = (W + 1) * (H + 1) := fun e => h ⟨hs, e⟩
    split
    · omega
    · rw [if_pos (by omega)]; omega
  · rw [if_neg hs]; omega
/-- A place on the map. -/
def On (W H x y : Int) : Prop := 0 ≤ x ∧ x < W * 65536 ∧ 0 ≤ y ∧ y < H * 65536

set_option maxHeartbeats 400000 in
theorem within_in (v c : Int) (w : World) (c1 : 1 ≤ c) (c2 : c ≤ 64) (h1 : 0 ≤ v) (h2 : v < c * 65536) : Calls Try.prog 45 #[.int .i64 v, .int .i64 c] w fun e w' => e = .returned (.bool true) ∧ w = w' := by
  go_enter Try.func45, Try.ntmps45
  go_wp2
  go_ret
  exact ⟨by simp, rfl⟩
set_option maxHeartbeats 400000 in
theorem within_out (v c : Int) (w : World) (c1 : 1 ≤ c) (c2 : c ≤ 64) (h : v < 0 ∨ c * 65536 ≤ v) : Calls Try.prog 45 #[.int .i64 v, .int .i64 c] w fun e w' => e = .returned (.bool false) ∧ w = w' := by
  rcases Int.lt_or_le v 0 with h | h0
  · go_enter Try.func45, Try.ntmps45
    go_wp2
    go_ret
    exact ⟨by simp, rfl⟩
  · have h2 : c * 65536 ≤ v := by omega
    have hb : decide (v < c * 65536) = false := by simp; omega
    clear h
    go_enter Try.func45, Try.ntmps45
    go_wp2
    go_ret
    exact ⟨by simp, rfl⟩

set_option maxHeartbeats 400000 in
theorem inside_in (W H T x y : Int) (A : Option Addr) (n c : Nat) (w : World) (hS : Sides W H T) (ho : On W H x y) :
    Calls Try.prog 32 #[.agg #[.int .i64 W, .int .i64 H, .int .i64 T, .slice A n c], .int .i64 x, .int .i64 y] w (Ret (.bool true) w) := by
  obtain ⟨hW1, hW2, hH1, hH2, hT, hT2⟩ := hS
  obtain ⟨x0, x1, y0, y1⟩ := ho
  go_enter Try.func32, Try.ntmps32
  go_wp2_with fail
  refine (within_in x W _ hW1 hW2 x0 x1).mono ?_
  rintro e w1 ⟨rfl, rfl⟩
  go_wp2_with fail
  refine (within_in y H _ hH1 hH2 y0 y1).mono ?_
  rintro e w1 ⟨rfl, rfl⟩
  go_wp2
  go_ret
  exact Ret.mk rfl ((Below.refl _ _).alloc (Nat.le_refl _) _)
set_option maxHeartbeats 400000 in
theorem inside_out (W H T x y : Int) (A : Option Addr) (n c : Nat) (w : World) (hS : Sides W H T) (ho : ¬ On W H x y) :
    Calls Try.prog 32 #[.agg #[.int .i64 W, .int .i64 H, .int .i64 T, .slice A n c], .int .i64 x, .int .i64 y] w (Ret (.bool false) w) := by
  obtain ⟨hW1, hW2, hH1, hH2, hT, hT2⟩ := hS
  unfold On at ho
  by_cases hx : 0 ≤ x ∧ x < W * 65536
  · obtain ⟨x0, x1⟩ := hx
    have hy : y < 0 ∨ H * 65536 ≤ y := by omega
    clear ho
    go_enter Try.func32, Try.ntmps32
    go_wp2_with fail
    refine (within_in x W _ hW1 hW2 x0 x1).mono ?_
    rintro e w1 ⟨rfl, rfl⟩
    go_wp2_with fail
    refine (within_out y H _ hH1 hH2 hy).mono ?_
    rintro e w1 ⟨rfl, rfl⟩
    clear hy
    go_wp2
    go_ret
    exact Ret.mk rfl ((Below.refl _ _).alloc (Nat.le_refl _) _)
  · have hx' : x < 0 ∨ W * 65536 ≤ x := by omega
    clear ho hx
    go_enter Try.func32, Try.ntmps32
    go_wp2_with fail
    refine (within_out x W _ hW1 hW2 hx').mono ?_
    rintro e w1 ⟨rfl, rfl⟩
    clear hx'
    go_wp2
    go_ret
    exact Ret.mk rfl ((Below.refl _ _).alloc (Nat.le_refl _) _)

theorem below_box {w w' : World} {o : Obj} (hb : Below (w.alloc o).heap.size (w.alloc o) w') : Below w.heap.size w w' := ((Below.refl _ _).alloc (Nat.le_refl _) _).trans (hb.mono (by simp))

/-- Check, by its two outcomes. -/
theorem check_ok (W H T : Int) (A : Option Addr) (n c : Nat) (w : World) (hn : n ≤ maxLen) (hv : Val W H T n) :
    Calls Try.prog 31 #[.agg #[.int .i64 W, .int .i64 H, .int .i64 T, .slice A n c]] w (Ret (.int .i64 0) w) := by
  have h := check_any W H T A n c w hn
  rw [chk_ok hv] at h
  exact h
/-- Check answers an error. -/
def RetBad (x : Int) (w : World) (e : Ending) (w' : World) : Prop := e = .returned (.int .i64 x) ∧ Below w.heap.size w w'
theorem refCheck_ok (W H T : Int) (A : Option Addr) (n c : Nat) (w : World) (hn : n ≤ maxLen) (hv : Val W H T n) :
    Calls Try.prog 16 #[.agg #[.int .i64 W, .int .i64 H, .int .i64 T, .slice A n c]] w (Ret (.int .i64 0) w) := by
  have h := refCheck_any W H T A n c w hn
  rw [chk_ok hv] at h
  exact h

set_option maxHeartbeats 400000 in
theorem on_bad (W H T x y : Int) (A : Option Addr) (n c : Nat) (w : World) (hn : n ≤ maxLen) (hv : ¬ Val W H T n) :
    Calls Try.prog 23 #[.agg #[.int .i64 W, .int .i64 H, .int .i64 T, .slice A n c], .int .i64 x, .int .i64 y] w (Ret (.bool false) w) := by
  have C := Lib.hid (fun u => check_any W H T A n c u hn)
  obtain ⟨k, ek⟩ : ∃ k, chk W H T n = k := ⟨_, rfl⟩
  obtain ⟨k1, k2⟩ := chk_bad hv
  rw [ek] at C k1 k2
  have hk : (k == 0) = false := by simp; omega
  clear hv ek
  go_enter Try.func23, Try.ntmps23
  go_wp2_with fail
  refine (C.out _).mono ?_
  rintro e w1 ⟨rfl, b1⟩
  have B1 := Lib.hid (below_box b1)
  clear b1
  go_wp2
  go_ret
  exact Ret.mk rfl B1.out
set_option maxHeartbeats 400000 in
theorem on_ok (W H T x y : Int) (A : Option Addr) (n c : Nat) (w : World) (hn : n ≤ maxLen) (hv : Val W H T n) (b : Bool) (hb : b = true ↔ On W H x y) :
    Calls Try.prog 23 #[.agg #[.int .i64 W, .int .i64 H, .int .i64 T, .slice A n c], .int .i64 x, .int .i64 y] w (Ret (.bool b) w) := by
  have C := Lib.hid (fun u => check_ok W H T A n c u hn hv)
  have I : Hid (∀ u, Calls Try.prog 32 #[.agg #[.int .i64 W, .int .i64 H, .int .i64 T, .slice A n c], .int .i64 x, .int .i64 y] u (Ret (.bool b) u)) := by
    intro u
    rcases b with _ | _
    · exact inside_out W H T x y A n c u hv.s (fun h => by have := hb.2 h; cases this)
    · exact inside_in W H T x y A n c u hv.s (hb.1 rfl)
  clear hb hv
  go_enter Try.func23, Try.ntmps23
  go_wp2_with fail
  refine (C.out _).mono ?_
  rintro e w1 ⟨rfl, b1⟩
  have X1 := Lib.hid ((Bx.new w (.int .i64 W) (.int .i64 H) (.int .i64 T) (.slice A n c) 30).keep b1)
  obtain ⟨_, c0, c1, c2, c3, _, _, _, _, _⟩ := X1.out
  have B1 := Lib.hid (below_box b1)
  clear b1
  go_wp2_with fail
  refine (I.out _).mono ?_
  rintro e w2 ⟨rfl, b2⟩
  have B2 := Lib.hid (B1.out.trans (b2.mono B1.out.size))
  clear b2 B1
  go_wp2
  go_ret
  exact Ret.mk rfl B2.out

end Go.Proofs.Ytcneilhhpblclaa
