/- Contracts of package relief, second part: places, few, corners, heights. -/
import Derived.Test.YtcipedijjemghaaDoorRel1
import Derived.Test.YtcipedijjemghaaDoorRelMath
namespace Go.Proofs.YtcipedijjemghaaDoor
open Go.RowKit
set_option linter.unusedVariables false

/-- A map that may be. -/
structure Val (W H T : Int) (n : Nat) : Prop where
  s : Sides W H T
  e : (n : Int) = (W + 1) * (H + 1)
theorem chk_ok {W H T : Int} {n : Nat} (h : Val W H T n) : chk W H T n = 0 := by
  unfold chk
  rw [if_pos h.s, if_neg (by have := h.e; omega), if_neg (by have := h.e; omega)]
theorem chk_bad {W H T : Int} {n : Nat} (h : ¬ Val W H T n) : 1 ≤ chk W H T n ∧ chk W H T n ≤ 7 := by
  unfold chk
  by_cases hs : Sides W H T
  · rw [if_pos hs]
    have : ¬ (n : Int) = (W + 1) * (H + 1) := fun e => h ⟨hs, e⟩
    split
    · omega
    · rw [if_pos (by omega)]; omega
  · rw [if_neg hs]; omega
/-- A place on the map. -/
def On (W H x y : Int) : Prop := 0 ≤ x ∧ x < W * 65536 ∧ 0 ≤ y ∧ y < H * 65536

theorem below_box {w w' : World} {o : Obj} (hb : Below (w.alloc o).heap.size (w.alloc o) w') : Below w.heap.size w w' := ((Below.refl _ _).alloc (Nat.le_refl _) _).trans (hb.mono (by simp))

/-- Check, by its two outcomes. -/
theorem check_ok (W H T : Int) (A : Option Addr) (n c : Nat) (w : World) (hn : n ≤ maxLen) (hv : Val W H T n) :
    Calls Tryd.prog 33 #[.agg #[.int .i64 W, .int .i64 H, .int .i64 T, .slice A n c]] w (Ret (.int .i64 0) w) := by
  have h := check_any W H T A n c w hn
  rw [chk_ok hv] at h
  exact h
/-- Check answers an error. -/
def RetBad (x : Int) (w : World) (e : Ending) (w' : World) : Prop := e = .returned (.int .i64 x) ∧ Below w.heap.size w w'
end Go.Proofs.YtcipedijjemghaaDoor
