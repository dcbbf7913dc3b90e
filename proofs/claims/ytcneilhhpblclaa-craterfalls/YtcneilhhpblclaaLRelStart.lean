/- How each law of layer 6 begins: few, and its result stored. -/
import Derived.Test.YtcneilhhpblclaaAwake6
namespace Go.Proofs.Ytcneilhhpblclaa
open Go.RowKit
set_option linter.unusedVariables false

instance (W H x y : Int) : Decidable (On W H x y) := by unfold On; exact inferInstance
instance (W H T : Int) (n : Nat) : Decidable (Val W H T n) := decidable_of_iff (Sides W H T ∧ (n : Int) = (W + 1) * (H + 1)) ⟨fun h => ⟨h.1, h.2⟩, fun h => ⟨h.s, h.e⟩⟩

theorem bs_after {w w1 : World} {A : Option Addr} {n m : Nat} {p : Nat → Nat} (h : Bs w A n p) (hm : m ≤ n) (hb : Below w.heap.size w w1) (a b c d : Value) : Bs (put4 w1 w.heap.size a b c d) A m p := by
  intro h0
  obtain ⟨g, o, rfl, hg, _⟩ := h (by omega)
  exact ((h.keep hb).take hm).put (fun x e => by injection e with e; subst e; show g ≠ _; omega) a b c d h0

/-- What each law begins with: the map's box, its bytes. -/
structure Start (w Y : World) (W H T : Int) (A : Option Addr) (N c : Nat) (p : Nat → Nat) : Prop where
  bx : Bx w w.heap.size Y (.int .i64 W) (.int .i64 H) (.int .i64 T) (.slice A N c)
  bs : Bs Y A N p
theorem Start.keep {w Y Z : World} {W H T : Int} {A : Option Addr} {N c : Nat} {p : Nat → Nat} (h : Start w Y W H T A N c p) (hb : Below Y.heap.size Y Z) : Start w Z W H T A N c p := ⟨h.bx.keep hb, h.bs.keep hb⟩
theorem Start.first {w w1 : World} {W H T : Int} {A : Option Addr} {n c : Nat} {p : Nat → Nat} (hb : Bs w A n p)
    (b1 : Below (w.alloc (.cells #[.int .i64 W, .int .i64 H, .int .i64 T, .slice A n c] 30)).heap.size (w.alloc (.cells #[.int .i64 W, .int .i64 H, .int .i64 T, .slice A n c] 30)) w1) :
    Start w ((((w1.setCell ⟨w.heap.size, 0, none⟩ (.int .i64 W)).setCell ⟨w.heap.size, 1, none⟩ (.int .i64 H)).setCell ⟨w.heap.size, 2, none⟩ (.int .i64 T)).setCell ⟨w.heap.size, 3, none⟩ (.slice A (fewN n) c)) W H T A (fewN n) c p :=
  ⟨((Bx.new w (.int .i64 W) (.int .i64 H) (.int .i64 T) (.slice A n c) 30).keep b1).put _ _ _ _, bs_after hb (fewN_le n).1 (below_box b1) _ _ _ _⟩

end Go.Proofs.Ytcneilhhpblclaa
