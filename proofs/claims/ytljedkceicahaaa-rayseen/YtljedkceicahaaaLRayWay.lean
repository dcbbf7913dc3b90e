/- What the laws of a Way begin with. -/
import Derived.Test.YtljedkceicahaaaLRyStart
namespace Go.Proofs.Ytljedkceicahaaa
open Go.RowKit Go.Shelf
set_option linter.unusedVariables false

/-- The Way's box, and the box of its map, cut. -/
structure Ws (w Y : World) (g0 : Nat) (W H T : Int) (A : Option Addr) (n N c : Nat) (p : Nat → Nat) (i j k l g o : Int) : Prop where
  b : B10 w Y (.int .i64 W) (.int .i64 H) (.int .i64 T) (.slice A n c) (.int .i64 i) (.int .i64 j) (.int .i64 k) (.int .i64 l) (.int .i64 g) (.int .i64 o)
  s : Start w Y g0 W H T A N c p
theorem Ws.keep {w Y Z : World} {g0 : Nat} {W H T : Int} {A : Option Addr} {n N c : Nat} {p : Nat → Nat} {i j k l g o : Int} (h : Ws w Y g0 W H T A n N c p i j k l g o) (hb : Below Y.heap.size Y Z) : Ws w Z g0 W H T A n N c p i j k l g o := ⟨h.b.keep hb, h.s.keep hb⟩
theorem Ws.first {w X : World} {W H T : Int} {A : Option Addr} {n N c : Nat} {p : Nat → Nat} {i j k l g o : Int} (hb : Bs w A n p) (hm : N ≤ n) (hX : B10 w X (.int .i64 W) (.int .i64 H) (.int .i64 T) (.slice A n c) (.int .i64 i) (.int .i64 j) (.int .i64 k) (.int .i64 l) (.int .i64 g) (.int .i64 o)) :
    Ws w (X.alloc (.cells #[.int .i64 W, .int .i64 H, .int .i64 T, .slice A N c] 24)) X.heap.size W H T A n N c p i j k l g o :=
  ⟨hX.keep ((Below.refl _ _).alloc (Nat.le_refl _) _), Start.behind hb hm hX.below⟩

end Go.Proofs.Ytljedkceicahaaa
