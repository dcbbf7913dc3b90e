/- Contracts of package relief, eighth part: cell, Slope, Depth. -/
import Derived.Test.YtljedkceicahaaaRel7
namespace Go.Proofs.Ytljedkceicahaaa
open Go.RowKit
set_option linter.unusedVariables false

/-- The world behind cell's entry: the map's box, and the result's. -/
theorem two_boxes (w : World) (a b c d : Value) (t : TypeId) (a' b' c' d' : Value) (t' : TypeId) :
    Bx w w.heap.size ((w.alloc (.cells #[a, b, c, d] t)).alloc (.cells #[a', b', c', d'] t')) a b c d ∧ Bx w (w.heap.size + 1) ((w.alloc (.cells #[a, b, c, d] t)).alloc (.cells #[a', b', c', d'] t')) a' b' c' d' := by
  refine ⟨(Bx.new w a b c d t).keep ((Below.refl _ _).alloc (Nat.le_refl _) _), ?_⟩
  have h := Bx.next ((Below.refl _ w).alloc (Nat.le_refl _) (.cells #[a, b, c, d] t)) a' b' c' d' t'
  rw [size_alloc] at h
  exact h

end Go.Proofs.Ytljedkceicahaaa
