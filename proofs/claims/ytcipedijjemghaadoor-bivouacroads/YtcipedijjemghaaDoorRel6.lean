/- Contracts of package relief, sixth part: Height. -/
import Derived.Test.YtcipedijjemghaaDoorRel5
import Derived.Deep.DeepCutAuto
namespace Go.Proofs.YtcipedijjemghaaDoor
open Go.RowKit
set_option linter.unusedVariables false

theorem four_far {w : World} {B b i : Nat} {v x y z u : Value} (hne : b ≠ B) (h : w.cell? ⟨b, i, none⟩ = some v) : ((((w.setCell ⟨B, 0, none⟩ x).setCell ⟨B, 1, none⟩ y).setCell ⟨B, 2, none⟩ z).setCell ⟨B, 3, none⟩ u).cell? ⟨b, i, none⟩ = some v :=
  cell_far (cell_far (cell_far (cell_far h (.inl (Ne.symm hne))) (.inl (Ne.symm hne))) (.inl (Ne.symm hne))) (.inl (Ne.symm hne))
theorem Bs.drew {w : World} {A : Option Addr} {n : Nat} {p : Nat → Nat} (h : Bs w A n p) : Bs w.drew A n p := h

end Go.Proofs.YtcipedijjemghaaDoor
