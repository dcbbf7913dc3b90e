/- Contracts of package relief, fifth part: the reference's Height, and the program's. -/
import Derived.Test.YtcipedijjemghaaDoorRel4
import Derived.Deep.RegionHeld3
namespace Go.Proofs.YtcipedijjemghaaDoor
open Go.RowKit
set_option linter.unusedVariables false

/-- The height of a place. -/
def hAt (p : Nat → Nat) (W x y : Int) : Int :=
  hgt (cr p W (x / 65536) (y / 65536)) (cr p W (x / 65536 + 1) (y / 65536)) (cr p W (x / 65536) (y / 65536 + 1)) (cr p W (x / 65536 + 1) (y / 65536 + 1)) (x % 65536) (y % 65536)

/-- A place's cell, and its parts. -/
theorem on_cell {W H x y : Int} (h : On W H x y) : 0 ≤ x / 65536 ∧ x / 65536 < W ∧ 0 ≤ y / 65536 ∧ y / 65536 < H ∧ 0 ≤ x % 65536 ∧ x % 65536 < 65536 ∧ 0 ≤ y % 65536 ∧ y % 65536 < 65536 := by
  unfold On at h
  omega

end Go.Proofs.YtcipedijjemghaaDoor
