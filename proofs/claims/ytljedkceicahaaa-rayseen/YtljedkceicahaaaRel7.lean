/- Contracts of package relief, seventh part: least, greatest, cell, Slope, Depth; the reference's Ends and Depth. -/
import Derived.Test.YtljedkceicahaaaRel6
namespace Go.Proofs.Ytljedkceicahaaa
open Go.RowKit
set_option linter.unusedVariables false

/-- The least of the first k, 255 at most; the greatest of them, 0 at least. -/
def rmin (f : Nat → Int) : Nat → Int
  | 0 => 255
  | k + 1 => min (rmin f k) (f k)
def rmax (f : Nat → Int) : Nat → Int
  | 0 => 0
  | k + 1 => max (rmax f k) (f k)
/-- Four as a function. -/
def four (a b c d : Int) : Nat → Int
  | 0 => a
  | 1 => b
  | 2 => c
  | _ => d
theorem rmin4 (a b c d : Int) : rmin (four a b c d) 4 = lo4 a b c d := rfl
theorem rmax4 (a b c d : Int) : rmax (four a b c d) 4 = hi4 a b c d := rfl

end Go.Proofs.Ytljedkceicahaaa
