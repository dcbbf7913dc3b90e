/- Contracts of package ground, first part: classes, enters, Open; the reference's Open; right, few. -/
import Derived.Test.YtljedkceicahaaaRel9
import Derived.Test.YtljedkceicahaaaGrMath
namespace Go.Proofs.Ytljedkceicahaaa
open Go.RowKit
set_option linter.unusedVariables false

/-- Whether ground so steep and so deep is open to a class. -/
def opn (c s d : Int) : Bool :=
  if c = 5 then true else if c = 0 then decide (s ≤ 24) && decide (d ≤ 12) else if c = 1 then decide (0 < d) || decide (s ≤ 16)
  else if c = 2 then decide (16 ≤ d) else if c = 3 then decide (24 ≤ d) else if c = 4 then decide (s ≤ 20) else false
def Cls (c : Int) : Prop := 0 ≤ c ∧ c ≤ 5
instance (c : Int) : Decidable (Cls c) := by unfold Cls; exact inferInstance
theorem Cls.six {c : Int} (h : Cls c) : c = 0 ∨ c = 1 ∨ c = 2 ∨ c = 3 ∨ c = 4 ∨ c = 5 := by unfold Cls at h; omega
theorem bool_back {x y : Bool} (e : x = y) : Ending.returned (Value.bool x) = Ending.returned (Value.bool y) := by rw [e]

/-- How deep a cell is. -/
def dep (p : Nat → Nat) (W T i j : Int) : Int := if T ≤ cLo p W i j then 0 else T - cLo p W i j
/-- Whether a cell is open. -/
def opAt (p : Nat → Nat) (W T c i j : Int) : Bool := opn c (cHi p W i j - cLo p W i j) (dep p W T i j)
theorem pair_back {x y : Bool} {a b : Int} (e : x = y) (f : a = b) : Value.tuple #[.bool x, .int .i64 a] = .tuple #[.bool y, .int .i64 b] := by rw [e, f]

end Go.Proofs.Ytljedkceicahaaa
