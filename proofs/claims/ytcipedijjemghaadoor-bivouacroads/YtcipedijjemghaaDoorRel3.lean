/- Contracts of package relief, third part: few, the reference's On, Corner and Height, cornersOf, between. -/
import Derived.Test.YtcipedijjemghaaDoorRel2
import Derived.RegionTactic
import Derived.BigRegion
namespace Go.Proofs.YtcipedijjemghaaDoor
open Go.RowKit
set_option linter.unusedVariables false

/-- As many as are looked at. -/
def fewN (n : Nat) : Nat := if 4300 < n then 4300 else n
theorem fewN_le (n : Nat) : fewN n ≤ n ∧ fewN n ≤ 4300 := by unfold fewN; split <;> omega
/-- The low sixteen bits of an int64 are its rest by 65536. -/
theorem and_low16 (a : Int) : bits BinOp.and IntKind.i64 a 65535 = a % 65536 := by
  have h1 : (BitVec.ofInt 64 a &&& BitVec.ofInt 64 65535).toNat = (a % 18446744073709551616).toNat % 65536 := by
    rw [BitVec.toNat_and, BitVec.toNat_ofInt, BitVec.toNat_ofInt]
    have := Nat.and_two_pow_sub_one_eq_mod (a % 18446744073709551616).toNat 16
    exact this
  have h2 : bits BinOp.and IntKind.i64 a 65535 = IntKind.i64.wrap (((BitVec.ofInt 64 a &&& BitVec.ofInt 64 65535).toNat : Nat) : Int) := rfl
  rw [h2, h1, IntWalk.i64_in _ (by omega)]
  omega
theorem int_back {x y : Int} (e : x = y) {k : IntKind} : Ending.returned (Value.int k x) = Ending.returned (Value.int k y) := congrArg (fun z => Ending.returned (Value.int k z)) e
end Go.Proofs.YtcipedijjemghaaDoor
