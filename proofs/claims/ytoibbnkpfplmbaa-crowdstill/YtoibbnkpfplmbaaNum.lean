/- Contracts of package num's functions, over the translated program: what each call returns for every argument; it makes new memory at most. -/
import Derived.Test.YtoibbnkpfplmbaaRows
import Derived.Test.YtoibbnkpfplmbaaNMath
import Derived.WalkKit
import Derived.WalkSpells
import Derived.WalkLawsBesides
import Derived.Lib.Hide
namespace Go.Proofs.Ytoibbnkpfplmbaa
open Go.RowKit
set_option linter.unusedVariables false

/-- The call returns the value v; nothing that was there has turned. -/
def Ret (v : Value) (w : World) (e : Ending) (w' : World) : Prop := e = .returned v ∧ Below w.heap.size w w'
theorem Ret.mk {v u : Value} {w w' : World} (h : u = v) (hb : Below w.heap.size w w') : Ret v w (.returned u) w' := ⟨by rw [h], hb⟩
/-- What lies below the world's own size is as it was: its marks and its cells, as two rules for a walk. -/
theorem kept_of {W w1 : World} (hb : Below W.heap.size W w1) :
    (∀ g i : Nat, g < W.heap.size → w1.frozen? (Addr.mk g i none) = W.frozen? (Addr.mk g i none)) ∧ (∀ g i : Nat, g < W.heap.size → w1.cell? (Addr.mk g i none) = W.cell? (Addr.mk g i none)) := by
  constructor <;> intro g i hg
  · exact Below.frozen hb hg
  · exact Below.cell hb hg
theorem below_of_box {w w' : World} {o : Obj} (hb : Below (w.alloc o).heap.size (w.alloc o) w') : Below w.heap.size w w' := ((Below.refl _ _).alloc (Nat.le_refl _) _).trans (hb.mono (by simp))
theorem two_eq {k j : IntKind} {a b c d : Int} (h : a = c) (g : b = d) : Value.tuple #[.int k a, .int j b] = .tuple #[.int k c, .int j d] := by rw [h, g]

end Go.Proofs.Ytoibbnkpfplmbaa
