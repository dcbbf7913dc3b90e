/- Contracts of package num's functions, over the translated program: what each call returns for every argument; it makes new memory at most. -/
import Derived.Test.YtckeplbmkjoiaaaDoorRows
import Derived.Test.YtckeplbmkjoiaaaDoorNMath
import Derived.WalkKit
import Derived.WalkSpells
import Derived.WalkLawsBesides
import Derived.Lib.Hide
namespace Go.Proofs.YtckeplbmkjoiaaaDoor
open Go.RowKit
set_option linter.unusedVariables false

/-- The call returns the value v; nothing that was there has turned. -/
def Ret (v : Value) (w : World) (e : Ending) (w' : World) : Prop := e = .returned v ∧ Below w.heap.size w w'
theorem Ret.mk {v u : Value} {w w' : World} (h : u = v) (hb : Below w.heap.size w w') : Ret v w (.returned u) w' := ⟨by rw [h], hb⟩
/-- What lies below the world's own size is as it was: its marks and its cells, as two rules for a walk. -/
theorem kept_of {W w1 : World} (hb : Below W.heap.size W w1) :
    (∀ g i : Nat, g < W.heap.size → w1.frozen? (Addr.mk g i none) = W.frozen? (Addr.mk g i none)) ∧ (∀ g i : Nat, g < W.heap.size → w1.cell? (Addr.mk g i none) = W.cell? (Addr.mk g i none)) := by
  constructor <;> intro g i hg
  · exact Below.frozen hb hg
  · exact Below.cell hb hg
theorem below_of_box {w w' : World} {o : Obj} (hb : Below (w.alloc o).heap.size (w.alloc o) w') : Below w.heap.size w w' := ((Below.refl _ _).alloc (Nat.le_refl _) _).trans (hb.mono (by simp))
theorem two_eq {k j : IntKind} {a b c d : Int} (h : a = c) (g : b = d) : Value.tuple #[.int k a, .int j b] = .tuple #[.int k c, .int j d] := by rw [h, g]

set_option maxHeartbeats 400000 in
theorem size_any (a : Int) (w : World) (ha : -9223372036854775808 ≤ a) (ha' : a ≤ 9223372036854775807) :
    Calls Tryd.prog 67 #[.int .i64 a] w (Ret (.int .u64 (a.natAbs : Int)) w) := by
  by_cases h : a < 0
  · go_enter Tryd.func67, Tryd.ntmps67
    go_wp2
    go_ret
    refine Ret.mk (congrArg (Value.int .u64) ?_) (Below.refl _ _)
    simp only [IntKind.wrap, IntKind.bits, IntKind.signed]
    simp
    omega
  · go_enter Tryd.func67, Tryd.ntmps67
    go_wp2
    go_ret
    refine Ret.mk (congrArg (Value.int .u64) ?_) (Below.refl _ _)
    omega

set_option maxHeartbeats 400000 in
theorem product_any (a b : Int) (w : World) (ha : 0 ≤ a) (ha' : a ≤ 9223372036854775808) (hb : 0 ≤ b) (hb' : b ≤ 9223372036854775808) :
    Calls Tryd.prog 66 #[.int .u64 a, .int .u64 b] w (Ret (.agg #[.int .u64 (whi (a * b)), .int .u64 (wlo (a * b))]) w) := by
  have H1 := Lib.hid (product_arith a b ha ha' hb hb')
  have H2 := Lib.hid (product_low a b)
  go_enter Tryd.func66, Tryd.ntmps66
  go_wp2
  refine bodyPost_ret (v := .agg #[.int .u64 (whi (a * b)), .int .u64 (wlo (a * b))]) ?_ rfl ⟨rfl, (Below.refl _ _).alloc (Nat.le_refl _) _⟩
  rw [H1.out, H2.out]
  simp [results, Tryd.results66, go_sem]

end Go.Proofs.YtckeplbmkjoiaaaDoor
