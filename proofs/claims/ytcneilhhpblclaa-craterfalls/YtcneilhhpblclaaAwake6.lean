/- law06's awake: the chapter's examples hold. -/
import Derived.Test.YtcneilhhpblclaaRel9
import Derived.Test.YtcneilhhpblclaaRel12
namespace Go.Proofs.Ytcneilhhpblclaa
open Go.RowKit
set_option linter.unusedVariables false

theorem wfI6 {a : Int} (h : (Lit.int .i64 a).wf = true) : -9223372036854775808 ≤ a ∧ a ≤ 9223372036854775807 := by
  simpa [Lit.wf, IntKind.min, IntKind.max, IntKind.signed, IntKind.bits] using h

/-- The chapter's corners. -/
def oneF (i : Nat) : Nat := if i < 4 then 10 * i else 0
theorem oneF_bd (i : Nat) : oneF i < 256 := by unfold oneF; split <;> omega
theorem one_val : Val 1 1 5 4 := ⟨by decide, by decide⟩
def RetOne (w : World) (e : Ending) (w' : World) : Prop :=
  ∃ A, e = .returned (.agg #[.int .i64 1, .int .i64 1, .int .i64 5, .slice A 4 4]) ∧ Bs w' A 4 oneF ∧ Below w.heap.size w w'

theorem aw_h : hAt oneF 1 32768 32768 = 983040 := by decide +kernel
theorem aw_s : cHi oneF 1 0 0 - cLo oneF 1 0 0 = 30 := by decide +kernel
theorem aw_d : (if (5 : Int) ≤ cLo oneF 1 0 0 then 0 else 5 - cLo oneF 1 0 0) = 5 := by decide +kernel
theorem aw_e : sb (catN (tri 1 1 5) 3 oneF) (3 + 4) = ⟨#[1, 1, 5, 0, 10, 20, 30]⟩ := by
  apply ByteArray.ext
  decide +kernel

end Go.Proofs.Ytcneilhhpblclaa
