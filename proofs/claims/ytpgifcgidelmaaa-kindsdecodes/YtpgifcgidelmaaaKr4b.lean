/- A kind is built out of its fields. -/
import Derived.Test.YtpgifcgidelmaaaKr3
import Derived.Test.YtpgifcgidelmaaaTak11
namespace Go.Proofs.Ytpgifcgidelmaaa
open Go.RowKit
set_option linter.unusedVariables false

theorem build_kind (a0 a1 a2 a3 a4 a5 a6 a7 a8 a9 a10 a11 a12 a13 a14 a15 a16 a17 a18 a19 : Int) (w : World) : (Instr.build 46 #[(0, .int .i64 a0), (1, .int .i64 a1), (3, .int .i64 a3), (8, .int .i64 a8), (9, .int .i64 a9), (10, .int .i64 a10), (14, .int .i64 a14), (15, .int .i64 a15), (19, .int .i64 a19), (4, .int .i64 a4), (5, .int .i64 a5), (6, .int .i64 a6), (7, .int .i64 a7), (11, .int .i64 a11), (12, .int .i64 a12), (13, .int .i64 a13), (16, .int .i64 a16), (17, .int .i64 a17), (18, .int .i64 a18), (2, .int .i64 a2)]).run Try.prog w = .ok (.agg #[.int .i64 a0, .int .i64 a1, .int .i64 a2, .int .i64 a3, .int .i64 a4, .int .i64 a5, .int .i64 a6, .int .i64 a7, .int .i64 a8, .int .i64 a9, .int .i64 a10, .int .i64 a11, .int .i64 a12, .int .i64 a13, .int .i64 a14, .int .i64 a15, .int .i64 a16, .int .i64 a17, .int .i64 a18, .int .i64 a19]) w := by kernel_rfl
/-- A build at a take of a drawn region. -/
theorem run_build {e : Operand → Value} {o : Oper} {ty : TypeId} {fs : Array (Nat × Operand)} {vals : Array (Nat × Value)} {v : Value} {w : World} (ho : o.op = .build ty fs) (hv : (fs.map fun x => (x.1, e x.2)) = vals) (h : (Instr.build ty vals).run Try.prog w = .ok v w) : (execOp e o).run Try.prog w = .ok (Next.value v) w := by
  subst hv
  unfold execOp
  simp only [ho, Sem.run_bind, Sem.run_pure, Result.andThen_ok, h]
theorem wpStill_value {P : Program} {ops : Array Oper} {w : World} {Q : Act → Prop} {o : Oper} {rest : List Oper} {a : Act} {v : Value} (hw : Region.wanted o (yielded ops a.tmps) = true) (he : (execOp a.eval o).run P w = .ok (Next.value v) w) (h : wpStill P ops w Q rest (a.put o.dst v)) : wpStill P ops w Q (o :: rest) a := by
  unfold wpStill
  rw [if_pos hw]
  unfold Oper.still
  rw [he, Oper.stillUpon_value]
  exact h
end Go.Proofs.Ytpgifcgidelmaaa
