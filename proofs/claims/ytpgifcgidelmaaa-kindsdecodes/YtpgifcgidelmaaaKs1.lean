/- '==' on kinds and on weapons that are the same. -/
import Derived.Test.YtpgifcgidelmaaaKd6
namespace Go.Proofs.Ytpgifcgidelmaaa
open Go.RowKit
set_option linter.unusedVariables false

theorem held_weapon : Try.prog.stoodInHeld 51 = false := by kernel_rfl
theorem held_kind : Try.prog.stoodInHeld 46 = false := by kernel_rfl
set_option maxHeartbeats 2000000 in
theorem eq_weapon (f : Nat → Int) (b : Bool) (w : World) : (Op.equalIn 10000 51 (.agg (wcs f b)) (.agg (wcs f b))).run Try.prog w = .ok true w := by
  rw [show (10000 : Nat) = 9999 + 1 from rfl, Op.equalIn]
  simp only [Sem.run_bind, run_underlying Try.underlying51, Result.andThen_ok, run_program, held_weapon]
  go_simp
set_option maxRecDepth 100000 in
set_option maxHeartbeats 4000000 in
theorem eq_kind (f : Nat → Int) (w : World) : (Op.equalIn 10000 46 (.agg (kcs f)) (.agg (kcs f))).run Try.prog w = .ok true w := by
  rw [show (10000 : Nat) = 9999 + 1 from rfl, Op.equalIn]
  simp only [Sem.run_bind, run_underlying Try.underlying46, Result.andThen_ok, run_program, held_kind]
  go_simp
theorem ne_kind (f : Nat → Int) (w : World) : (binOp .neq 46 (.agg (kcs f)) (.agg (kcs f))).run Try.prog w = .ok (.bool false) w := by
  have := eq_kind f w
  simp [binOp, Op.equal, Op.maxDepth, this]
theorem ne_weapon (f : Nat → Int) (b : Bool) (w : World) : (binOp .neq 51 (.agg (wcs f b)) (.agg (wcs f b))).run Try.prog w = .ok (.bool false) w := by
  have := eq_weapon f b w
  simp [binOp, Op.equal, Op.maxDepth, this]
end Go.Proofs.Ytpgifcgidelmaaa
