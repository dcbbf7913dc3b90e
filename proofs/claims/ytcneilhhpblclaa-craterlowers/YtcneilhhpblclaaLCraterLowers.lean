/- The walk of the law CraterLowers. -/
import Derived.Test.YtcneilhhpblclaaAwake9
import Derived.Lib.QuietBelow
namespace Go.Proofs.Ytcneilhhpblclaa
open Go.RowKit Go.Sort
set_option linter.unusedVariables false

/-- A contract that ends in 'Ret', in a world of the class. -/
theorem calls_re {f : FuncId} {args : Array Value} {V : World} {v : Value} (h : ∀ u, Calls Try.prog f args u (Ret v u)) : ∀ d os, Calls Try.prog f args (grow (redrawn V d) os) fun e w'' => e = .returned v ∧ ∃ p : Regrown, w'' = grow (redrawn V p.d) p.os :=
  fun d os => Calls.regrown_of (h _)

set_option maxHeartbeats 2000000 in
theorem walk_CraterLowers (a0 a1 a2 a3 a4 a5 : Int) (w0 : (Lit.int .i64 a0).wf = true) (w1 : (Lit.int .i64 a1).wf = true) (w2 : (Lit.int .i64 a2).wf = true) (w3 : (Lit.int .i64 a3).wf = true) (w4 : (Lit.int .i64 a4).wf = true) (w5 : (Lit.int .i64 a5).wf = true) (w : World) :
    Calls Try.prog 3 #[.agg #[.int .i64 a0, .int .i64 a1, .int .i64 a2, .int .i64 a3], .int .i64 a4, .int .i64 a5] w (Ret (.bool true) w) := by
  have l1 := fun u => Lowers_any ⟨a0, a1, a2, a3⟩ a4 a5 u
  have l2 := fun u => rLowers_any ⟨a0, a1, a2, a3⟩ a4 a5 u
  generalize lo9 ⟨a0, a1, a2, a3⟩ a4 a5 = v at *
  have hvv : (v == v) = true := by simp
  clear w0 w1 w2 w3 w4 w5
  have X := Bx.new w (.int .i64 a0) (.int .i64 a1) (.int .i64 a2) (.int .i64 a3) 23
  obtain ⟨V, hV⟩ : ∃ V, w.alloc (.cells #[.int .i64 a0, .int .i64 a1, .int .i64 a2, .int .i64 a3] 23) = V := ⟨_, rfl⟩
  rw [hV] at X
  have HV := Lib.hid hV
  have HX := Lib.hid X.below
  have k0 := cell_regrown X.c0
  have k1 := cell_regrown X.c1
  have k2 := cell_regrown X.c2
  have k3 := cell_regrown X.c3
  unfold hv at *
  have L1 := Lib.hid (calls_re (V := V) l1)
  have L2 := Lib.hid (calls_re (V := V) l2)
  have A := Lib.hid (calls_re (V := V) awake_any)
  clear X hV l1 l2
  obtain ⟨b, M1, M2⟩ : ∃ b : Bool, Hid (∀ d os, Calls Try.prog 8 #[hv ⟨a0, a1, a2, a3⟩] (grow (redrawn V d) os) fun e w'' => e = .returned (.bool b) ∧ ∃ p : Regrown, w'' = grow (redrawn V p.d) p.os) ∧ Hid (∀ d os, Calls Try.prog 9 #[hv ⟨a0, a1, a2, a3⟩] (grow (redrawn V d) os) fun e w'' => e = .returned (.bool b) ∧ ∃ p : Regrown, w'' = grow (redrawn V p.d) p.os) := by
    by_cases ho : Ok9 ⟨a0, a1, a2, a3⟩
    · exact ⟨true, calls_re (fun u => may_yes _ u ho), calls_re (fun u => rmay_yes _ u ho)⟩
    · exact ⟨false, calls_re (fun u => may_no _ u ho), calls_re (fun u => rmay_no _ u ho)⟩
  unfold hv at M1 M2
  have hbb : (b == b) = true := by simp
  go_enter Try.func3, Try.ntmps3
  go_wp2
  rw [HV.out]
  refine wp_region_quiet_below (by kernel_rfl) (by kernel_rfl) ?_
  repeat (quiet_step (first | exact M1.out _ _ | exact M2.out _ _ | exact L1.out _ _ | exact L2.out _ _ | exact A.out _ _))
  refine wpQuiet_nil ?_
  intro _ hw'
  obtain ⟨⟨dq, osq⟩, hw''⟩ := hw'
  subst hw''
  go_wp2
  go_ret
  exact Ret.mk rfl (HX.out.trans ((below_regrown V dq osq).mono HX.out.size))

end Go.Proofs.Ytcneilhhpblclaa
