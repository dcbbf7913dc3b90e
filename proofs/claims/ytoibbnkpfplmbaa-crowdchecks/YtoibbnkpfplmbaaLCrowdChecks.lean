/- The law CrowdChecks. -/
import Derived.Test.YtoibbnkpfplmbaaCwStart
namespace Go.Proofs.Ytoibbnkpfplmbaa
open Go.RowKit Go.Sort Go.Lib
set_option linter.unusedVariables false
set_option linter.unusedSimpArgs false
attribute [local go_sem] Oper.semAt_some

set_option maxHeartbeats 4000000 in
theorem walk_CrowdChecks (cells : Int) (no oc n wc m ic : Nat) (oA wA iA : Option Addr) (O : Nat → Bool) (P Wi : Nat → Int) (w : World) (h : Cin w no oc n wc m ic oA wA iA O P Wi) :
    Calls Try.prog 3 #[.agg #[.int .i64 cells, .slice oA no oc, .slice wA n wc, .slice iA m ic]] w (Ret (.bool true) w) := by
  have HC := Lib.hid h.cut
  have FC := Lib.hid (fun u => few15_any cells no oc n wc m ic oA wA iA u h.ol h.pl h.il h.om h.pm h.im)
  have K0 := Lib.hid (Kx.new w 25 #[.int .i64 cells, .slice oA no oc, .slice wA n wc, .slice iA m ic])
  have L1 := Lib.hid (cut15_le 4100 no).2
  have L2 := Lib.hid (cut15_le 66 n).2
  have L3 := Lib.hid (cut15_le 66 m).2
  clear h
  generalize cut15 4100 no = a at *
  generalize cut15 66 n = b at *
  generalize cut15 66 m = d at *
  go_enter Try.func3, Try.ntmps3
  go_wp2_with fail
  refine (FC.out _).mono ?_
  rintro e w1 ⟨rfl, b1⟩
  have K1 := Lib.hid (K0.out.keep b1)
  have K2 := Lib.hid ((((K1.out.set 0 (.int .i64 cells)).set 1 (.slice oA a oc)).set 2 (.slice wA b wc)).set 3 (.slice iA d ic))
  clear b1 K0
  have f0 := K1.out.free 0
  have f1 := K1.out.free 1
  have f2 := K1.out.free 2
  have f3 := K1.out.free 3
  have c0 := K1.out.cell 0 rfl
  have c1 := K1.out.cell 1 rfl
  have c2 := K1.out.cell 2 rfl
  have c3 := K1.out.cell 3 rfl
  go_wp2_with fail
  generalize (((w1.setCell ⟨w.heap.size, 0, none⟩ (.int .i64 cells)).setCell ⟨w.heap.size, 1, none⟩ (.slice oA a oc)).setCell ⟨w.heap.size, 2, none⟩ (.slice wA b wc)).setCell ⟨w.heap.size, 3, none⟩ (.slice iA d ic) = w2 at *
  have k0 := cell_regrown (K2.out.cell 0 rfl)
  have k1 := cell_regrown (K2.out.cell 1 rfl)
  have k2 := cell_regrown (K2.out.cell 2 rfl)
  have k3 := cell_regrown (K2.out.cell 3 rfl)
  have CI : Hid (∀ e os, Cin (grow (redrawn w2 e) os) a oc b wc d ic oA wA iA O P Wi) := fun e os => HC.out.keep (K2.out.below.trans ((below_regrown w2 e os).mono K2.out.below.size))
  have HP1 := Lib.hid (fun e os => Calls.regrown_of (d := e) (os := os) (check15_any cells a oc b wc d ic oA wA iA P Wi (grow (redrawn w2 e) os) (CI.out e os).p (CI.out e os).i (by have := L1.out; omega) (by have := L2.out; omega) (by have := L3.out; omega)))
  have HP2 := Lib.hid (fun e os => Calls.regrown_of (d := e) (os := os) (refCheck15_any cells a oc b wc d ic oA wA iA P Wi (grow (redrawn w2 e) os) (CI.out e os).p (CI.out e os).i (by have := L1.out; omega) (by have := L2.out; omega) (by have := L3.out; omega)))
  have HP3 := Lib.hid (fun e os => Calls.regrown_of (d := e) (os := os) (awake15_any (grow (redrawn w2 e) os)))
  generalize chZ cells a b d P Wi = z at *
  clear f0 f1 f2 f3 c0 c1 c2 c3 CI HC K1
  refine wp_region_quiet_below (by kernel_rfl) (by kernel_rfl) ?_
  repeat (go_big_quiet_step (first | with_reducible exact HP1.out _ _ | with_reducible exact HP2.out _ _ | with_reducible exact HP3.out _ _))
  refine wpQuiet_nil ?_
  intro _ hw'
  obtain ⟨⟨dr, osr⟩, hw''⟩ := hw'
  subst hw''
  have HB2 := Lib.hid (K2.out.below.trans ((below_regrown w2 dr osr).mono K2.out.below.size))
  generalize grow (redrawn w2 dr) osr = w3 at *
  go_wp2
  go_ret
  exact Ret.mk rfl HB2.out
end Go.Proofs.Ytoibbnkpfplmbaa
