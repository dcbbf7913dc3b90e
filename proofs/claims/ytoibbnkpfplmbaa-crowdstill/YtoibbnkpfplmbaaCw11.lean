/- Contracts of the law's helpers: same, few. -/
import Derived.Test.YtoibbnkpfplmbaaCw10
namespace Go.Proofs.Ytoibbnkpfplmbaa
open Go.RowKit Go.Sort Go.Lib
set_option linter.unusedVariables false
set_option linter.unusedSimpArgs false
attribute [local go_sem] Oper.semAt_some

set_option maxHeartbeats 1000000 in
theorem same15_any (A B : Option Addr) (n a b : Nat) (p : Nat → Int) (w : World) (hA : Is w A n p) (hB : Is w B n p) (hn : n ≤ 1000000) :
    Calls Try.prog 14 #[.slice A n a, .slice B n b] w (Ret (.bool true) w) := by
  have HA := Lib.hid hA
  have HB := Lib.hid hB
  clear hA hB
  go_enter Try.func14, Try.ntmps14
  go_wp2
  go_loopw [5] (fun i wr => ∃ k : Nat, k ≤ n ∧ i = .int .i64 (k : Int) ∧ Hid (Below w.heap.size w wr)) (fun i _ => n - (intOf i).toNat)
  case atStart => exact ⟨0, by omega, rfl, Below.refl _ _⟩
  case round =>
    obtain ⟨k, hk, rfl, hb⟩ := hrel
    by_cases hkn : k < n
    · have hkI : (k : Int) < (n : Int) := by omega
      have hkB : decide ((k : Int) < (n : Int)) = true := decide_eq_true hkI
      obtain ⟨g, o, rfl, c0⟩ := HA.out.at hb.out hkn
      obtain ⟨g', o', rfl, c1⟩ := HB.out.at hb.out hkn
      have z0 := cell_regrown c0
      have z1 := cell_regrown c1
      clear c0 c1
      generalize p k = z at *
      go_wp2
      refine wp_region_quiet_below (by kernel_rfl) (by kernel_rfl) ?_
      repeat (go_big_quiet_step (fail))
      refine wpQuiet_nil ?_
      intro _ hw'
      obtain ⟨⟨dq, osq⟩, hw''⟩ := hw'
      subst hw''
      have B2 : Hid (Below w.heap.size w (grow (redrawn wr dq) osq)) := hb.out.trans ((below_regrown wr dq osq).mono hb.out.size)
      clear hb z0 z1
      generalize grow (redrawn wr dq) osq = w3 at *
      go_wp2
      go_roundw
      case rel => exact ⟨k + 1, by omega, by go_num, B2⟩
      case measure => simp [intOf]; omega
    · obtain rfl : k = n := by omega
      have hkI : ¬ (k : Int) < (k : Int) := by omega
      have hkB : decide ((k : Int) < (k : Int)) = false := decide_eq_false hkI
      go_wp2
      go_ret
      exact Ret.mk rfl hb.out

/-- Of a slice the first m, or all. -/
def cut15 (m n : Nat) : Nat := if m < n then m else n
theorem cut15_le (m n : Nat) : cut15 m n ≤ n ∧ cut15 m n ≤ m := by unfold cut15; split <;> omega
set_option maxHeartbeats 8000000 in
theorem few15_any (cells : Int) (no oc n wc m ic : Nat) (oA wA iA : Option Addr) (w : World) (h1 : no ≤ oc) (h2 : n ≤ wc) (h3 : m ≤ ic) (k1 : oc ≤ maxLen) (k2 : wc ≤ maxLen) (k3 : ic ≤ maxLen) :
    Calls Try.prog 8 #[.agg #[.int .i64 cells, .slice oA no oc, .slice wA n wc, .slice iA m ic]] w (Ret (.agg #[.int .i64 cells, .slice oA (cut15 4100 no) oc, .slice wA (cut15 66 n) wc, .slice iA (cut15 66 m) ic]) w) := by
  unfold maxLen at k1 k2 k3
  have K1 : Hid (Kx w (w.heap.size + 1) ((w.alloc (.cells #[.int .i64 cells, .slice oA no oc, .slice wA n wc, .slice iA m ic] 25)).alloc (.cells #[.int .i64 0, .slice none 0 0, .slice none 0 0, .slice none 0 0] 25)) 25 #[.int .i64 0, .slice none 0 0, .slice none 0 0, .slice none 0 0]) := by
    have := Kx.next (newBox (w := w) (.cells #[.int .i64 cells, .slice oA no oc, .slice wA n wc, .slice iA m ic] 25)) 25 #[.int .i64 0, .slice none 0 0, .slice none 0 0, .slice none 0 0]
    rw [show (w.alloc (.cells #[.int .i64 cells, .slice oA no oc, .slice wA n wc, .slice iA m ic] 25)).heap.size = w.heap.size + 1 by simp] at this
    exact this
  have K0 := Lib.hid ((Kx.new w 25 #[.int .i64 cells, .slice oA no oc, .slice wA n wc, .slice iA m ic]).alloc (.cells #[.int .i64 0, .slice none 0 0, .slice none 0 0, .slice none 0 0] 25))
  go_enter Try.func8, Try.ntmps8
  by_cases g1 : 4100 < no
  · have g1' : decide ((4100 : Int) < (no : Int)) = true := decide_eq_true (by omega)
    have gc1 : (4100 : Nat) ≤ oc := by omega
    have HE1 : Hid (cut15 4100 no = 4100) := by show _ = _; simp [cut15, g1]
    by_cases g2 : 66 < n
    · have g2' : decide ((66 : Int) < (n : Int)) = true := decide_eq_true (by omega)
      have gc2 : (66 : Nat) ≤ wc := by omega
      have HE2 : Hid (cut15 66 n = 66) := by show _ = _; simp [cut15, g2]
      by_cases g3 : 66 < m
      · have g3' : decide ((66 : Int) < (m : Int)) = true := decide_eq_true (by omega)
        have gc3 : (66 : Nat) ≤ ic := by omega
        have HE3 : Hid (cut15 66 m = 66) := by show _ = _; simp [cut15, g3]
        have x0_0 := K0.out.cell 0 rfl
        have x0_1 := K0.out.cell 1 rfl
        have x0_2 := K0.out.cell 2 rfl
        have x0_3 := K0.out.cell 3 rfl
        have y0_1 := K0.out.free 1
        have y0_2 := K0.out.free 2
        have y0_3 := K0.out.free 3
        have L1 := Lib.hid (K0.out.set 1 (.slice oA 4100 oc))
        have M1 := Lib.hid (K1.out.far (b := w.heap.size) (by omega) (Nat.le_refl _) 1 (.slice oA 4100 oc))
        have x1_0 := L1.out.cell 0 rfl
        have x1_1 := L1.out.cell 1 rfl
        have x1_2 := L1.out.cell 2 rfl
        have x1_3 := L1.out.cell 3 rfl
        have y1_1 := L1.out.free 1
        have y1_2 := L1.out.free 2
        have y1_3 := L1.out.free 3
        have L2 := Lib.hid (L1.out.set 2 (.slice wA 66 wc))
        have M2 := Lib.hid (M1.out.far (b := w.heap.size) (by omega) (Nat.le_refl _) 2 (.slice wA 66 wc))
        have x2_0 := L2.out.cell 0 rfl
        have x2_1 := L2.out.cell 1 rfl
        have x2_2 := L2.out.cell 2 rfl
        have x2_3 := L2.out.cell 3 rfl
        have y2_1 := L2.out.free 1
        have y2_2 := L2.out.free 2
        have y2_3 := L2.out.free 3
        have L3 := Lib.hid (L2.out.set 3 (.slice iA 66 ic))
        have M3 := Lib.hid (M2.out.far (b := w.heap.size) (by omega) (Nat.le_refl _) 3 (.slice iA 66 ic))
        have x3_0 := L3.out.cell 0 rfl
        have x3_1 := L3.out.cell 1 rfl
        have x3_2 := L3.out.cell 2 rfl
        have x3_3 := L3.out.cell 3 rfl
        have y3_1 := L3.out.free 1
        have y3_2 := L3.out.free 2
        have y3_3 := L3.out.free 3
        have u0 := M3.out.cell 0 rfl
        have v0 := M3.out.free 0
        have u1 := M3.out.cell 1 rfl
        have v1 := M3.out.free 1
        have u2 := M3.out.cell 2 rfl
        have v2 := M3.out.free 2
        have u3 := M3.out.cell 3 rfl
        have v3 := M3.out.free 3
        have FN := Lib.hid ((((M3.out.set 0 (.int .i64 cells)).set 1 (.slice oA 4100 oc)).set 2 (.slice wA 66 wc)).set 3 (.slice iA 66 ic))
        go_wp2
        have e0 := FN.out.cell 0 rfl
        have e1 := FN.out.cell 1 rfl
        have e2 := FN.out.cell 2 rfl
        have e3 := FN.out.cell 3 rfl
        refine bodyPost_ret (v := .agg #[.int .i64 cells, .slice oA 4100 oc, .slice wA 66 wc, .slice iA 66 ic]) (by simp [results, Try.results8, go_sem, e0, e1, e2, e3]) rfl ?_
        exact Ret.mk (by rw [HE1.out, HE2.out, HE3.out]) ((newBox _).trans ((newBox _).mono (by simp)))
      · have g3' : decide ((66 : Int) < (m : Int)) = false := decide_eq_false (by omega)
        have HE3 : Hid (cut15 66 m = m) := by show _ = _; simp [cut15, g3]
        have x0_0 := K0.out.cell 0 rfl
        have x0_1 := K0.out.cell 1 rfl
        have x0_2 := K0.out.cell 2 rfl
        have x0_3 := K0.out.cell 3 rfl
        have y0_1 := K0.out.free 1
        have y0_2 := K0.out.free 2
        have y0_3 := K0.out.free 3
        have L1 := Lib.hid (K0.out.set 1 (.slice oA 4100 oc))
        have M1 := Lib.hid (K1.out.far (b := w.heap.size) (by omega) (Nat.le_refl _) 1 (.slice oA 4100 oc))
        have x1_0 := L1.out.cell 0 rfl
        have x1_1 := L1.out.cell 1 rfl
        have x1_2 := L1.out.cell 2 rfl
        have x1_3 := L1.out.cell 3 rfl
        have y1_1 := L1.out.free 1
        have y1_2 := L1.out.free 2
        have y1_3 := L1.out.free 3
        have L2 := Lib.hid (L1.out.set 2 (.slice wA 66 wc))
        have M2 := Lib.hid (M1.out.far (b := w.heap.size) (by omega) (Nat.le_refl _) 2 (.slice wA 66 wc))
        have x2_0 := L2.out.cell 0 rfl
        have x2_1 := L2.out.cell 1 rfl
        have x2_2 := L2.out.cell 2 rfl
        have x2_3 := L2.out.cell 3 rfl
        have y2_1 := L2.out.free 1
        have y2_2 := L2.out.free 2
        have y2_3 := L2.out.free 3
        have u0 := M2.out.cell 0 rfl
        have v0 := M2.out.free 0
        have u1 := M2.out.cell 1 rfl
        have v1 := M2.out.free 1
        have u2 := M2.out.cell 2 rfl
        have v2 := M2.out.free 2
        have u3 := M2.out.cell 3 rfl
        have v3 := M2.out.free 3
        have FN := Lib.hid ((((M2.out.set 0 (.int .i64 cells)).set 1 (.slice oA 4100 oc)).set 2 (.slice wA 66 wc)).set 3 (.slice iA m ic))
        go_wp2
        have e0 := FN.out.cell 0 rfl
        have e1 := FN.out.cell 1 rfl
        have e2 := FN.out.cell 2 rfl
        have e3 := FN.out.cell 3 rfl
        refine bodyPost_ret (v := .agg #[.int .i64 cells, .slice oA 4100 oc, .slice wA 66 wc, .slice iA m ic]) (by simp [results, Try.results8, go_sem, e0, e1, e2, e3]) rfl ?_
        exact Ret.mk (by rw [HE1.out, HE2.out, HE3.out]) ((newBox _).trans ((newBox _).mono (by simp)))
    · have g2' : decide ((66 : Int) < (n : Int)) = false := decide_eq_false (by omega)
      have HE2 : Hid (cut15 66 n = n) := by show _ = _; simp [cut15, g2]
      by_cases g3 : 66 < m
      · have g3' : decide ((66 : Int) < (m : Int)) = true := decide_eq_true (by omega)
        have gc3 : (66 : Nat) ≤ ic := by omega
        have HE3 : Hid (cut15 66 m = 66) := by show _ = _; simp [cut15, g3]
        have x0_0 := K0.out.cell 0 rfl
        have x0_1 := K0.out.cell 1 rfl
        have x0_2 := K0.out.cell 2 rfl
        have x0_3 := K0.out.cell 3 rfl
        have y0_1 := K0.out.free 1
        have y0_2 := K0.out.free 2
        have y0_3 := K0.out.free 3
        have L1 := Lib.hid (K0.out.set 1 (.slice oA 4100 oc))
        have M1 := Lib.hid (K1.out.far (b := w.heap.size) (by omega) (Nat.le_refl _) 1 (.slice oA 4100 oc))
        have x1_0 := L1.out.cell 0 rfl
        have x1_1 := L1.out.cell 1 rfl
        have x1_2 := L1.out.cell 2 rfl
        have x1_3 := L1.out.cell 3 rfl
        have y1_1 := L1.out.free 1
        have y1_2 := L1.out.free 2
        have y1_3 := L1.out.free 3
        have L2 := Lib.hid (L1.out.set 3 (.slice iA 66 ic))
        have M2 := Lib.hid (M1.out.far (b := w.heap.size) (by omega) (Nat.le_refl _) 3 (.slice iA 66 ic))
        have x2_0 := L2.out.cell 0 rfl
        have x2_1 := L2.out.cell 1 rfl
        have x2_2 := L2.out.cell 2 rfl
        have x2_3 := L2.out.cell 3 rfl
        have y2_1 := L2.out.free 1
        have y2_2 := L2.out.free 2
        have y2_3 := L2.out.free 3
        have u0 := M2.out.cell 0 rfl
        have v0 := M2.out.free 0
        have u1 := M2.out.cell 1 rfl
        have v1 := M2.out.free 1
        have u2 := M2.out.cell 2 rfl
        have v2 := M2.out.free 2
        have u3 := M2.out.cell 3 rfl
        have v3 := M2.out.free 3
        have FN := Lib.hid ((((M2.out.set 0 (.int .i64 cells)).set 1 (.slice oA 4100 oc)).set 2 (.slice wA n wc)).set 3 (.slice iA 66 ic))
        go_wp2
        have e0 := FN.out.cell 0 rfl
        have e1 := FN.out.cell 1 rfl
        have e2 := FN.out.cell 2 rfl
        have e3 := FN.out.cell 3 rfl
        refine bodyPost_ret (v := .agg #[.int .i64 cells, .slice oA 4100 oc, .slice wA n wc, .slice iA 66 ic]) (by simp [results, Try.results8, go_sem, e0, e1, e2, e3]) rfl ?_
        exact Ret.mk (by rw [HE1.out, HE2.out, HE3.out]) ((newBox _).trans ((newBox _).mono (by simp)))
      · have g3' : decide ((66 : Int) < (m : Int)) = false := decide_eq_false (by omega)
        have HE3 : Hid (cut15 66 m = m) := by show _ = _; simp [cut15, g3]
        have x0_0 := K0.out.cell 0 rfl
        have x0_1 := K0.out.cell 1 rfl
        have x0_2 := K0.out.cell 2 rfl
        have x0_3 := K0.out.cell 3 rfl
        have y0_1 := K0.out.free 1
        have y0_2 := K0.out.free 2
        have y0_3 := K0.out.free 3
        have L1 := Lib.hid (K0.out.set 1 (.slice oA 4100 oc))
        have M1 := Lib.hid (K1.out.far (b := w.heap.size) (by omega) (Nat.le_refl _) 1 (.slice oA 4100 oc))
        have x1_0 := L1.out.cell 0 rfl
        have x1_1 := L1.out.cell 1 rfl
        have x1_2 := L1.out.cell 2 rfl
        have x1_3 := L1.out.cell 3 rfl
        have y1_1 := L1.out.free 1
        have y1_2 := L1.out.free 2
        have y1_3 := L1.out.free 3
        have u0 := M1.out.cell 0 rfl
        have v0 := M1.out.free 0
        have u1 := M1.out.cell 1 rfl
        have v1 := M1.out.free 1
        have u2 := M1.out.cell 2 rfl
        have v2 := M1.out.free 2
        have u3 := M1.out.cell 3 rfl
        have v3 := M1.out.free 3
        have FN := Lib.hid ((((M1.out.set 0 (.int .i64 cells)).set 1 (.slice oA 4100 oc)).set 2 (.slice wA n wc)).set 3 (.slice iA m ic))
        go_wp2
        have e0 := FN.out.cell 0 rfl
        have e1 := FN.out.cell 1 rfl
        have e2 := FN.out.cell 2 rfl
        have e3 := FN.out.cell 3 rfl
        refine bodyPost_ret (v := .agg #[.int .i64 cells, .slice oA 4100 oc, .slice wA n wc, .slice iA m ic]) (by simp [results, Try.results8, go_sem, e0, e1, e2, e3]) rfl ?_
        exact Ret.mk (by rw [HE1.out, HE2.out, HE3.out]) ((newBox _).trans ((newBox _).mono (by simp)))
  · have g1' : decide ((4100 : Int) < (no : Int)) = false := decide_eq_false (by omega)
    have HE1 : Hid (cut15 4100 no = no) := by show _ = _; simp [cut15, g1]
    by_cases g2 : 66 < n
    · have g2' : decide ((66 : Int) < (n : Int)) = true := decide_eq_true (by omega)
      have gc2 : (66 : Nat) ≤ wc := by omega
      have HE2 : Hid (cut15 66 n = 66) := by show _ = _; simp [cut15, g2]
      by_cases g3 : 66 < m
      · have g3' : decide ((66 : Int) < (m : Int)) = true := decide_eq_true (by omega)
        have gc3 : (66 : Nat) ≤ ic := by omega
        have HE3 : Hid (cut15 66 m = 66) := by show _ = _; simp [cut15, g3]
        have x0_0 := K0.out.cell 0 rfl
        have x0_1 := K0.out.cell 1 rfl
        have x0_2 := K0.out.cell 2 rfl
        have x0_3 := K0.out.cell 3 rfl
        have y0_1 := K0.out.free 1
        have y0_2 := K0.out.free 2
        have y0_3 := K0.out.free 3
        have L1 := Lib.hid (K0.out.set 2 (.slice wA 66 wc))
        have M1 := Lib.hid (K1.out.far (b := w.heap.size) (by omega) (Nat.le_refl _) 2 (.slice wA 66 wc))
        have x1_0 := L1.out.cell 0 rfl
        have x1_1 := L1.out.cell 1 rfl
        have x1_2 := L1.out.cell 2 rfl
        have x1_3 := L1.out.cell 3 rfl
        have y1_1 := L1.out.free 1
        have y1_2 := L1.out.free 2
        have y1_3 := L1.out.free 3
        have L2 := Lib.hid (L1.out.set 3 (.slice iA 66 ic))
        have M2 := Lib.hid (M1.out.far (b := w.heap.size) (by omega) (Nat.le_refl _) 3 (.slice iA 66 ic))
        have x2_0 := L2.out.cell 0 rfl
        have x2_1 := L2.out.cell 1 rfl
        have x2_2 := L2.out.cell 2 rfl
        have x2_3 := L2.out.cell 3 rfl
        have y2_1 := L2.out.free 1
        have y2_2 := L2.out.free 2
        have y2_3 := L2.out.free 3
        have u0 := M2.out.cell 0 rfl
        have v0 := M2.out.free 0
        have u1 := M2.out.cell 1 rfl
        have v1 := M2.out.free 1
        have u2 := M2.out.cell 2 rfl
        have v2 := M2.out.free 2
        have u3 := M2.out.cell 3 rfl
        have v3 := M2.out.free 3
        have FN := Lib.hid ((((M2.out.set 0 (.int .i64 cells)).set 1 (.slice oA no oc)).set 2 (.slice wA 66 wc)).set 3 (.slice iA 66 ic))
        go_wp2
        have e0 := FN.out.cell 0 rfl
        have e1 := FN.out.cell 1 rfl
        have e2 := FN.out.cell 2 rfl
        have e3 := FN.out.cell 3 rfl
        refine bodyPost_ret (v := .agg #[.int .i64 cells, .slice oA no oc, .slice wA 66 wc, .slice iA 66 ic]) (by simp [results, Try.results8, go_sem, e0, e1, e2, e3]) rfl ?_
        exact Ret.mk (by rw [HE1.out, HE2.out, HE3.out]) ((newBox _).trans ((newBox _).mono (by simp)))
      · have g3' : decide ((66 : Int) < (m : Int)) = false := decide_eq_false (by omega)
        have HE3 : Hid (cut15 66 m = m) := by show _ = _; simp [cut15, g3]
        have x0_0 := K0.out.cell 0 rfl
        have x0_1 := K0.out.cell 1 rfl
        have x0_2 := K0.out.cell 2 rfl
        have x0_3 := K0.out.cell 3 rfl
        have y0_1 := K0.out.free 1
        have y0_2 := K0.out.free 2
        have y0_3 := K0.out.free 3
        have L1 := Lib.hid (K0.out.set 2 (.slice wA 66 wc))
        have M1 := Lib.hid (K1.out.far (b := w.heap.size) (by omega) (Nat.le_refl _) 2 (.slice wA 66 wc))
        have x1_0 := L1.out.cell 0 rfl
        have x1_1 := L1.out.cell 1 rfl
        have x1_2 := L1.out.cell 2 rfl
        have x1_3 := L1.out.cell 3 rfl
        have y1_1 := L1.out.free 1
        have y1_2 := L1.out.free 2
        have y1_3 := L1.out.free 3
        have u0 := M1.out.cell 0 rfl
        have v0 := M1.out.free 0
        have u1 := M1.out.cell 1 rfl
        have v1 := M1.out.free 1
        have u2 := M1.out.cell 2 rfl
        have v2 := M1.out.free 2
        have u3 := M1.out.cell 3 rfl
        have v3 := M1.out.free 3
        have FN := Lib.hid ((((M1.out.set 0 (.int .i64 cells)).set 1 (.slice oA no oc)).set 2 (.slice wA 66 wc)).set 3 (.slice iA m ic))
        go_wp2
        have e0 := FN.out.cell 0 rfl
        have e1 := FN.out.cell 1 rfl
        have e2 := FN.out.cell 2 rfl
        have e3 := FN.out.cell 3 rfl
        refine bodyPost_ret (v := .agg #[.int .i64 cells, .slice oA no oc, .slice wA 66 wc, .slice iA m ic]) (by simp [results, Try.results8, go_sem, e0, e1, e2, e3]) rfl ?_
        exact Ret.mk (by rw [HE1.out, HE2.out, HE3.out]) ((newBox _).trans ((newBox _).mono (by simp)))
    · have g2' : decide ((66 : Int) < (n : Int)) = false := decide_eq_false (by omega)
      have HE2 : Hid (cut15 66 n = n) := by show _ = _; simp [cut15, g2]
      by_cases g3 : 66 < m
      · have g3' : decide ((66 : Int) < (m : Int)) = true := decide_eq_true (by omega)
        have gc3 : (66 : Nat) ≤ ic := by omega
        have HE3 : Hid (cut15 66 m = 66) := by show _ = _; simp [cut15, g3]
        have x0_0 := K0.out.cell 0 rfl
        have x0_1 := K0.out.cell 1 rfl
        have x0_2 := K0.out.cell 2 rfl
        have x0_3 := K0.out.cell 3 rfl
        have y0_1 := K0.out.free 1
        have y0_2 := K0.out.free 2
        have y0_3 := K0.out.free 3
        have L1 := Lib.hid (K0.out.set 3 (.slice iA 66 ic))
        have M1 := Lib.hid (K1.out.far (b := w.heap.size) (by omega) (Nat.le_refl _) 3 (.slice iA 66 ic))
        have x1_0 := L1.out.cell 0 rfl
        have x1_1 := L1.out.cell 1 rfl
        have x1_2 := L1.out.cell 2 rfl
        have x1_3 := L1.out.cell 3 rfl
        have y1_1 := L1.out.free 1
        have y1_2 := L1.out.free 2
        have y1_3 := L1.out.free 3
        have u0 := M1.out.cell 0 rfl
        have v0 := M1.out.free 0
        have u1 := M1.out.cell 1 rfl
        have v1 := M1.out.free 1
        have u2 := M1.out.cell 2 rfl
        have v2 := M1.out.free 2
        have u3 := M1.out.cell 3 rfl
        have v3 := M1.out.free 3
        have FN := Lib.hid ((((M1.out.set 0 (.int .i64 cells)).set 1 (.slice oA no oc)).set 2 (.slice wA n wc)).set 3 (.slice iA 66 ic))
        go_wp2
        have e0 := FN.out.cell 0 rfl
        have e1 := FN.out.cell 1 rfl
        have e2 := FN.out.cell 2 rfl
        have e3 := FN.out.cell 3 rfl
        refine bodyPost_ret (v := .agg #[.int .i64 cells, .slice oA no oc, .slice wA n wc, .slice iA 66 ic]) (by simp [results, Try.results8, go_sem, e0, e1, e2, e3]) rfl ?_
        exact Ret.mk (by rw [HE1.out, HE2.out, HE3.out]) ((newBox _).trans ((newBox _).mono (by simp)))
      · have g3' : decide ((66 : Int) < (m : Int)) = false := decide_eq_false (by omega)
        have HE3 : Hid (cut15 66 m = m) := by show _ = _; simp [cut15, g3]
        have x0_0 := K0.out.cell 0 rfl
        have x0_1 := K0.out.cell 1 rfl
        have x0_2 := K0.out.cell 2 rfl
        have x0_3 := K0.out.cell 3 rfl
        have y0_1 := K0.out.free 1
        have y0_2 := K0.out.free 2
        have y0_3 := K0.out.free 3
        have u0 := K1.out.cell 0 rfl
        have v0 := K1.out.free 0
        have u1 := K1.out.cell 1 rfl
        have v1 := K1.out.free 1
        have u2 := K1.out.cell 2 rfl
        have v2 := K1.out.free 2
        have u3 := K1.out.cell 3 rfl
        have v3 := K1.out.free 3
        have FN := Lib.hid ((((K1.out.set 0 (.int .i64 cells)).set 1 (.slice oA no oc)).set 2 (.slice wA n wc)).set 3 (.slice iA m ic))
        go_wp2
        have e0 := FN.out.cell 0 rfl
        have e1 := FN.out.cell 1 rfl
        have e2 := FN.out.cell 2 rfl
        have e3 := FN.out.cell 3 rfl
        refine bodyPost_ret (v := .agg #[.int .i64 cells, .slice oA no oc, .slice wA n wc, .slice iA m ic]) (by simp [results, Try.results8, go_sem, e0, e1, e2, e3]) rfl ?_
        exact Ret.mk (by rw [HE1.out, HE2.out, HE3.out]) ((newBox _).trans ((newBox _).mono (by simp)))
end Go.Proofs.Ytoibbnkpfplmbaa
