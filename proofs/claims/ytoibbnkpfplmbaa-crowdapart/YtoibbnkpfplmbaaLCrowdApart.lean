/- The law CrowdApart. -/
import Derived.Test.YtoibbnkpfplmbaaCwStart
namespace Go.Proofs.Ytoibbnkpfplmbaa
open Go.RowKit Go.Sort Go.Lib
set_option linter.unusedVariables false
set_option linter.unusedSimpArgs false
attribute [local go_sem] Oper.semAt_some

/-- Is one of the first at that cell? -/
def tkB (P : Nat → Int) (y : Int) : Nat → Bool
  | 0 => false
  | k + 1 => tkB P y k || (P k == y)
theorem tkB_yes {P : Nat → Int} {y : Int} : ∀ {n k : Nat}, k < n → P k = y → tkB P y n = true
  | 0, k, h, _ => by omega
  | n + 1, k, h, e => by
    unfold tkB
    rcases Nat.lt_or_ge k n with q | q
    · rw [tkB_yes q e]; rfl
    · obtain rfl : k = n := by omega
      rw [e]; simp
theorem Is.at2 {w w' : World} {g o n k : Nat} {p : Nat → Int} (h : Is w (some ⟨g, o, none⟩) n p) (hb : RowKit.Below w.heap.size w w') (hk : k < n) : w'.cell? ⟨g, o + k, none⟩ = some (.int .i64 (p k)) := by
  obtain ⟨g', o', e, c⟩ := h.at hb hk
  injection e with e
  injection e with e1 e2
  subst e1 e2
  exact c
theorem Bo.at2 {w w' : World} {g o n k : Nat} {p : Nat → Bool} (h : Bo w (some ⟨g, o, none⟩) n p) (hb : RowKit.Below w.heap.size w w') (hk : k < n) : w'.cell? ⟨g, o + k, none⟩ = some (.bool (p k)) := by
  obtain ⟨g', o', e, c⟩ := h.at hb hk
  injection e with e
  injection e with e1 e2
  subst e1 e2
  exact c

set_option maxRecDepth 100000 in
set_option maxHeartbeats 8000000 in
theorem walk_CrowdApart (cells : Int) (no oc n wc m ic : Nat) (oA wA iA : Option Addr) (O : Nat → Bool) (P Wi : Nat → Int) (w : World) (h : Cin w no oc n wc m ic oA wA iA O P Wi) :
    Calls Try.prog 6 #[.agg #[.int .i64 cells, .slice oA no oc, .slice wA n wc, .slice iA m ic]] w (Ret (.bool true) w) := by
  have HC := Lib.hid h.cut
  have FC := Lib.hid (fun u => few15_any cells no oc n wc m ic oA wA iA u h.ol h.pl h.il h.om h.pm h.im)
  have K0 := Lib.hid (Kx.new w 25 #[.int .i64 cells, .slice oA no oc, .slice wA n wc, .slice iA m ic])
  have L1 : Hid (cut15 4100 no ≤ 1000000) := by have := (cut15_le 4100 no).2; show _ ≤ _; omega
  have L2 : Hid (cut15 66 n ≤ 66) := (cut15_le 66 n).2
  have L3 : Hid (cut15 66 m ≤ 66) := (cut15_le 66 m).2
  clear h
  generalize cut15 4100 no = a at *
  generalize cut15 66 n = b at *
  generalize cut15 66 m = d at *
  go_enter Try.func6, Try.ntmps6
  go_wp2_with fail
  refine (FC.out _).mono ?_
  rintro e w1 ⟨rfl, b1⟩
  have K1 := Lib.hid (K0.out.keep b1)
  have K2 := Lib.hid ((((K1.out.set 0 (.int .i64 cells)).set 1 (.slice oA a oc)).set 2 (.slice wA b wc)).set 3 (.slice iA d ic))
  clear b1 K0 FC
  have f0 := K1.out.free 0
  have f1 := K1.out.free 1
  have f2 := K1.out.free 2
  have f3 := K1.out.free 3
  have c0 := K1.out.cell 0 rfl
  have c1 := K1.out.cell 1 rfl
  have c2 := K1.out.cell 2 rfl
  have c3 := K1.out.cell 3 rfl
  clear K1
  go_upto_region 2 with fail
  generalize (((w1.setCell ⟨w.heap.size, 0, none⟩ (.int .i64 cells)).setCell ⟨w.heap.size, 1, none⟩ (.slice oA a oc)).setCell ⟨w.heap.size, 2, none⟩ (.slice wA b wc)).setCell ⟨w.heap.size, 3, none⟩ (.slice iA d ic) = w2 at *
  clear f0 f1 f2 f3 c0 c1 c2 c3
  have K2 : Hid (Kx w w.heap.size w2 25 #[.int .i64 cells, .slice oA a oc, .slice wA b wc, .slice iA d ic]) := K2.out
  have C2 := Lib.hid (HC.out.keep K2.out.below)
  have c0 := K2.out.cell 0 rfl
  have c1 := K2.out.cell 1 rfl
  have c2 := K2.out.cell 2 rfl
  have c3 := K2.out.cell 3 rfl
  rcases chZ_or cells a b d P Wi with ⟨hz, hok⟩ | hbad
  rotate_left
  · have hz : chZ cells a b d P Wi ≠ 0 := by omega
    have hzb : (chZ cells a b d P Wi != 0) = true := by simp [hz]
    have HS := Lib.hid (settle15_bad cells a oc b wc d ic oA wA iA P Wi w2 C2.out.p C2.out.i L1.out (by have := L2.out; omega) (by have := L3.out; omega) hz)
    clear hbad hz HC C2
    generalize chZ cells a b d P Wi = z at *
    go_wp2_with fail
    refine HS.out.mono ?_
    rintro e w4 ⟨rfl, b4⟩
    have K4 := Lib.hid (K2.out.keep b4)
    clear b4 HS c0 c1 c2 c3
    go_wp2_with fail
    refine (awake15_any _).mono ?_
    rintro e w99 ⟨rfl, b99⟩
    have HF := Lib.hid (K4.out.below.trans (b99.mono K4.out.below.size))
    clear b99 K4
    go_wp2_with fail
    go_ret
    exact Ret.mk rfl HF.out
  · obtain rfl := hok.wl
    obtain rfl := hok.len
    have HS := Lib.hid (settle15_ok (a : Int) a oc d wc d ic oA wA iA O P Wi w2 C2.out.o C2.out.p C2.out.pn C2.out.i hok)
    have INV := Lib.hid (fin_inv (inv_s0 (n := d) (O := O) (Wi := Wi) hok.apt))
    have FD := Lib.hid (fin_done (inv_s0 (n := d) (O := O) (Wi := Wi) hok.apt))
    have HRW := Lib.hid hok.rw
    have HCL := Lib.hid hok.hi
    clear hz hok HC
    generalize finS d O Wi (s0S P) = s at *
    go_wp2_with fail
    refine HS.out.mono ?_
    rintro e w4 ⟨A, k, gA, gc, rfl, -, hI, hG, b4, -, -, hgc1, hgc2⟩
    have K4 := Lib.hid (K2.out.keep b4)
    have C4 := Lib.hid (C2.out.keep b4)
    have I4 := Lib.hid hI.is
    have G4 := Lib.hid hG.bo
    clear hI hG b4 HS c0 c1 c2 c3 C2 hgc1 hgc2
    have c0 := K4.out.cell 0 rfl
    have c1 := K4.out.cell 1 rfl
    have c2 := K4.out.cell 2 rfl
    have c3 := K4.out.cell 3 rfl
    go_wp2_with fail
    go_loopw [6] (fun s6 wr => ∃ i : Nat, i ≤ d ∧ s6 = .int .i64 (i : Int) ∧ Hid (Below w4.heap.size w4 wr)) (fun s6 _ => d - (intOf s6).toNat)
    case atStart => exact ⟨0, by omega, rfl, Below.refl _ _⟩
    case round =>
      obtain ⟨i, hi, rfl, hB⟩ := hrel
      have hd66 := L2.out
      clear c0 c1 c2 c3
      by_cases hin : i < d
      · have hiI : (i : Int) < (d : Int) := by omega
        have hiB : decide ((i : Int) < (d : Int)) = true := decide_eq_true hiI
        obtain ⟨ag, ao, eA, a0⟩ := I4.out.at hB.out hin
        obtain ⟨gg, go, eG, g0⟩ := G4.out.at hB.out hin
        obtain ⟨ig, io, eI, i0⟩ := C4.out.i.at hB.out hin
        obtain ⟨pg, po, eP, p0⟩ := C4.out.p.at hB.out hin
        subst eA eG eI eP
        obtain ⟨hw1, hw2⟩ := HRW.out i hin
        have x3 := (K4.out.keep hB.out).cell 3 rfl
        have x1 := cell_regrown ((K4.out.keep hB.out).cell 1 rfl)
        have x2 := cell_regrown ((K4.out.keep hB.out).cell 2 rfl)
        cases hg : s.G i with
        | true =>
          obtain ⟨r1, r2, r3, r4⟩ := INV.out.gone i hin hg
          obtain ⟨og, oo, eo, o0⟩ := C4.out.o.at hB.out (show (Wi i).toNat < a by omega)
          subst eo
          rw [hg] at g0
          rw [r1] at a0
          rw [r3] at o0
          have y0 := cell_regrown a0
          have y1 := cell_regrown g0
          have y2 := cell_regrown o0
          have d1 : decide (Wi i < 0) = false := decide_eq_false (by omega)
          have d2 : decide ((a : Int) ≤ Wi i) = false := decide_eq_false (by omega)
          go_wp2_with fail
          refine wp_region_quiet_below (by kernel_rfl) (by kernel_rfl) ?_
          repeat (go_big_quiet_step (fail))
          refine wpQuiet_nil ?_
          intro _ hw'
          obtain ⟨⟨dq, osq⟩, hw''⟩ := hw'
          subst hw''
          have B5 : Hid (Below w4.heap.size w4 (grow (redrawn wr dq) osq)) := hB.out.trans ((below_regrown wr dq osq).mono hB.out.size)
          clear x1 x2 x3 y0 y1 y2 a0 g0 o0 i0 p0 d1 d2
          generalize grow (redrawn wr dq) osq = w5 at *
          go_wp2_with fail
          go_loopw [8, 9] (fun s8 s9 wk => ∃ k : Nat, k ≤ d ∧ s9 = .int .i64 (k : Int) ∧ s8 = .bool (tkB s.P (Wi i) k) ∧ Hid (Below w4.heap.size w4 wk)) (fun _ s9 _ => d - (intOf s9).toNat)
          case atStart => exact ⟨0, by omega, rfl, rfl, B5.out⟩
          case round =>
            obtain ⟨k, hk, rfl, rfl, hBk⟩ := hrel
            by_cases hkn : k < d
            · have hkI : (k : Int) < (d : Int) := by omega
              have hkB : decide ((k : Int) < (d : Int)) = true := decide_eq_true hkI
              have ak := cell_regrown (I4.out.at2 hBk.out hkn)
              have ai := cell_regrown (I4.out.at2 hBk.out hin)
              have TS : Hid (tkB s.P (Wi i) (k + 1) = (tkB s.P (Wi i) k || (s.P k == Wi i))) := rfl
              by_cases e1 : k = i
              · have hne : ((k : Int) != (i : Int)) = false := by simp [e1]
                clear e1
                go_wp2_with fail
                refine wp_region_quiet_below (by kernel_rfl) (by kernel_rfl) ?_
                repeat (go_big_quiet_step (fail))
                refine wpQuiet_nil ?_
                intro _ hw'
                obtain ⟨⟨dq, osq⟩, hw''⟩ := hw'
                subst hw''
                have B6 : Hid (Below w4.heap.size w4 (grow (redrawn wr dq) osq)) := hBk.out.trans ((below_regrown wr dq osq).mono hBk.out.size)
                clear ak ai
                generalize grow (redrawn wr dq) osq = w6 at *
                have ak := I4.out.at2 B6.out hkn
                generalize hv : tkB s.P (Wi i) k = v at *
                cases v
                · clear hv
                  cases hq : (s.P k == Wi i) with
                  | false =>
                    rw [hq] at TS
                    go_wp2_with fail
                    go_roundw
                    case rel => exact ⟨k + 1, by omega, by go_num, by rw [TS.out]; rfl, B6.out⟩
                    case measure => simp [intOf]; omega
                  | true =>
                    rw [hq] at TS
                    go_wp2_with fail
                    go_roundw
                    case rel => exact ⟨k + 1, by omega, by go_num, by rw [TS.out]; rfl, B6.out⟩
                    case measure => simp [intOf]; omega
                · clear hv
                  go_wp2_with fail
                  go_roundw
                  case rel => exact ⟨k + 1, by omega, by go_num, by rw [TS.out]; simp, B6.out⟩
                  case measure => simp [intOf]; omega
              · have hne : ((k : Int) != (i : Int)) = true := by simp; omega
                by_cases e2 : 0 ≤ s.P k
                · have d2 : decide (0 ≤ s.P k) = true := decide_eq_true e2
                  have d3 : (s.P k == s.P i) = false := by simp; exact INV.out.apt k i hkn hin e1 e2
                  go_wp2_with fail
                  refine wp_region_quiet_below (by kernel_rfl) (by kernel_rfl) ?_
                  repeat (go_big_quiet_step (fail))
                  refine wpQuiet_nil ?_
                  intro _ hw'
                  obtain ⟨⟨dq, osq⟩, hw''⟩ := hw'
                  subst hw''
                  have B6 : Hid (Below w4.heap.size w4 (grow (redrawn wr dq) osq)) := hBk.out.trans ((below_regrown wr dq osq).mono hBk.out.size)
                  clear ak ai
                  generalize grow (redrawn wr dq) osq = w6 at *
                  have ak := I4.out.at2 B6.out hkn
                  generalize hv : tkB s.P (Wi i) k = v at *
                  cases v
                  · clear hv
                    cases hq : (s.P k == Wi i) with
                    | false =>
                      rw [hq] at TS
                      go_wp2_with fail
                      go_roundw
                      case rel => exact ⟨k + 1, by omega, by go_num, by rw [TS.out]; rfl, B6.out⟩
                      case measure => simp [intOf]; omega
                    | true =>
                      exact absurd hq (by rw [← r1, d3]; simp)
                  · clear hv
                    go_wp2_with fail
                    go_roundw
                    case rel => exact ⟨k + 1, by omega, by go_num, by rw [TS.out]; simp, B6.out⟩
                    case measure => simp [intOf]; omega
                · have d2 : decide (0 ≤ s.P k) = false := decide_eq_false e2
                  go_wp2_with fail
                  refine wp_region_quiet_below (by kernel_rfl) (by kernel_rfl) ?_
                  repeat (go_big_quiet_step (fail))
                  refine wpQuiet_nil ?_
                  intro _ hw'
                  obtain ⟨⟨dq, osq⟩, hw''⟩ := hw'
                  subst hw''
                  have B6 : Hid (Below w4.heap.size w4 (grow (redrawn wr dq) osq)) := hBk.out.trans ((below_regrown wr dq osq).mono hBk.out.size)
                  clear ak ai
                  generalize grow (redrawn wr dq) osq = w6 at *
                  have ak := I4.out.at2 B6.out hkn
                  generalize hv : tkB s.P (Wi i) k = v at *
                  cases v
                  · clear hv
                    cases hq : (s.P k == Wi i) with
                    | false =>
                      rw [hq] at TS
                      go_wp2_with fail
                      go_roundw
                      case rel => exact ⟨k + 1, by omega, by go_num, by rw [TS.out]; rfl, B6.out⟩
                      case measure => simp [intOf]; omega
                    | true =>
                      rw [hq] at TS
                      go_wp2_with fail
                      go_roundw
                      case rel => exact ⟨k + 1, by omega, by go_num, by rw [TS.out]; rfl, B6.out⟩
                      case measure => simp [intOf]; omega
                  · clear hv
                    go_wp2_with fail
                    go_roundw
                    case rel => exact ⟨k + 1, by omega, by go_num, by rw [TS.out]; simp, B6.out⟩
                    case measure => simp [intOf]; omega
            · obtain rfl : d = k := by omega
              have hkB : decide ((d : Int) < (d : Int)) = false := decide_eq_false (by omega)
              have gi := G4.out.at2 hBk.out hin
              rw [hg] at gi
              go_wp2_with fail
              go_roundw
              case rel => exact ⟨i + 1, by omega, by go_num, hBk.out⟩
              case measure => simp [intOf]; omega
        | false =>
          have r1 := INV.out.stay i hin hg
          rw [hg] at g0
          rw [r1] at a0
          have y0 := cell_regrown a0
          have y1 := cell_regrown g0
          have y2 := cell_regrown p0
          go_wp2_with fail
          refine wp_region_quiet_below (by kernel_rfl) (by kernel_rfl) ?_
          repeat (go_big_quiet_step (fail))
          refine wpQuiet_nil ?_
          intro _ hw'
          obtain ⟨⟨dq, osq⟩, hw''⟩ := hw'
          subst hw''
          have B5 : Hid (Below w4.heap.size w4 (grow (redrawn wr dq) osq)) := hB.out.trans ((below_regrown wr dq osq).mono hB.out.size)
          clear x1 x2 x3 y0 y1 y2 a0 g0 i0 p0
          generalize grow (redrawn wr dq) osq = w5 at *
          go_wp2_with fail
          go_loopw [8, 9] (fun s8 s9 wk => ∃ k : Nat, k ≤ d ∧ s9 = .int .i64 (k : Int) ∧ s8 = .bool (tkB s.P (Wi i) k) ∧ Hid (Below w4.heap.size w4 wk)) (fun _ s9 _ => d - (intOf s9).toNat)
          case atStart => exact ⟨0, by omega, rfl, rfl, B5.out⟩
          case round =>
            obtain ⟨k, hk, rfl, rfl, hBk⟩ := hrel
            by_cases hkn : k < d
            · have hkI : (k : Int) < (d : Int) := by omega
              have hkB : decide ((k : Int) < (d : Int)) = true := decide_eq_true hkI
              have ak := cell_regrown (I4.out.at2 hBk.out hkn)
              have ai := cell_regrown (I4.out.at2 hBk.out hin)
              have TS : Hid (tkB s.P (Wi i) (k + 1) = (tkB s.P (Wi i) k || (s.P k == Wi i))) := rfl
              by_cases e1 : k = i
              · have hne : ((k : Int) != (i : Int)) = false := by simp [e1]
                clear e1
                go_wp2_with fail
                refine wp_region_quiet_below (by kernel_rfl) (by kernel_rfl) ?_
                repeat (go_big_quiet_step (fail))
                refine wpQuiet_nil ?_
                intro _ hw'
                obtain ⟨⟨dq, osq⟩, hw''⟩ := hw'
                subst hw''
                have B6 : Hid (Below w4.heap.size w4 (grow (redrawn wr dq) osq)) := hBk.out.trans ((below_regrown wr dq osq).mono hBk.out.size)
                clear ak ai
                generalize grow (redrawn wr dq) osq = w6 at *
                have ak := I4.out.at2 B6.out hkn
                generalize hv : tkB s.P (Wi i) k = v at *
                cases v
                · clear hv
                  cases hq : (s.P k == Wi i) with
                  | false =>
                    rw [hq] at TS
                    go_wp2_with fail
                    go_roundw
                    case rel => exact ⟨k + 1, by omega, by go_num, by rw [TS.out]; rfl, B6.out⟩
                    case measure => simp [intOf]; omega
                  | true =>
                    rw [hq] at TS
                    go_wp2_with fail
                    go_roundw
                    case rel => exact ⟨k + 1, by omega, by go_num, by rw [TS.out]; rfl, B6.out⟩
                    case measure => simp [intOf]; omega
                · clear hv
                  go_wp2_with fail
                  go_roundw
                  case rel => exact ⟨k + 1, by omega, by go_num, by rw [TS.out]; simp, B6.out⟩
                  case measure => simp [intOf]; omega
              · have hne : ((k : Int) != (i : Int)) = true := by simp; omega
                by_cases e2 : 0 ≤ s.P k
                · have d2 : decide (0 ≤ s.P k) = true := decide_eq_true e2
                  have d3 : (s.P k == s.P i) = false := by simp; exact INV.out.apt k i hkn hin e1 e2
                  go_wp2_with fail
                  refine wp_region_quiet_below (by kernel_rfl) (by kernel_rfl) ?_
                  repeat (go_big_quiet_step (fail))
                  refine wpQuiet_nil ?_
                  intro _ hw'
                  obtain ⟨⟨dq, osq⟩, hw''⟩ := hw'
                  subst hw''
                  have B6 : Hid (Below w4.heap.size w4 (grow (redrawn wr dq) osq)) := hBk.out.trans ((below_regrown wr dq osq).mono hBk.out.size)
                  clear ak ai
                  generalize grow (redrawn wr dq) osq = w6 at *
                  have ak := I4.out.at2 B6.out hkn
                  generalize hv : tkB s.P (Wi i) k = v at *
                  cases v
                  · clear hv
                    cases hq : (s.P k == Wi i) with
                    | false =>
                      rw [hq] at TS
                      go_wp2_with fail
                      go_roundw
                      case rel => exact ⟨k + 1, by omega, by go_num, by rw [TS.out]; rfl, B6.out⟩
                      case measure => simp [intOf]; omega
                    | true =>
                      rw [hq] at TS
                      go_wp2_with fail
                      go_roundw
                      case rel => exact ⟨k + 1, by omega, by go_num, by rw [TS.out]; rfl, B6.out⟩
                      case measure => simp [intOf]; omega
                  · clear hv
                    go_wp2_with fail
                    go_roundw
                    case rel => exact ⟨k + 1, by omega, by go_num, by rw [TS.out]; simp, B6.out⟩
                    case measure => simp [intOf]; omega
                · have d2 : decide (0 ≤ s.P k) = false := decide_eq_false e2
                  go_wp2_with fail
                  refine wp_region_quiet_below (by kernel_rfl) (by kernel_rfl) ?_
                  repeat (go_big_quiet_step (fail))
                  refine wpQuiet_nil ?_
                  intro _ hw'
                  obtain ⟨⟨dq, osq⟩, hw''⟩ := hw'
                  subst hw''
                  have B6 : Hid (Below w4.heap.size w4 (grow (redrawn wr dq) osq)) := hBk.out.trans ((below_regrown wr dq osq).mono hBk.out.size)
                  clear ak ai
                  generalize grow (redrawn wr dq) osq = w6 at *
                  have ak := I4.out.at2 B6.out hkn
                  generalize hv : tkB s.P (Wi i) k = v at *
                  cases v
                  · clear hv
                    cases hq : (s.P k == Wi i) with
                    | false =>
                      rw [hq] at TS
                      go_wp2_with fail
                      go_roundw
                      case rel => exact ⟨k + 1, by omega, by go_num, by rw [TS.out]; rfl, B6.out⟩
                      case measure => simp [intOf]; omega
                    | true =>
                      rw [hq] at TS
                      go_wp2_with fail
                      go_roundw
                      case rel => exact ⟨k + 1, by omega, by go_num, by rw [TS.out]; rfl, B6.out⟩
                      case measure => simp [intOf]; omega
                  · clear hv
                    go_wp2_with fail
                    go_roundw
                    case rel => exact ⟨k + 1, by omega, by go_num, by rw [TS.out]; simp, B6.out⟩
                    case measure => simp [intOf]; omega
            · obtain rfl : d = k := by omega
              have hkB : decide ((d : Int) < (d : Int)) = false := decide_eq_false (by omega)
              have gi := G4.out.at2 hBk.out hin
              rw [hg] at gi
              have ai := I4.out.at2 hBk.out hin
              have x1 := (K4.out.keep hBk.out).cell 1 rfl
              by_cases f1 : 0 ≤ s.P i
              rotate_left
              · have d1 : decide (0 ≤ s.P i) = false := decide_eq_false f1
                go_wp2_with fail
                go_roundw
                case rel => exact ⟨i + 1, by omega, by go_num, hBk.out⟩
                case measure => simp [intOf]; omega
              have d1 : decide (0 ≤ s.P i) = true := decide_eq_true f1
              by_cases f2 : 0 ≤ Wi i
              rotate_left
              · have d2 : decide (0 ≤ Wi i) = false := decide_eq_false f2
                go_wp2_with fail
                go_roundw
                case rel => exact ⟨i + 1, by omega, by go_num, hBk.out⟩
                case measure => simp [intOf]; omega
              have d2 : decide (0 ≤ Wi i) = true := decide_eq_true f2
              have d3 : decide (Wi i < (a : Int)) = true := decide_eq_true hw2
              obtain ⟨og, oo, eo, o0⟩ := C4.out.o.at hBk.out (show (Wi i).toNat < a by omega)
              subst eo
              cases ho : O (Wi i).toNat with
              | false =>
                rw [ho] at o0
                go_wp2_with fail
                go_roundw
                case rel => exact ⟨i + 1, by omega, by go_num, hBk.out⟩
                case measure => simp [intOf]; omega
              | true =>
                have htk : tkB s.P (Wi i) d = true := by
                  have h0 := hd_on FD.out hin f1 f2 ho
                  obtain ⟨q, q1, _, q3⟩ := onZ_pos h0
                  exact tkB_yes q1 q3
                rw [ho] at o0
                rw [htk]
                go_wp2_with fail
                go_roundw
                case rel => exact ⟨i + 1, by omega, by go_num, hBk.out⟩
                case measure => simp [intOf]; omega
      · obtain rfl : d = i := by omega
        have hiB : decide ((d : Int) < (d : Int)) = false := decide_eq_false (by omega)
        have K9 := Lib.hid (K4.out.keep hB.out)
        clear hB K4
        go_wp2_with fail
        refine (awake15_any _).mono ?_
        rintro e w99 ⟨rfl, b99⟩
        have HF := Lib.hid (K9.out.below.trans (b99.mono K9.out.below.size))
        clear b99 K9
        go_wp2_with fail
        go_ret
        exact Ret.mk rfl HF.out
end Go.Proofs.Ytoibbnkpfplmbaa
