/- The law CrowdSettles. -/
import Derived.Test.YtoibbnkpfplmbaaCwStart
namespace Go.Proofs.Ytoibbnkpfplmbaa
open Go.RowKit Go.Sort Go.Lib
set_option linter.unusedVariables false
set_option linter.unusedSimpArgs false
attribute [local go_sem] Oper.semAt_some

set_option maxRecDepth 100000 in
set_option maxHeartbeats 8000000 in
theorem walk_CrowdSettles (cells : Int) (no oc n wc m ic : Nat) (oA wA iA : Option Addr) (O : Nat → Bool) (P Wi : Nat → Int) (w : World) (h : Cin w no oc n wc m ic oA wA iA O P Wi) :
    Calls Try.prog 4 #[.agg #[.int .i64 cells, .slice oA no oc, .slice wA n wc, .slice iA m ic]] w (Ret (.bool true) w) := by
  have HC := Lib.hid h.cut
  have FC := Lib.hid (fun u => few15_any cells no oc n wc m ic oA wA iA u h.ol h.pl h.il h.om h.pm h.im)
  have K0 := Lib.hid (Kx.new w 25 #[.int .i64 cells, .slice oA no oc, .slice wA n wc, .slice iA m ic])
  have L1 : Hid (cut15 4100 no ≤ 1000000) := by have := (cut15_le 4100 no).2; show _ ≤ _; omega
  have L2 : Hid (cut15 66 n ≤ 66) := (cut15_le 66 n).2
  have L3 : Hid (cut15 66 m ≤ 66) := (cut15_le 66 m).2
  clear h
  generalize cut15 4100 no = a at *
  generalize cut15 66 n = b at *
  generalize cut15 66 m = d at *
  go_enter Try.func4, Try.ntmps4
  go_wp2_with fail
  refine (FC.out _).mono ?_
  rintro e w1 ⟨rfl, b1⟩
  have K1 := Lib.hid (K0.out.keep b1)
  have K2 := Lib.hid ((((K1.out.set 0 (.int .i64 cells)).set 1 (.slice oA a oc)).set 2 (.slice wA b wc)).set 3 (.slice iA d ic))
  clear b1 K0 FC
  have f0 := K1.out.free 0
  have f1 := K1.out.free 1
  have f2 := K1.out.free 2
  have f3 := K1.out.free 3
  have c0 := K1.out.cell 0 rfl
  have c1 := K1.out.cell 1 rfl
  have c2 := K1.out.cell 2 rfl
  have c3 := K1.out.cell 3 rfl
  clear K1
  go_upto_region 2 with fail
  generalize (((w1.setCell ⟨w.heap.size, 0, none⟩ (.int .i64 cells)).setCell ⟨w.heap.size, 1, none⟩ (.slice oA a oc)).setCell ⟨w.heap.size, 2, none⟩ (.slice wA b wc)).setCell ⟨w.heap.size, 3, none⟩ (.slice iA d ic) = w2 at *
  clear f0 f1 f2 f3 c0 c1 c2 c3
  have K2 : Hid (Kx w w.heap.size w2 25 #[.int .i64 cells, .slice oA a oc, .slice wA b wc, .slice iA d ic]) := K2.out
  have HN := Lib.hid (World.alloc_heap_new w2 (.cells #[] 3))
  have HB0 := Lib.hid (newBox (w := w2) (.cells #[] 3))
  have KX := Lib.hid (K2.out.alloc (.cells #[] 3))
  have HCX := Lib.hid (HC.out.keep KX.out.below)
  have x2 := KX.out.cell 2 rfl
  go_upto_region 3 with (at_builtin; refine append_ints rfl (.tmp 13) (.tmp 15) rfl w2.heap.size w2.heap.size b wc P wA _ rfl (Nat.le_refl _) HN.out rfl HCX.out.p HCX.out.pn (by have := L2.out; omega) (by simp) ?_; intro v' w3 hR hB)
  have K3 := Lib.hid (K2.out.keep (HB0.out.trans hB))
  obtain ⟨Aw, kw, ev, hw1, hw2, hw3, hw4⟩ := hR.iwf
  subst ev
  have W3 := Lib.hid hw3.is
  have W4 := Lib.hid hw4
  have C3 := Lib.hid (HC.out.keep K3.out.below)
  clear hR hB hw1 hw2 hw3 hw4 HN HB0 KX HCX x2 K2
  have c0 := K3.out.cell 0 rfl
  have c1 := K3.out.cell 1 rfl
  have c2 := K3.out.cell 2 rfl
  have c3 := K3.out.cell 3 rfl
  rcases chZ_or cells a b d P Wi with ⟨hz, hok⟩ | hbad
  rotate_left
  · have hz : chZ cells a b d P Wi ≠ 0 := by omega
    have hzb : (chZ cells a b d P Wi != 0) = true := by simp [hz]
    have HS := Lib.hid (settle15_bad cells a oc b wc d ic oA wA iA P Wi w3 C3.out.p C3.out.i L1.out (by have := L2.out; omega) (by have := L3.out; omega) hz)
    have HR := Lib.hid (fun (u : World) (hu : RowKit.Below w3.heap.size w3 u) => refCheck15_any cells a oc b wc d ic oA wA iA P Wi u (C3.out.keep hu).p (C3.out.keep hu).i L1.out (by have := L2.out; omega) (by have := L3.out; omega))
    clear hbad hz
    generalize chZ cells a b d P Wi = z at *
    go_wp2_with fail
    refine HS.out.mono ?_
    rintro e w4 ⟨rfl, b4⟩
    have HR4 := Lib.hid (HR.out w4 b4)
    have K4 := Lib.hid (K3.out.keep b4)
    clear b4 HR HS c0 c1 c2 c3
    have c0 := K4.out.cell 0 rfl
    have c1 := K4.out.cell 1 rfl
    have c2 := K4.out.cell 2 rfl
    have c3 := K4.out.cell 3 rfl
    go_wp2_with fail
    refine HR4.out.mono ?_
    rintro e w5 ⟨rfl, b5⟩
    have K5 := Lib.hid (K4.out.keep b5)
    clear b5 HR4 c0 c1 c2 c3 K4
    go_wp2_with fail
    refine (awake15_any _).mono ?_
    rintro e w99 ⟨rfl, b99⟩
    have HF := Lib.hid (K5.out.below.trans (b99.mono K5.out.below.size))
    clear b99 K5
    go_wp2_with fail
    go_ret
    exact Ret.mk rfl HF.out
  · obtain rfl := hok.wl
    obtain rfl := hok.len
    have HS := Lib.hid (settle15_ok (a : Int) a oc d wc d ic oA wA iA O P Wi w3 C3.out.o C3.out.p C3.out.pn C3.out.i hok)
    have HR : Hid (∀ (u : World), RowKit.Below w3.heap.size w3 u → Calls Try.prog 10 #[.int .i64 (a : Int), .slice oA a oc, .slice wA d wc, .slice iA d ic] u (Ret (.int .i64 0) u)) := by
      intro u hu
      have q := refCheck15_any (a : Int) a oc d wc d ic oA wA iA P Wi u (C3.out.keep hu).p (C3.out.keep hu).i L1.out (by have := L2.out; omega) (by have := L3.out; omega)
      rw [hz] at q
      exact q
    have HT : Hid (∀ (u : World), RowKit.Below w3.heap.size w3 u → Calls Try.prog 13 #[.slice oA a oc, .slice Aw d kw, .slice iA d ic] u fun e w' => ∃ A k gA gc, e = .returned (.tuple #[.slice A d k, .slice gA d gc]) ∧ Rf u A gA d (finS d O Wi (s0S P)) w' ∧ d ≤ k ∧ k ≤ maxLen ∧ d ≤ gc ∧ gc ≤ maxLen) := fun u hu => refSettle15_any a oc d kw ic oA Aw iA O P Wi u (C3.out.keep hu).o (W3.out.keep hu) W4.out (C3.out.keep hu).i hok
    have HW : Hid (∀ (u : World), RowKit.Below w3.heap.size w3 u → Calls Try.prog 14 #[.slice wA d wc, .slice Aw d kw] u (Ret (.bool true) u)) := fun u hu => same15_any wA Aw d wc kw P u (C3.out.keep hu).p (W3.out.keep hu) (by have := L2.out; omega)
    clear hz hok C3 W3 W4 HC
    generalize finS d O Wi (s0S P) = s at *
    go_wp2_with fail
    refine HS.out.mono ?_
    rintro e w4 ⟨A, k, gA, gc, rfl, -, hI, hG, b4, -, -, hgc1, hgc2⟩
    have K4 := Lib.hid (K3.out.keep b4)
    have N4 := Lib.hid b4
    have I4 := Lib.hid hI.is
    have G4 := Lib.hid hG.bo
    clear hI hG b4 HS c0 c1 c2 c3
    have c0 := K4.out.cell 0 rfl
    have c1 := K4.out.cell 1 rfl
    have c2 := K4.out.cell 2 rfl
    have c3 := K4.out.cell 3 rfl
    go_wp2_with fail
    refine (HR.out w4 N4.out).mono ?_
    rintro e w5 ⟨rfl, b5⟩
    have K5 := Lib.hid (K4.out.keep b5)
    have N5 := Lib.hid (N4.out.trans (b5.mono N4.out.size))
    have I5 := Lib.hid (I4.out.keep b5)
    have G5 := Lib.hid (G4.out.keep b5)
    clear b5 c0 c1 c2 c3 HR N4 I4 G4 K4
    have c0 := K5.out.cell 0 rfl
    have c1 := K5.out.cell 1 rfl
    have c2 := K5.out.cell 2 rfl
    have c3 := K5.out.cell 3 rfl
    go_wp2_with fail
    refine (HT.out w5 N5.out).mono ?_
    rintro e w6 ⟨A2, k2, gA2, gc2, rfl, hRf, -, -, hgc3, hgc4⟩
    have b6 := hRf.below
    have K6 := Lib.hid (K5.out.keep b6)
    have N6 := Lib.hid (N5.out.trans (b6.mono N5.out.size))
    have I6 := Lib.hid (I5.out.keep b6)
    have G6 := Lib.hid (G5.out.keep b6)
    have J6 := Lib.hid hRf.wh.is
    have H6 := Lib.hid hRf.mv.bo
    have S6 := Lib.hid (same15_any A A2 d k k2 s.P w6 I6.out J6.out (by have := L2.out; omega))
    clear b6 c0 c1 c2 c3 hRf HT N5 I5 G5 K5 I6 J6
    go_wp2_with fail
    refine S6.out.mono ?_
    rintro e w7 ⟨rfl, b7⟩
    have K7 := Lib.hid (K6.out.keep b7)
    have N7 := Lib.hid (N6.out.trans (b7.mono N6.out.size))
    have G7 := Lib.hid (G6.out.keep b7)
    have H7 := Lib.hid (H6.out.keep b7)
    clear b7 S6 N6 G6 H6 K6
    have c0 := K7.out.cell 0 rfl
    have c1 := K7.out.cell 1 rfl
    have c2 := K7.out.cell 2 rfl
    have c3 := K7.out.cell 3 rfl
    go_wp2_with fail
    refine (HW.out w7 N7.out).mono ?_
    rintro e w8 ⟨rfl, b8⟩
    have K8 := Lib.hid (K7.out.keep b8)
    have G8 := Lib.hid (G7.out.keep b8)
    have H8 := Lib.hid (H7.out.keep b8)
    clear b8 HW N7 G7 H7 K7 c0 c1 c2 c3
    go_wp2_with fail
    go_loopw [10] (fun s10 wr => ∃ q : Nat, q ≤ d ∧ s10 = .int .i64 (q : Int) ∧ Hid (Below w8.heap.size w8 wr)) (fun s10 _ => d - (intOf s10).toNat)
    case atStart => exact ⟨0, by omega, rfl, Below.refl _ _⟩
    case round =>
      obtain ⟨q, hq, rfl, hb⟩ := hrel
      have hd66 := L2.out
      by_cases hqn : q < d
      · have hkI : (q : Int) < (d : Int) := by omega
        have hkB : decide ((q : Int) < (d : Int)) = true := decide_eq_true hkI
        obtain ⟨g1, o1, eg, e0⟩ := G8.out.at hb.out hqn
        obtain ⟨g2, o2, eh, e1⟩ := H8.out.at hb.out hqn
        subst eg eh
        have z0 := cell_regrown e0
        have z1 := cell_regrown e1
        clear e0 e1
        generalize s.G q = v at *
        go_wp2_with fail
        refine wp_region_quiet_below (by kernel_rfl) (by kernel_rfl) ?_
        repeat (go_big_quiet_step (fail))
        refine wpQuiet_nil ?_
        intro _ hw'
        obtain ⟨⟨dq, osq⟩, hw''⟩ := hw'
        subst hw''
        have B2 : Hid (Below w8.heap.size w8 (grow (redrawn wr dq) osq)) := hb.out.trans ((below_regrown wr dq osq).mono hb.out.size)
        clear hb z0 z1
        generalize grow (redrawn wr dq) osq = w9 at *
        go_wp2_with fail
        go_roundw
        case rel => exact ⟨q + 1, by omega, by go_num, B2⟩
        case measure => simp [intOf]; omega
      · obtain rfl : q = d := by omega
        have hkB : decide ((q : Int) < (q : Int)) = false := decide_eq_false (by omega)
        have K9 := Lib.hid (K8.out.keep hb.out)
        clear hb K8
        go_wp2_with fail
        refine (awake15_any _).mono ?_
        rintro e w99 ⟨rfl, b99⟩
        have HF := Lib.hid (K9.out.below.trans (b99.mono K9.out.below.size))
        clear b99 K9
        go_wp2_with fail
        go_ret
        exact Ret.mk rfl HF.out
end Go.Proofs.Ytoibbnkpfplmbaa
