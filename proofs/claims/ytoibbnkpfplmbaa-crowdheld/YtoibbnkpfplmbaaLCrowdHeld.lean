/- The law CrowdHeld. -/
import Derived.Test.YtoibbnkpfplmbaaCwStart
namespace Go.Proofs.Ytoibbnkpfplmbaa
open Go.RowKit Go.Sort Go.Lib
set_option linter.unusedVariables false
set_option linter.unusedSimpArgs false
attribute [local go_sem] Oper.semAt_some

set_option maxRecDepth 100000 in
set_option maxHeartbeats 8000000 in
theorem walk_CrowdHeld (cells : Int) (no oc n wc m ic : Nat) (oA wA iA : Option Addr) (O : Nat → Bool) (P Wi : Nat → Int) (w : World) (h : Cin w no oc n wc m ic oA wA iA O P Wi) :
    Calls Try.prog 5 #[.agg #[.int .i64 cells, .slice oA no oc, .slice wA n wc, .slice iA m ic]] w (Ret (.bool true) w) := by
  have HC := Lib.hid h.cut
  have FC := Lib.hid (fun u => few15_any cells no oc n wc m ic oA wA iA u h.ol h.pl h.il h.om h.pm h.im)
  have K0 := Lib.hid (Kx.new w 25 #[.int .i64 cells, .slice oA no oc, .slice wA n wc, .slice iA m ic])
  have L1 : Hid (cut15 4100 no ≤ 1000000) := by have := (cut15_le 4100 no).2; show _ ≤ _; omega
  have L2 : Hid (cut15 66 n ≤ 66) := (cut15_le 66 n).2
  have L3 : Hid (cut15 66 m ≤ 66) := (cut15_le 66 m).2
  clear h
  generalize cut15 4100 no = a at *
  generalize cut15 66 n = b at *
  generalize cut15 66 m = d at *
  go_enter Try.func5, Try.ntmps5
  go_wp2_with fail
  refine (FC.out _).mono ?_
  rintro e w1 ⟨rfl, b1⟩
  have K1 := Lib.hid (K0.out.keep b1)
  have K2 := Lib.hid ((((K1.out.set 0 (.int .i64 cells)).set 1 (.slice oA a oc)).set 2 (.slice wA b wc)).set 3 (.slice iA d ic))
  clear b1 K0 FC
  have f0 := K1.out.free 0
  have f1 := K1.out.free 1
  have f2 := K1.out.free 2
  have f3 := K1.out.free 3
  have c0 := K1.out.cell 0 rfl
  have c1 := K1.out.cell 1 rfl
  have c2 := K1.out.cell 2 rfl
  have c3 := K1.out.cell 3 rfl
  clear K1
  go_upto_region 2 with fail
  generalize (((w1.setCell ⟨w.heap.size, 0, none⟩ (.int .i64 cells)).setCell ⟨w.heap.size, 1, none⟩ (.slice oA a oc)).setCell ⟨w.heap.size, 2, none⟩ (.slice wA b wc)).setCell ⟨w.heap.size, 3, none⟩ (.slice iA d ic) = w2 at *
  clear f0 f1 f2 f3 c0 c1 c2 c3
  have K2 : Hid (Kx w w.heap.size w2 25 #[.int .i64 cells, .slice oA a oc, .slice wA b wc, .slice iA d ic]) := K2.out
  have C2 := Lib.hid (HC.out.keep K2.out.below)
  have c0 := K2.out.cell 0 rfl
  have c1 := K2.out.cell 1 rfl
  have c2 := K2.out.cell 2 rfl
  have c3 := K2.out.cell 3 rfl
  rcases chZ_or cells a b d P Wi with ⟨hz, hok⟩ | hbad
  rotate_left
  · have hz : chZ cells a b d P Wi ≠ 0 := by omega
    have hzb : (chZ cells a b d P Wi != 0) = true := by simp [hz]
    have HS := Lib.hid (heldF15_bad cells a oc b wc d ic oA wA iA P Wi w2 C2.out.p C2.out.i L1.out (by have := L2.out; omega) (by have := L3.out; omega) hz)
    have HR := Lib.hid (fun (u : World) (hu : RowKit.Below w2.heap.size w2 u) => refCheck15_any cells a oc b wc d ic oA wA iA P Wi u (C2.out.keep hu).p (C2.out.keep hu).i L1.out (by have := L2.out; omega) (by have := L3.out; omega))
    clear hbad hz HC
    generalize chZ cells a b d P Wi = z at *
    go_wp2_with fail
    refine HS.out.mono ?_
    rintro e w4 ⟨rfl, b4⟩
    have HR4 := Lib.hid (HR.out w4 b4)
    have K4 := Lib.hid (K2.out.keep b4)
    clear b4 HR HS c0 c1 c2 c3
    have c0 := K4.out.cell 0 rfl
    have c1 := K4.out.cell 1 rfl
    have c2 := K4.out.cell 2 rfl
    have c3 := K4.out.cell 3 rfl
    go_wp2_with fail
    refine HR4.out.mono ?_
    rintro e w5 ⟨rfl, b5⟩
    have K5 := Lib.hid (K4.out.keep b5)
    clear b5 HR4 c0 c1 c2 c3 K4
    go_wp2_with fail
    refine (awake15_any _).mono ?_
    rintro e w99 ⟨rfl, b99⟩
    have HF := Lib.hid (K5.out.below.trans (b99.mono K5.out.below.size))
    clear b99 K5
    go_wp2_with fail
    go_ret
    exact Ret.mk rfl HF.out
  · obtain rfl := hok.wl
    obtain rfl := hok.len
    have HS := Lib.hid (heldF15_ok (a : Int) a oc d wc d ic oA wA iA O P Wi w2 C2.out.o C2.out.p C2.out.pn C2.out.i hok)
    have HR : Hid (∀ (u : World), RowKit.Below w2.heap.size w2 u → Calls Try.prog 10 #[.int .i64 (a : Int), .slice oA a oc, .slice wA d wc, .slice iA d ic] u (Ret (.int .i64 0) u)) := by
      intro u hu
      have q := refCheck15_any (a : Int) a oc d wc d ic oA wA iA P Wi u (C2.out.keep hu).p (C2.out.keep hu).i L1.out (by have := L2.out; omega) (by have := L3.out; omega)
      rw [hz] at q
      exact q
    have HT : Hid (∀ (u : World), RowKit.Below w2.heap.size w2 u → Calls Try.prog 16 #[.slice oA a oc, .slice wA d wc, .slice iA d ic] u fun e w' => ∃ v, e = .returned v ∧ Rn w' u.heap.size v (hlZ d O Wi (finS d O Wi (s0S P)).P d) ∧ Below u.heap.size u w') := fun u hu => refHeld15_any a oc d wc ic oA wA iA O P Wi u (C2.out.keep hu).o (C2.out.keep hu).p C2.out.pn (C2.out.keep hu).i hok
    have HL : Hid ((hlZ d O Wi (finS d O Wi (s0S P)).P d).length ≤ 1000000) := by
      have h1 := hlZ_len d O Wi (finS d O Wi (s0S P)).P d
      have h2 := L2.out
      show _ ≤ _
      omega
    clear hz hok C2 HC
    generalize hlZ d O Wi (finS d O Wi (s0S P)).P d = ll at *
    go_wp2_with fail
    refine HS.out.mono ?_
    rintro e w4 ⟨v, rfl, hv, b4⟩
    obtain ⟨A, k, rfl, -, -, hI⟩ := hv.iw
    have K4 := Lib.hid (K2.out.keep b4)
    have N4 := Lib.hid b4
    have I4 := Lib.hid hI.is
    clear hI b4 HS c0 c1 c2 c3 hv
    have c0 := K4.out.cell 0 rfl
    have c1 := K4.out.cell 1 rfl
    have c2 := K4.out.cell 2 rfl
    have c3 := K4.out.cell 3 rfl
    go_wp2_with fail
    refine (HR.out w4 N4.out).mono ?_
    rintro e w5 ⟨rfl, b5⟩
    have K5 := Lib.hid (K4.out.keep b5)
    have N5 := Lib.hid (N4.out.trans (b5.mono N4.out.size))
    have I5 := Lib.hid (I4.out.keep b5)
    clear b5 c0 c1 c2 c3 HR N4 I4 K4
    have c0 := K5.out.cell 0 rfl
    have c1 := K5.out.cell 1 rfl
    have c2 := K5.out.cell 2 rfl
    have c3 := K5.out.cell 3 rfl
    go_wp2_with fail
    refine (HT.out w5 N5.out).mono ?_
    rintro e w6 ⟨v6, rfl, hv6, b6⟩
    obtain ⟨A6, k6, rfl, -, -, hI6⟩ := hv6.iw
    have K6 := Lib.hid (K5.out.keep b6)
    have S6 := Lib.hid (same15_any A A6 ll.length k k6 (fun i => ll.getD i 0) w6 (I5.out.keep b6) hI6.is HL.out)
    clear b6 hI6 hv6 c0 c1 c2 c3 I5 N5 K5 HT HL
    go_wp2_with fail
    refine S6.out.mono ?_
    rintro e w7 ⟨rfl, b7⟩
    have K7 := Lib.hid (K6.out.keep b7)
    clear b7 S6 K6
    go_wp2_with fail
    refine (awake15_any _).mono ?_
    rintro e w99 ⟨rfl, b99⟩
    have HF := Lib.hid (K7.out.below.trans (b99.mono K7.out.below.size))
    clear b99 K7
    go_wp2_with fail
    go_ret
    exact Ret.mk rfl HF.out
end Go.Proofs.Ytoibbnkpfplmbaa
