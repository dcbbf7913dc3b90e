/- The law CrowdStill. -/
import Derived.Test.YtoibbnkpfplmbaaCwStart
namespace Go.Proofs.Ytoibbnkpfplmbaa
open Go.RowKit Go.Sort Go.Lib
set_option linter.unusedVariables false
set_option linter.unusedSimpArgs false
attribute [local go_sem] Oper.semAt_some

theorem okc_fin {cells : Int} {no n : Nat} {O : Nat → Bool} {P Wi : Nat → Int} (h : Okc cells no n n P Wi) : Okc cells no n n (finS n O Wi (s0S P)).P Wi := by
  have q := fin_inv (inv_s0 (n := n) (O := O) (Wi := Wi) h.apt)
  refine ⟨h.lo, h.hi, h.len, h.few, rfl, fun i hi => ?_, h.rw, q.apt⟩
  cases hg : (finS n O Wi (s0S P)).G i with
  | true => rw [(q.gone i hi hg).1]; exact h.rw i hi
  | false => rw [q.stay i hi hg]; exact h.rp i hi
theorem okc_no {cells : Int} {no n : Nat} {P Wi : Nat → Int} (h : Okc cells no n n P Wi) : Okc cells no n n P (fun _ => -1) :=
  ⟨h.lo, h.hi, h.len, h.few, rfl, h.rp, fun i hi => by have := h.lo; omega, h.apt⟩
theorem fin_still {n : Nat} {O : Nat → Bool} {Wi P : Nat → Int} (h : Done n O Wi P) : finS n O Wi (s0S P) = s0S P := by
  have := done_rr (n := n) (O := O) (Wi := Wi) (s := s0S P) (r := 0) h (n + 1)
  rw [Nat.zero_add] at this
  exact this
theorem done_no (n : Nat) (O : Nat → Bool) (P : Nat → Int) : Done n O (fun _ => -1) P := fun j _ => by
  rw [Bool.eq_false_iff]
  intro q
  have := (canS_iff.1 q).2.1
  omega
/-- The first k are -1. -/
def fil (k : Nat) : Nat → Int := fun j => if j < k then -1 else 0

set_option maxRecDepth 100000 in
set_option maxHeartbeats 8000000 in
theorem walk_CrowdStill (cells : Int) (no oc n wc m ic : Nat) (oA wA iA : Option Addr) (O : Nat → Bool) (P Wi : Nat → Int) (w : World) (h : Cin w no oc n wc m ic oA wA iA O P Wi) :
    Calls Try.prog 7 #[.agg #[.int .i64 cells, .slice oA no oc, .slice wA n wc, .slice iA m ic]] w (Ret (.bool true) w) := by
  have HC := Lib.hid h.cut
  have FC := Lib.hid (fun u => few15_any cells no oc n wc m ic oA wA iA u h.ol h.pl h.il h.om h.pm h.im)
  have K0 := Lib.hid (Kx.new w 25 #[.int .i64 cells, .slice oA no oc, .slice wA n wc, .slice iA m ic])
  have L1 : Hid (cut15 4100 no ≤ 1000000) := by have := (cut15_le 4100 no).2; show _ ≤ _; omega
  have L2 : Hid (cut15 66 n ≤ 66) := (cut15_le 66 n).2
  have L3 : Hid (cut15 66 m ≤ 66) := (cut15_le 66 m).2
  clear h
  generalize cut15 4100 no = a at *
  generalize cut15 66 n = b at *
  generalize cut15 66 m = d at *
  go_enter Try.func7, Try.ntmps7
  go_wp2_with fail
  refine (FC.out _).mono ?_
  rintro e w1 ⟨rfl, b1⟩
  have K1 := Lib.hid (K0.out.keep b1)
  have K2 := Lib.hid ((((K1.out.set 0 (.int .i64 cells)).set 1 (.slice oA a oc)).set 2 (.slice wA b wc)).set 3 (.slice iA d ic))
  clear b1 K0 FC
  have f0 := K1.out.free 0
  have f1 := K1.out.free 1
  have f2 := K1.out.free 2
  have f3 := K1.out.free 3
  have c0 := K1.out.cell 0 rfl
  have c1 := K1.out.cell 1 rfl
  have c2 := K1.out.cell 2 rfl
  have c3 := K1.out.cell 3 rfl
  clear K1
  go_upto_region 2 with fail
  generalize (((w1.setCell ⟨w.heap.size, 0, none⟩ (.int .i64 cells)).setCell ⟨w.heap.size, 1, none⟩ (.slice oA a oc)).setCell ⟨w.heap.size, 2, none⟩ (.slice wA b wc)).setCell ⟨w.heap.size, 3, none⟩ (.slice iA d ic) = w2 at *
  clear f0 f1 f2 f3 c0 c1 c2 c3
  have K2 : Hid (Kx w w.heap.size w2 25 #[.int .i64 cells, .slice oA a oc, .slice wA b wc, .slice iA d ic]) := K2.out
  have C2 := Lib.hid (HC.out.keep K2.out.below)
  have c0 := K2.out.cell 0 rfl
  have c1 := K2.out.cell 1 rfl
  have c2 := K2.out.cell 2 rfl
  have c3 := K2.out.cell 3 rfl
  rcases chZ_or cells a b d P Wi with ⟨hz, hok⟩ | hbad
  rotate_left
  · have hz : chZ cells a b d P Wi ≠ 0 := by omega
    have hzb : (chZ cells a b d P Wi != 0) = true := by simp [hz]
    have HS := Lib.hid (settle15_bad cells a oc b wc d ic oA wA iA P Wi w2 C2.out.p C2.out.i L1.out (by have := L2.out; omega) (by have := L3.out; omega) hz)
    clear hbad hz HC C2
    generalize chZ cells a b d P Wi = z at *
    go_wp2_with fail
    refine HS.out.mono ?_
    rintro e w4 ⟨rfl, b4⟩
    have K4 := Lib.hid (K2.out.keep b4)
    clear b4 HS c0 c1 c2 c3
    go_wp2_with fail
    refine (awake15_any _).mono ?_
    rintro e w99 ⟨rfl, b99⟩
    have HF := Lib.hid (K4.out.below.trans (b99.mono K4.out.below.size))
    clear b99 K4
    go_wp2_with fail
    go_ret
    exact Ret.mk rfl HF.out
  · obtain rfl := hok.wl
    obtain rfl := hok.len
    have HS := Lib.hid (settle15_ok (a : Int) a oc d wc d ic oA wA iA O P Wi w2 C2.out.o C2.out.p C2.out.pn C2.out.i hok)
    have OK2 := Lib.hid (okc_fin (O := O) hok)
    have FD := Lib.hid (fin_done (inv_s0 (n := d) (O := O) (Wi := Wi) hok.apt))
    have hd66 := L2.out
    clear hz hok HC
    generalize finS d O Wi (s0S P) = s at *
    have OK3 := Lib.hid (okc_no OK2.out)
    have F2 := Lib.hid (fin_still FD.out)
    have F3 := Lib.hid (fin_still (done_no d O s.P))
    clear FD
    go_wp2_with fail
    refine HS.out.mono ?_
    rintro e w4 ⟨A, k, gA, gc, rfl, hAk, hI, -, b4, hk1, hk2, -, -⟩
    have K4 := Lib.hid (K2.out.keep b4)
    have C4 := Lib.hid (C2.out.keep b4)
    have I4 := Lib.hid hI.is
    have S2 := Lib.hid (settle15_ok (a : Int) a oc d k d ic oA A iA O s.P Wi w4 C4.out.o I4.out hAk C4.out.i OK2.out)
    rw [F2.out] at S2
    have S3 := Lib.hid (fun (u : World) (q : Nat) (hu : RowKit.Below w4.heap.size w4 u) (hn : Is u (some ⟨q, 0, none⟩) d (fun _ => -1)) => settle15_ok (a : Int) a oc d k d d oA A (some ⟨q, 0, none⟩) O s.P (fun _ => -1) u (C4.out.keep hu).o (I4.out.keep hu) hAk hn OK3.out)
    rw [F3.out] at S3
    have hmk := run_make_row' (P := Try.prog) 23 3 (.int .i64 0) 8 Try.underlying23 Try.infoN15 rfl .i64 .i64 d (by omega) (by omega)
    clear hI b4 HS c0 c1 c2 c3 C2 hk1 hk2 F2 F3 OK2 OK3 C4
    have c0 := K4.out.cell 0 rfl
    have c1 := K4.out.cell 1 rfl
    have c2 := K4.out.cell 2 rfl
    have c3 := K4.out.cell 3 rfl
    go_wp2_with fail
    refine S2.out.mono ?_
    rintro e w5 ⟨Ab, kb, gb, gcb, rfl, -, hI5, -, b5, -, -, -, -⟩
    have K5 := Lib.hid (K4.out.keep b5)
    have N5 := Lib.hid b5
    have J5 := Lib.hid hI5.is
    clear b5 hI5 S2 c0 c1 c2 c3
    have c0 := K5.out.cell 0 rfl
    have c1 := K5.out.cell 1 rfl
    have c2 := K5.out.cell 2 rfl
    have c3 := K5.out.cell 3 rfl
    have F0 := Lib.hid (Iw.made w5 d)
    have B0 := Lib.hid (newBox (w := w5) (.cells (madeCells #[.int .i64 0] d) 3))
    go_wp2_with fail
    go_loopw [10] (fun s10 wr => ∃ q : Nat, q ≤ d ∧ s10 = .int .i64 (q : Int) ∧ Hid (Iw wr w5.heap.size (some ⟨w5.heap.size, 0, none⟩) d (fil q)) ∧ Hid (Below w5.heap.size w5 wr)) (fun s10 _ => d - (intOf s10).toNat)
    case atStart => exact ⟨0, by omega, rfl, F0.out.congr fun i _ => by simp [fil], B0.out⟩
    case round =>
      obtain ⟨q, hq, rfl, hF, hB⟩ := hrel
      clear c0 c1 c2 c3
      by_cases hqn : q < d
      · have hkI : (q : Int) < (d : Int) := by omega
        have hkB : decide ((q : Int) < (d : Int)) = true := decide_eq_true hkI
        obtain ⟨g9, eg, -, -, y0, y1, -, y2⟩ := hF.out.at hqn
        injection eg with eg
        injection eg with eg
        subst eg
        have y3 := y0 q hqn
        have y4 := y1 q
        have F9 := Lib.hid ((y2 (-1)).congr (q := fil (q + 1)) (fun i _ => by
          unfold cwU fil
          by_cases e : i = q
          · rw [if_pos e, if_pos (by omega)]
          · rw [if_neg e]
            by_cases e2 : i < q
            · rw [if_pos e2, if_pos (by omega)]
            · rw [if_neg e2, if_neg (by omega)]))
        have B9 : Hid (Below w5.heap.size w5 (wr.setCell ⟨w5.heap.size, q, none⟩ (.int .i64 (-1)))) := hB.out.setCell (Nat.le_refl _) _
        clear y0 y1 y2 hF hB
        go_wp2_with fail
        go_roundw
        case rel => exact ⟨q + 1, by omega, by go_num, F9.out, B9.out⟩
        case measure => simp [intOf]; omega
      · obtain rfl : d = q := by omega
        have hkB : decide ((d : Int) < (d : Int)) = false := decide_eq_false (by omega)
        have K6 := Lib.hid (K5.out.keep hB.out)
        have J6 := Lib.hid (J5.out.keep hB.out)
        have N6 := Lib.hid (N5.out.trans (hB.out.mono N5.out.size))
        have S6 := Lib.hid (S3.out wr w5.heap.size N6.out (hF.out.is.congr fun i hi => by simp [fil, hi]))
        clear hF hB S3 N5 J5 K5 F0 B0 K4
        have c0 := K6.out.cell 0 rfl
        have c1 := K6.out.cell 1 rfl
        have c2 := K6.out.cell 2 rfl
        have c3 := K6.out.cell 3 rfl
        go_wp2_with fail
        refine S6.out.mono ?_
        rintro e w7 ⟨A3, k3, g3, gc3, rfl, -, hI7, hG7, b7, -, -, hg1, hg2⟩
        have K7 := Lib.hid (K6.out.keep b7)
        have J7 := Lib.hid (J6.out.keep b7)
        have I7 := Lib.hid (I4.out.keep (N6.out.trans (b7.mono N6.out.size)))
        have M7 := Lib.hid hI7.is
        have G7 := Lib.hid hG7.bo
        clear b7 hI7 hG7 S6 c0 c1 c2 c3 N6 J6 K6 I4
        go_wp2_with fail
        go_loopw [14] (fun s14 wr => ∃ q : Nat, q ≤ d ∧ s14 = .int .i64 (q : Int) ∧ Hid (Below w7.heap.size w7 wr)) (fun s14 _ => d - (intOf s14).toNat)
        case atStart => exact ⟨0, by omega, rfl, Below.refl _ _⟩
        case round =>
          obtain ⟨q, hq, rfl, hB⟩ := hrel
          by_cases hqn : q < d
          · have hkI : (q : Int) < (d : Int) := by omega
            have hkB : decide ((q : Int) < (d : Int)) = true := decide_eq_true hkI
            obtain ⟨g9, o9, e9, y0⟩ := G7.out.at hB.out hqn
            subst e9
            have y1 : wr.cell? ⟨g9, o9 + q, none⟩ = some (.bool false) := y0
            clear y0
            go_wp2_with fail
            go_roundw
            case rel => exact ⟨q + 1, by omega, by go_num, hB.out⟩
            case measure => simp [intOf]; omega
          · obtain rfl : d = q := by omega
            have hkB : decide ((d : Int) < (d : Int)) = false := decide_eq_false (by omega)
            have K8 := Lib.hid (K7.out.keep hB.out)
            have S8 := Lib.hid (same15_any A Ab d k kb s.P wr (I7.out.keep hB.out) (J7.out.keep hB.out) (by omega))
            have I8 := Lib.hid (I7.out.keep hB.out)
            have M8 := Lib.hid (M7.out.keep hB.out)
            clear hB K7 I7 J7 M7 G7
            go_wp2_with fail
            refine S8.out.mono ?_
            rintro e w9 ⟨rfl, b9⟩
            have K9 := Lib.hid (K8.out.keep b9)
            have S9 := Lib.hid (same15_any A A3 d k k3 s.P w9 (I8.out.keep b9) (M8.out.keep b9) (by omega))
            clear b9 S8 K8 I8 M8
            go_wp2_with fail
            refine S9.out.mono ?_
            rintro e w10 ⟨rfl, b10⟩
            have K10 := Lib.hid (K9.out.keep b10)
            clear b10 S9 K9
            go_wp2_with fail
            refine (awake15_any _).mono ?_
            rintro e w99 ⟨rfl, b99⟩
            have HF := Lib.hid (K10.out.below.trans (b99.mono K10.out.below.size))
            clear b99 K10
            go_wp2_with fail
            go_ret
            exact Ret.mk rfl HF.out
end Go.Proofs.Ytoibbnkpfplmbaa
