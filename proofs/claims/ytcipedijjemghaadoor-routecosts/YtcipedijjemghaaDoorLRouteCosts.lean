/- The law RouteCosts. -/
import Derived.Test.YtcipedijjemghaaDoorLRtStart
import Derived.Test.YtcipedijjemghaaDoorRt8b
namespace Go.Proofs.YtcipedijjemghaaDoor
open Go.RowKit Go.Sort Go.Shelf
set_option linter.unusedVariables false
set_option linter.unusedSimpArgs false
attribute [local go_sem] Oper.semAt_some

set_option maxRecDepth 100000 in
set_option maxHeartbeats 8000000 in
theorem walk_RouteCosts (W H : Int) (A : Option Addr) (n c : Nat) (O : Nat → Bool) (t : Int) (w : World) (hl : Lin w A n c O) :
    Calls Tryd.prog 3 #[.agg #[.int .i64 W, .int .i64 H, .slice A n c], .int .i64 t] w (Ret (.bool true) w) := by
  have HL := Lib.hid hl.cut
  have HT := Lib.hid hl.tb
  have FC := Lib.hid (fun u => few13_any W H A n c u hl.nc hl.cm)
  have K0 := Lib.hid (Kx.new w 24 #[.int .i64 W, .int .i64 H, .slice A n c])
  have hm0 := (cut13_le n).2
  clear hl
  generalize hm : cut13 n = m at *
  clear hm
  go_enter Tryd.func3, Tryd.ntmps3
  go_wp2_with fail
  refine (FC.out _).mono ?_
  rintro e w1 ⟨rfl, b1⟩
  have K1 := Lib.hid (K0.out.keep b1)
  have c0 := K1.out.cell 0 rfl
  have c1 := K1.out.cell 1 rfl
  have c2 := K1.out.cell 2 rfl
  have f0 := K1.out.free 0
  have f1 := K1.out.free 1
  have f2 := K1.out.free 2
  have K2 : Hid (Kx w w.heap.size (((w1.setCell ⟨w.heap.size, 0, none⟩ (.int .i64 W)).setCell ⟨w.heap.size, 1, none⟩ (.int .i64 H)).setCell ⟨w.heap.size, 2, none⟩ (.slice A m c)) 24 #[.int .i64 W, .int .i64 H, .slice A m c]) := ((K1.out.set 0 (.int .i64 W)).set 1 (.int .i64 H)).set 2 (.slice A m c)
  have y0 := K2.out.cell 0 rfl
  have y1 := K2.out.cell 1 rfl
  have y2 := K2.out.cell 2 rfl
  have RC := Lib.hid (costs13_any W H O m c t A _ (HL.out.keep K2.out.below))
  clear b1 K0 FC K1
  go_wp2_with fail
  refine RC.out.mono ?_
  rintro e w3 ⟨b1, hcs⟩
  have K3 := Lib.hid (K2.out.keep b1)
  clear b1 K2 RC c0 c1 c2 f0 f1 f2 y0 y1 y2
  have MC := Lib.hid (fun u => may13_any W H A m c u (by unfold maxLen; omega))
  have y0 := K3.out.cell 0 rfl
  have y1 := K3.out.cell 1 rfl
  have y2 := K3.out.cell 2 rfl
  have AW : Hid (∀ u u', RowKit.Below w.heap.size w u → RowKit.Below u.heap.size u u' → Calls Tryd.prog 12 #[] u' (fun e w' => e = .returned (.bool true) ∧ RowKit.Below w.heap.size w w')) := by
    intro u u' h1 h2
    have h3 := h1.trans (h2.mono h1.size)
    refine (awake13_any u' (HT.out.keep h3)).mono ?_
    rintro e w' ⟨rfl, hb⟩
    exact ⟨rfl, h3.trans (hb.mono h3.size)⟩
  rcases hcs with ⟨hn, rfl⟩ | ⟨hL, hr, rfl⟩ | ⟨hL, hr, rg, rfl, hI⟩
  · have hmay := lnB_no.2 hn
    go_wp2_with fail
    refine (MC.out _).mono ?_
    rintro e w4 ⟨rfl, b1⟩
    rw [hmay]
    have K4 := Lib.hid (K3.out.keep b1)
    clear b1 y0 y1 y2 hmay hn K3
    go_wp2_with fail
    refine (AW.out w4 _ K4.out.below (Below.refl _ _)).mono ?_
    rintro e w5 ⟨rfl, hb⟩
    have HB := Lib.hid hb
    clear hb AW
    go_wp2
    go_ret
    exact Ret.mk rfl HB.out
  · have hmay := lnB_yes.2 hL
    go_wp2_with fail
    refine (MC.out _).mono ?_
    rintro e w4 ⟨rfl, b1⟩
    rw [hmay]
    have K4 := Lib.hid (K3.out.keep b1)
    clear b1 y0 y1 y2 hmay hL K3
    have y2 := K4.out.cell 2 rfl
    by_cases ht0 : t < 0
    · have hd0 : decide (t < 0) = true := decide_eq_true ht0
      clear hr
      go_wp2_with fail
      refine (AW.out w4 _ K4.out.below (Below.refl _ _)).mono ?_
      rintro e w5 ⟨rfl, hb⟩
      have HB := Lib.hid hb
      clear hb AW
      go_wp2
      go_ret
      exact Ret.mk rfl HB.out
    · have hd0 : decide (t < 0) = false := decide_eq_false ht0
      have hd1 : decide ((m : Int) ≤ t) = true := decide_eq_true (by omega)
      clear hr
      go_wp2_with fail
      refine (AW.out w4 _ K4.out.below (Below.refl _ _)).mono ?_
      rintro e w5 ⟨rfl, hb⟩
      have HB := Lib.hid hb
      clear hb AW
      go_wp2
      go_ret
      exact Ret.mk rfl HB.out
  · have hmay := lnB_yes.2 hL
    have HLN := Lib.hid hL
    have hmb := hL.bd
    have HI := Lib.hid hI
    obtain ⟨tN, htN⟩ : ∃ tN : Nat, t = (tN : Int) := ⟨t.toNat, by omega⟩
    subst htN
    have htm : tN < m := by omega
    have hd0 : decide ((tN : Int) < 0) = false := decide_eq_false (by omega)
    have hd1 : decide ((m : Int) ≤ (tN : Int)) = false := decide_eq_false (by omega)
    clear hI hr hL
    go_wp2_with fail
    refine (MC.out _).mono ?_
    rintro e w4 ⟨rfl, b1⟩
    rw [hmay]
    have K4 := Lib.hid (K3.out.keep b1)
    have I4 := Lib.hid (HI.out.keep b1)
    clear b1 y0 y1 y2 hmay K3 HI
    have y0 := K4.out.cell 0 rfl
    have y1 := K4.out.cell 1 rfl
    have y2 := K4.out.cell 2 rfl
    go_wp2_with fail
    refine (small13_any W H A m c _).mono ?_
    rintro e w5 ⟨rfl, b1⟩
    have K5 := Lib.hid (K4.out.keep b1)
    have I5 := Lib.hid (I4.out.keep b1)
    clear b1 y0 y1 y2 K4 I4
    have y0 := K5.out.cell 0 rfl
    have y1 := K5.out.cell 1 rfl
    have y2 := K5.out.cell 2 rfl
    cases hsm : decide ((m : Int) ≤ 160) with
    | false =>
      clear hsm
      have hmm : ((m : Int) == (m : Int)) = true := by simp
      go_wp2_with fail
      refine (AW.out w5 _ K5.out.below (Below.refl _ _)).mono ?_
      rintro e w6 ⟨rfl, hb⟩
      have HB := Lib.hid hb
      clear hb AW
      go_wp2
      go_ret
      exact Ret.mk rfl HB.out
    | true =>
      clear hsm
      have RR := Lib.hid (refCosts13_any W H O m c tN A w5 HLN.out ((HL.out.keep K5.out.below).bo) HL.out.nc HL.out.cm htm)
      go_wp2_with fail
      refine RR.out.mono ?_
      rintro e w6 ⟨b1, rq, rfl, hq, -⟩
      have K6 := Lib.hid (K5.out.keep b1)
      have I6 := Lib.hid (I5.out.keep b1)
      have Q6 := Lib.hid hq
      have hmm : ((m : Int) != (m : Int)) = false := by simp
      clear b1 hq K5 I5 RR y0 y1 y2
      go_wp2
      go_loopw [8] (fun s8 wr => ∃ k : Nat, k ≤ m ∧ s8 = .int .i64 (k : Int) ∧ Hid (RowKit.Below w6.heap.size w6 wr)) (fun s8 _ => m - (intOf s8).toNat)
      case atStart => exact ⟨0, by omega, rfl, Below.refl _ _⟩
      case round =>
        obtain ⟨k, hk, rfl, hB⟩ := hrel
        by_cases hkm : k < m
        · have hkI : decide ((k : Int) < (m : Int)) = true := decide_eq_true (by omega)
          have hkJ : (k : Int) < (m : Int) := by omega
          have e0 := (I6.out.keep hB.out).cell hkm
          have e1 := (Q6.out.keep hB.out).cell hkm
          have hee : (cst W H O (tN : Int) (k : Int) != cst W H O (tN : Int) (k : Int)) = false := by simp
          go_wp2
          have k0 := cell_regrown e0
          have k1 := cell_regrown e1
          refine wp_region_quiet_below (by kernel_rfl) (by kernel_rfl) ?_
          repeat (go_big_quiet_step (fail))
          refine wpQuiet_nil ?_
          intro _ hw'
          obtain ⟨⟨dq, osq⟩, hw''⟩ := hw'
          subst hw''
          have hb3 := below_regrown wr dq osq
          have HB3 := Lib.hid (hB.out.trans (hb3.mono hB.out.size))
          clear k0 k1 hb3 e0 e1 hB
          generalize Go.Sort.grow (redrawn wr dq) osq = w7 at *
          go_wp2
          go_roundw
          case rel => exact ⟨k + 1, by omega, by go_num, HB3.out⟩
          case measure => simp [intOf]; omega
        · have hkI : decide ((k : Int) < (m : Int)) = false := decide_eq_false (by omega)
          go_wp2_with fail
          refine (AW.out w6 _ K6.out.below hB.out).mono ?_
          rintro e w7 ⟨rfl, hb⟩
          have HB := Lib.hid hb
          clear hb AW
          go_wp2
          go_ret
          exact Ret.mk rfl HB.out
end Go.Proofs.YtcipedijjemghaaDoor
