/- The walk of the law GroundGrids. -/
import Derived.Test.YtoikahdffpadoaaLGrStart
namespace Go.Proofs.Ytoikahdffpadoaa
open Go.RowKit
set_option linter.unusedVariables false

set_option maxRecDepth 100000 in
set_option maxHeartbeats 1000000 in
theorem walk_GroundGrids (W H T : Int) (A : Option Addr) (n c : Nat) (p : Nat → Nat) (cl : Int) (w : World) (hb : Bs w A n p) (hp : ∀ i, p i < 256) (hn : n ≤ c) (hc : c ≤ maxLen)
    (wx : (Lit.int .i64 cl).wf = true) :
    Calls Try.prog 5 #[.agg #[.int .i64 W, .int .i64 H, .int .i64 T, .slice A n c], .int .i64 cl] w (Ret (.bool true) w) := by
  have HF := Lib.hid (few7_any W H T A n c p _ (hb.alloc (.cells #[.int .i64 W, .int .i64 H, .int .i64 T, .slice A n c] 25)) hn hc)
  have HS := Lib.hid (fun w1 => Start.first (w := w) (w1 := w1) (W := W) (H := H) (T := T) (c := c) hb)
  have hN := (fewN_le n).2
  have hM : fewN n ≤ maxLen := by unfold maxLen; omega
  have HX := Lib.hid (Bx.new w (.int .i64 W) (.int .i64 H) (.int .i64 T) (.slice A n c) 25)
  clear hb wx
  generalize fewN n = N at *
  by_cases hv : Val W H T N ∧ Cls cl
  · obtain ⟨hv, hk⟩ := hv
    obtain ⟨wd, ht, rfl, rfl⟩ := hv.nat
    obtain ⟨hW1, hW2, hH1, hH2, hT, hT2⟩ := hv.s
    have hA : wd * ht ≤ 4096 := land_bd (by omega) (by omega)
    have C1 := Lib.hid (fun u hb => grid_in wd ht T cl A N c p u hM hb hp hv hk)
    have C2 := Lib.hid (fun u => right_yes wd ht T cl A N c u hM hv hk)
    have C3 := Lib.hid (fun u hb => refGrid_any wd ht T cl A N c p u hb hp hv hk)
    obtain ⟨M, eM⟩ : ∃ M, wd * ht = M := ⟨_, rfl⟩
    rw [eM] at C1 C3 hA
    clear hv hk hp eM
    generalize gr p wd T cl = g at *
    go_enter Try.func5, Try.ntmps5
    go_wp2_with fail
    refine HF.out.mono ?_
    rintro e w1 ⟨rfl, b1⟩
    have X1 := Lib.hid (HX.out.keep b1)
    have S0 := HS.out _ b1
    clear b1 HX HF HS
    obtain ⟨-, c0, c1, c2, c3, f0, f1, f2, f3, -⟩ := X1.out
    have S1 := Lib.hid S0
    obtain ⟨⟨-, c0, c1, c2, c3, -, -, -, -, -⟩, -⟩ := S0
    go_wp2_with fail
    refine (C1.out _ S1.out.bs).mono ?_
    rintro e w2 ⟨A1, K1, rfl, k1, k2, hV1, b2⟩
    have S2 := Lib.hid (S1.out.keep b2)
    have V1 := Lib.hid hV1
    clear b2 S1 X1 c0 c1 c2 c3 hV1
    obtain ⟨⟨-, c0, c1, c2, c3, -, -, -, -, -⟩, -⟩ := S2.out
    go_wp2_with fail
    refine (C2.out _).mono ?_
    rintro e w3 ⟨rfl, b2⟩
    have S3 := Lib.hid (S2.out.keep b2)
    have V2 := Lib.hid (V1.out.keep b2)
    clear b2 S2 V1 c0 c1 c2 c3
    obtain ⟨⟨-, c0, c1, c2, c3, -, -, -, -, -⟩, -⟩ := S3.out
    go_wp2_with fail
    refine (C3.out _ S3.out.bs).mono ?_
    rintro e w4 ⟨A2, K2, rfl, k3, k4, hV2, b2⟩
    have S4 := Lib.hid (S3.out.keep b2)
    have V3 := Lib.hid (V2.out.keep b2)
    have V4 := Lib.hid hV2
    clear b2 S3 V2 hV2 c0 c1 c2 c3 C1 C2 C3
    obtain ⟨b1, rfl, l1, g1⟩ := V3.out
    obtain ⟨b2, rfl, l2, g2⟩ := V4.out
    have G1 := Lib.hid g1
    have G2 := Lib.hid g2
    clear g1 g2 V3 V4
    go_wp2
    go_loopw [8] (fun t wr => ∃ k : Nat, k ≤ M ∧ t = .int .i64 (k : Int) ∧ Below w4.heap.size w4 wr) (fun t _ => M - (intOf t).toNat)
    case atStart => exact ⟨0, by omega, rfl, Below.refl _ _⟩
    case round =>
      obtain ⟨k, hk, rfl, hB⟩ := hrel
      have HB := Lib.hid hB
      by_cases hlt : k < M
      · have e1 := (hB.cell (p := ⟨b1, k, none⟩) l1).trans (G1.out k hlt)
        have e2 := (hB.cell (p := ⟨b2, k, none⟩) l2).trans (G2.out k hlt)
        have hkI : (k : Int) < (M : Int) := by omega
        clear hB
        generalize g k = v at *
        have hvv : (v != v) = false := by simp
        go_wp2
        go_quiet (fail)
        go_wp2
        go_roundw
        case rel => exact ⟨k + 1, by omega, by go_num, bdrewN HB.out _⟩
        case measure => simp [intOf]; omega
      · have e : M = k := by omega
        subst e
        clear hlt hk hB
        go_wp2_with fail
        refine (awake_any _).mono ?_
        rintro e w9 ⟨rfl, b9⟩
        have B9 := Lib.hid ((S4.out.keep HB.out).keep b9).bx.below
        clear b9
        go_wp2
        go_ret
        exact Ret.mk rfl B9.out
  · have C1 := Lib.hid (fun u => grid_bad W H T cl A N c u hM hv)
    have C2 := Lib.hid (fun u => right_no W H T cl A N c u hM hv)
    clear hv hp
    go_enter Try.func5, Try.ntmps5
    go_wp2_with fail
    refine HF.out.mono ?_
    rintro e w1 ⟨rfl, b1⟩
    have X1 := Lib.hid (HX.out.keep b1)
    have S0 := HS.out _ b1
    clear b1 HX HF HS
    obtain ⟨-, c0, c1, c2, c3, f0, f1, f2, f3, -⟩ := X1.out
    have S1 := Lib.hid S0
    obtain ⟨⟨-, c0, c1, c2, c3, -, -, -, -, -⟩, -⟩ := S0
    go_wp2_with fail
    refine (C1.out _).mono ?_
    rintro e w2 ⟨rfl, b2⟩
    have S2 := Lib.hid (S1.out.keep b2)
    clear b2 S1 X1 c0 c1 c2 c3
    obtain ⟨⟨-, c0, c1, c2, c3, -, -, -, -, -⟩, -⟩ := S2.out
    go_wp2_with fail
    refine (C2.out _).mono ?_
    rintro e w3 ⟨rfl, b2⟩
    have S3 := Lib.hid (S2.out.keep b2)
    clear b2 S2 c0 c1 c2 c3
    go_wp2_with fail
    refine (awake_any _).mono ?_
    rintro e w9 ⟨rfl, b2⟩
    have S9 := Lib.hid (S3.out.keep b2)
    clear b2 S3
    go_wp2
    go_ret
    exact Ret.mk rfl S9.out.bx.below

end Go.Proofs.Ytoikahdffpadoaa
