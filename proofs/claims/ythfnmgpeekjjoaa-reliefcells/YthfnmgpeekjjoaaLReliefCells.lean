/- The walk of the law ReliefCells. -/
import Derived.Test.YthfnmgpeekjjoaaLRelStart
namespace Go.Proofs.Ythfnmgpeekjjoaa
open Go.RowKit
set_option linter.unusedVariables false

set_option maxHeartbeats 1000000 in
theorem walk_ReliefCells (W H T : Int) (A : Option Addr) (n c : Nat) (p : Nat → Nat) (i j : Int) (w : World) (hb : Bs w A n p) (hp : ∀ i, p i < 256) (hn : n ≤ c) (hc : c ≤ maxLen)
    (wx : (Lit.int .i64 i).wf = true) (wy : (Lit.int .i64 j).wf = true) :
    Calls Try.prog 5 #[.agg #[.int .i64 W, .int .i64 H, .int .i64 T, .slice A n c], .int .i64 i, .int .i64 j] w (Ret (.bool true) w) := by
  have HF := Lib.hid (few_any W H T A n c p _ (hb.alloc (.cells #[.int .i64 W, .int .i64 H, .int .i64 T, .slice A n c] 24)) hn hc)
  have HS := Lib.hid (fun w1 => Start.first (w := w) (w1 := w1) (W := W) (H := H) (T := T) (c := c) hb)
  have hN := (fewN_le n).2
  have hM : fewN n ≤ maxLen := by unfold maxLen; omega
  have HX := Lib.hid (Bx.new w (.int .i64 W) (.int .i64 H) (.int .i64 T) (.slice A n c) 24)
  clear hb wx wy
  generalize fewN n = N at *
  by_cases hv : Val W H T N
  · obtain ⟨hW1, hW2, hH1, hH2, hT, hT2⟩ := hv.s
    by_cases ho : i < 0 ∨ W ≤ i ∨ j < 0 ∨ H ≤ j
    · have C1 := Lib.hid (fun u => slope_err W H T i j 4 A N c u (by decide) (fun u => cell_out W H T i j A N c u hM hv ho))
      have C2 := Lib.hid (fun u => depth_err W H T i j 4 A N c u (by decide) (fun u => cell_out W H T i j A N c u hM hv ho))
      have C3 := Lib.hid (fun u => refCheck_ok W H T A N c u hM hv)
      have ho' : i < 0 ∨ (¬ i < 0 ∧ decide (W ≤ i) = true) ∨ (¬ i < 0 ∧ decide (W ≤ i) = false ∧ j < 0) ∨ (¬ i < 0 ∧ decide (W ≤ i) = false ∧ ¬ j < 0 ∧ decide (H ≤ j) = true) := by
        simp; omega
      clear hv ho hp
      rcases ho' with h1 | ⟨h1, h2⟩ | ⟨h1, h2, h3⟩ | ⟨h1, h2, h3, h4⟩
      all_goals
        go_enter Try.func5, Try.ntmps5
        go_wp2_with fail
        refine HF.out.mono ?_
        rintro e w1 ⟨rfl, b1⟩
        have X1 := Lib.hid (HX.out.keep b1)
        have S0 := HS.out _ b1
        clear b1 HX HF HS
        obtain ⟨_, c0, c1, c2, c3, f0, f1, f2, f3, _⟩ := X1.out
        have S1 := Lib.hid S0
        obtain ⟨⟨_, c0, c1, c2, c3, _, _, _, _, _⟩, _⟩ := S0
        go_wp2_with fail
        refine (C1.out _).mono ?_
        rintro e w2 ⟨rfl, b2⟩
        have S2 := Lib.hid (S1.out.keep b2)
        clear b2 S1 X1 c0 c1 c2 c3
        obtain ⟨⟨_, c0, c1, c2, c3, _, _, _, _, _⟩, _⟩ := S2.out
        go_wp2_with fail
        refine (C2.out _).mono ?_
        rintro e w3 ⟨rfl, b2⟩
        have S3 := Lib.hid (S2.out.keep b2)
        clear b2 S2 c0 c1 c2 c3
        obtain ⟨⟨_, c0, c1, c2, c3, _, _, _, _, _⟩, _⟩ := S3.out
        go_wp2_with fail
        refine (C3.out _).mono ?_
        rintro e w4 ⟨rfl, b2⟩
        have S4 := Lib.hid (S3.out.keep b2)
        clear b2 S3 c0 c1 c2 c3
        obtain ⟨⟨_, c0, c1, c2, c3, _, _, _, _, _⟩, _⟩ := S4.out
        go_wp2_with fail
        refine (awake_any _).mono ?_
        rintro e w9 ⟨rfl, b2⟩
        have S9 := Lib.hid (S4.out.keep b2)
        clear b2 S4
        go_wp2
        go_ret
        exact Ret.mk (by simp) S9.out.bx.below
    · have i0 : 0 ≤ i := by omega
      have i1 : i < W := by omega
      have j0 : 0 ≤ j := by omega
      have j1 : j < H := by omega
      have C1 := Lib.hid (fun u hb => slope_in W H T i j A N c p u hM hb hp hv i0 i1 j0 j1)
      have C2 := Lib.hid (fun u hb => depth_in W H T i j A N c p u hM hb hp hv i0 i1 j0 j1)
      have C3 := Lib.hid (fun u => refCheck_ok W H T A N c u hM hv)
      have C4 := Lib.hid (fun u hb => refEnds_any W H T i j A N c p u hb hp hv i0 i1 j0 j1)
      have C5 := Lib.hid (fun u hb => refDepth_any W H T i j A N c p u hb hp hv i0 i1 j0 j1)
      obtain ⟨l0, l1⟩ := cLo_bd hp W i j
      obtain ⟨m0, m1⟩ := cHi_bd hp W i j
      clear hv ho hp
      obtain ⟨D, eD⟩ : ∃ D, (if T ≤ cLo p W i j then 0 else T - cLo p W i j) = D := ⟨_, rfl⟩
      rw [eD] at C2 C5
      clear eD
      generalize cLo p W i j = lo at *
      generalize cHi p W i j = hi at *
      have z1 : (hi - lo == hi - lo) = true := by simp
      have z2 : (D == D) = true := by simp
      have y1 : ¬ i < 0 := by omega
      have y2 : decide (W ≤ i) = false := by simp; omega
      have y3 : ¬ j < 0 := by omega
      have y4 : decide (H ≤ j) = false := by simp; omega
      go_enter Try.func5, Try.ntmps5
      go_wp2_with fail
      refine HF.out.mono ?_
      rintro e w1 ⟨rfl, b1⟩
      have X1 := Lib.hid (HX.out.keep b1)
      have S0 := HS.out _ b1
      clear b1 HX HF HS
      obtain ⟨_, c0, c1, c2, c3, f0, f1, f2, f3, _⟩ := X1.out
      have S1 := Lib.hid S0
      obtain ⟨⟨_, c0, c1, c2, c3, _, _, _, _, _⟩, _⟩ := S0
      go_wp2_with fail
      refine (C1.out _ S1.out.bs).mono ?_
      rintro e w2 ⟨rfl, b2⟩
      have S2 := Lib.hid (S1.out.keep b2)
      clear b2 S1 X1 c0 c1 c2 c3
      obtain ⟨⟨_, c0, c1, c2, c3, _, _, _, _, _⟩, _⟩ := S2.out
      go_wp2_with fail
      refine (C2.out _ S2.out.bs).mono ?_
      rintro e w3 ⟨rfl, b2⟩
      have S3 := Lib.hid (S2.out.keep b2)
      clear b2 S2 c0 c1 c2 c3
      obtain ⟨⟨_, c0, c1, c2, c3, _, _, _, _, _⟩, _⟩ := S3.out
      go_wp2_with fail
      refine (C3.out _).mono ?_
      rintro e w4 ⟨rfl, b2⟩
      have S4 := Lib.hid (S3.out.keep b2)
      clear b2 S3 c0 c1 c2 c3
      obtain ⟨⟨_, c0, c1, c2, c3, _, _, _, _, _⟩, _⟩ := S4.out
      go_wp2_with fail
      refine (C4.out _ S4.out.bs).mono ?_
      rintro e w5 ⟨rfl, b2⟩
      have S5 := Lib.hid (S4.out.keep b2)
      clear b2 S4 c0 c1 c2 c3
      obtain ⟨⟨_, c0, c1, c2, c3, _, _, _, _, _⟩, _⟩ := S5.out
      go_wp2_with fail
      refine (C5.out _ S5.out.bs).mono ?_
      rintro e w6 ⟨rfl, b2⟩
      have S6 := Lib.hid (S5.out.keep b2)
      clear b2 S5 c0 c1 c2 c3
      obtain ⟨⟨_, c0, c1, c2, c3, _, _, _, _, _⟩, _⟩ := S6.out
      go_wp2_with fail
      refine (awake_any _).mono ?_
      rintro e w9 ⟨rfl, b2⟩
      have S9 := Lib.hid (S6.out.keep b2)
      clear b2 S6
      go_wp2
      go_ret
      exact Ret.mk (by simp) S9.out.bx.below
  · have C1 := Lib.hid (fun u => slope_err W H T i j 1 A N c u (by decide) (fun u => cell_bad W H T i j A N c u hM hv))
    have C2 := Lib.hid (fun u => depth_err W H T i j 1 A N c u (by decide) (fun u => cell_bad W H T i j A N c u hM hv))
    obtain ⟨k, ek⟩ : ∃ k, chk W H T N = k := ⟨_, rfl⟩
    have C3 := Lib.hid (fun u => refCheck_any W H T A N c u hM)
    obtain ⟨k1, k2⟩ := chk_bad hv
    rw [ek] at C3 k1 k2
    have hk : (k != 0) = true := by simp; omega
    clear hv hp ek
    go_enter Try.func5, Try.ntmps5
    go_wp2_with fail
    refine HF.out.mono ?_
    rintro e w1 ⟨rfl, b1⟩
    have X1 := Lib.hid (HX.out.keep b1)
    have S0 := HS.out _ b1
    clear b1 HX HF HS
    obtain ⟨_, c0, c1, c2, c3, f0, f1, f2, f3, _⟩ := X1.out
    have S1 := Lib.hid S0
    obtain ⟨⟨_, c0, c1, c2, c3, _, _, _, _, _⟩, _⟩ := S0
    go_wp2_with fail
    refine (C1.out _).mono ?_
    rintro e w2 ⟨rfl, b2⟩
    have S2 := Lib.hid (S1.out.keep b2)
    clear b2 S1 X1 c0 c1 c2 c3
    obtain ⟨⟨_, c0, c1, c2, c3, _, _, _, _, _⟩, _⟩ := S2.out
    go_wp2_with fail
    refine (C2.out _).mono ?_
    rintro e w3 ⟨rfl, b2⟩
    have S3 := Lib.hid (S2.out.keep b2)
    clear b2 S2 c0 c1 c2 c3
    obtain ⟨⟨_, c0, c1, c2, c3, _, _, _, _, _⟩, _⟩ := S3.out
    go_wp2_with fail
    refine (C3.out _).mono ?_
    rintro e w4 ⟨rfl, b2⟩
    have S4 := Lib.hid (S3.out.keep b2)
    clear b2 S3 c0 c1 c2 c3
    obtain ⟨⟨_, c0, c1, c2, c3, _, _, _, _, _⟩, _⟩ := S4.out
    go_wp2_with fail
    refine (awake_any _).mono ?_
    rintro e w9 ⟨rfl, b2⟩
    have S9 := Lib.hid (S4.out.keep b2)
    clear b2 S4
    go_wp2
    go_ret
    exact Ret.mk (by simp) S9.out.bx.below

end Go.Proofs.Ythfnmgpeekjjoaa
