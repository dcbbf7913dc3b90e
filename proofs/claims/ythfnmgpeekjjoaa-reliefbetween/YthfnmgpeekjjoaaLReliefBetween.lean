/- The walk of the law ReliefBetween. -/
import Derived.Test.YthfnmgpeekjjoaaLRelStart
namespace Go.Proofs.Ythfnmgpeekjjoaa
open Go.RowKit
set_option linter.unusedVariables false

theorem on_corner {W H x y : Int} (h : On W H x y) : On W H (x / 65536 * 65536) (y / 65536 * 65536) := by
  unfold On at h ⊢
  omega
theorem hAt_corner (p : Nat → Nat) (W x y : Int) : hAt p W (x / 65536 * 65536) (y / 65536 * 65536) = cr p W (x / 65536) (y / 65536) * 65536 := by
  unfold hAt
  have e1 : x / 65536 * 65536 / 65536 = x / 65536 := by omega
  have e2 : y / 65536 * 65536 / 65536 = y / 65536 := by omega
  have e3 : x / 65536 * 65536 % 65536 = 0 := by omega
  have e4 : y / 65536 * 65536 % 65536 = 0 := by omega
  rw [e1, e2, e3, e4, hgt_corner]
theorem hAt_bd {p : Nat → Nat} (hp : ∀ i, p i < 256) (W x y : Int) : cLo p W (x / 65536) (y / 65536) * 65536 ≤ hAt p W x y ∧ hAt p W x y ≤ cHi p W (x / 65536) (y / 65536) * 65536 := by
  obtain ⟨_, _, a1, a2, a3, a4⟩ := lo4_bd (cr_bd hp W (x / 65536) (y / 65536)).1 (cr_bd hp W (x / 65536) (y / 65536)).2 (cr_bd hp W (x / 65536 + 1) (y / 65536)).1 (cr_bd hp W (x / 65536) (y / 65536 + 1)).1 (cr_bd hp W (x / 65536 + 1) (y / 65536 + 1)).1
  obtain ⟨_, _, b1, b2, b3, b4⟩ := hi4_bd (cr_bd hp W (x / 65536) (y / 65536)).1 (cr_bd hp W (x / 65536) (y / 65536)).2 (cr_bd hp W (x / 65536 + 1) (y / 65536)).2 (cr_bd hp W (x / 65536) (y / 65536 + 1)).2 (cr_bd hp W (x / 65536 + 1) (y / 65536 + 1)).2
  unfold hAt cLo cHi
  exact hgt_bd (by omega) (by omega) (by omega) (by omega) a1 b1 a2 b2 a3 b3 a4 b4

set_option maxHeartbeats 1000000 in
theorem walk_ReliefBetween (W H T : Int) (A : Option Addr) (n c : Nat) (p : Nat → Nat) (x y : Int) (w : World) (hb : Bs w A n p) (hp : ∀ i, p i < 256) (hn : n ≤ c) (hc : c ≤ maxLen)
    (wx : (Lit.int .i64 x).wf = true) (wy : (Lit.int .i64 y).wf = true) :
    Calls Try.prog 6 #[.agg #[.int .i64 W, .int .i64 H, .int .i64 T, .slice A n c], .int .i64 x, .int .i64 y] w (Ret (.bool true) w) := by
  have HF := Lib.hid (few_any W H T A n c p _ (hb.alloc (.cells #[.int .i64 W, .int .i64 H, .int .i64 T, .slice A n c] 24)) hn hc)
  have HS := Lib.hid (fun w1 => Start.first (w := w) (w1 := w1) (W := W) (H := H) (T := T) (c := c) hb)
  have hN := (fewN_le n).2
  have hM : fewN n ≤ maxLen := by unfold maxLen; omega
  have HX := Lib.hid (Bx.new w (.int .i64 W) (.int .i64 H) (.int .i64 T) (.slice A n c) 24)
  clear hb wx wy
  generalize fewN n = N at *
  by_cases hv : Val W H T N
  · by_cases ho : On W H x y
    · obtain ⟨i0, i1, j0, j1, u0, u1, v0, v1⟩ := on_cell ho
      obtain ⟨hW1, hW2, hH1, hH2, hT, hT2⟩ := hv.s
      have x0 : 0 ≤ x := ho.1
      have y0 : 0 ≤ y := ho.2.2.1
      have C1 := Lib.hid (fun u hb => height_in W H T x y A N c p u hM hb hp hv ho)
      have C2 := Lib.hid (fun u => refCheck_ok W H T A N c u hM hv)
      have C3 := Lib.hid (fun u => refOn_any W H T x y A N c u hv.s true ⟨fun _ => ho, fun _ => rfl⟩)
      have C4 := Lib.hid (fun u hb => slope_in W H T (x / 65536) (y / 65536) A N c p u hM hb hp hv i0 i1 j0 j1)
      have C5 := Lib.hid (fun u hb => height_in W H T (x / 65536 * 65536) (y / 65536 * 65536) A N c p u hM hb hp hv (on_corner ho))
      have C6 := Lib.hid (fun u hb => refEnds_any W H T (x / 65536) (y / 65536) A N c p u hb hp hv i0 i1 j0 j1)
      have C7 := Lib.hid (fun u hb => refCorner_any W H T (x / 65536) (y / 65536) A N c p u hb hp hv i0 (by omega) j0 (by omega))
      rw [hAt_corner] at C5
      obtain ⟨l0, l1⟩ := cLo_bd hp W (x / 65536) (y / 65536)
      obtain ⟨m0, m1⟩ := cHi_bd hp W (x / 65536) (y / 65536)
      obtain ⟨g0, g1⟩ := cr_bd hp W (x / 65536) (y / 65536)
      obtain ⟨r0, r1⟩ := hAt_bd hp W x y
      have iu : x / 65536 ≤ 64 := by omega
      have ju : y / 65536 ≤ 64 := by omega
      clear hv ho hp u0 u1 v0 v1
      generalize cLo p W (x / 65536) (y / 65536) = lo at *
      generalize cHi p W (x / 65536) (y / 65536) = hi at *
      generalize cr p W (x / 65536) (y / 65536) = ca at *
      generalize hAt p W x y = R at *
      have z1 : (hi - lo == hi - lo) = true := by simp
      have z2 : (ca * 65536 == ca * 65536) = true := by simp
      go_enter Try.func6, Try.ntmps6
      go_wp2_with fail
      refine HF.out.mono ?_
      rintro e w1 ⟨rfl, b1⟩
      have X1 := Lib.hid (HX.out.keep b1)
      have S0 := HS.out _ b1
      clear b1 HX HF HS
      obtain ⟨_, c0, c1, c2, c3, f0, f1, f2, f3, _⟩ := X1.out
      have S1 := Lib.hid S0
      obtain ⟨⟨_, c0, c1, c2, c3, _, _, _, _, _⟩, _⟩ := S0
      go_wp2_with fail
      refine (C1.out _ S1.out.bs).mono ?_
      rintro e w2 ⟨rfl, b2⟩
      have S2 := Lib.hid (S1.out.keep b2)
      clear b2 S1 X1 c0 c1 c2 c3
      obtain ⟨⟨_, c0, c1, c2, c3, _, _, _, _, _⟩, _⟩ := S2.out
      go_wp2_with fail
      refine (C2.out _).mono ?_
      rintro e w3 ⟨rfl, b2⟩
      have S3 := Lib.hid (S2.out.keep b2)
      clear b2 S2 c0 c1 c2 c3
      obtain ⟨⟨_, c0, c1, c2, c3, _, _, _, _, _⟩, _⟩ := S3.out
      go_wp2_with fail
      refine (C3.out _).mono ?_
      rintro e w4 ⟨rfl, b2⟩
      have S4 := Lib.hid (S3.out.keep b2)
      clear b2 S3 c0 c1 c2 c3
      obtain ⟨⟨_, c0, c1, c2, c3, _, _, _, _, _⟩, _⟩ := S4.out
      go_wp2_with fail
      refine (C4.out _ S4.out.bs).mono ?_
      rintro e w5 ⟨rfl, b2⟩
      have S5 := Lib.hid (S4.out.keep b2)
      clear b2 S4 c0 c1 c2 c3
      obtain ⟨⟨_, c0, c1, c2, c3, _, _, _, _, _⟩, _⟩ := S5.out
      go_wp2_with fail
      refine (C5.out _ S5.out.bs).mono ?_
      rintro e w6 ⟨rfl, b2⟩
      have S6 := Lib.hid (S5.out.keep b2)
      clear b2 S5 c0 c1 c2 c3
      obtain ⟨⟨_, c0, c1, c2, c3, _, _, _, _, _⟩, _⟩ := S6.out
      go_wp2_with fail
      refine (C6.out _ S6.out.bs).mono ?_
      rintro e w7 ⟨rfl, b2⟩
      have S7 := Lib.hid (S6.out.keep b2)
      clear b2 S6 c0 c1 c2 c3
      obtain ⟨⟨_, c0, c1, c2, c3, _, _, _, _, _⟩, _⟩ := S7.out
      go_wp2_with fail
      refine (C7.out _ S7.out.bs).mono ?_
      rintro e w8 ⟨rfl, b2⟩
      have S8 := Lib.hid (S7.out.keep b2)
      clear b2 S7 c0 c1 c2 c3
      obtain ⟨⟨_, c0, c1, c2, c3, _, _, _, _, _⟩, _⟩ := S8.out
      go_wp2_with fail
      refine (awake_any _).mono ?_
      rintro e w9 ⟨rfl, b2⟩
      have S9 := Lib.hid (S8.out.keep b2)
      clear b2 S8
      go_wp2
      go_ret
      exact Ret.mk (by simp) S9.out.bx.below
    · have C1 := Lib.hid (fun u => height_out W H T x y A N c u hM hv ho)
      clear hv ho hp
      go_enter Try.func6, Try.ntmps6
      go_wp2_with fail
      refine HF.out.mono ?_
      rintro e w1 ⟨rfl, b1⟩
      have X1 := Lib.hid (HX.out.keep b1)
      have S0 := HS.out _ b1
      clear b1 HX HF HS
      obtain ⟨_, c0, c1, c2, c3, f0, f1, f2, f3, _⟩ := X1.out
      have S1 := Lib.hid S0
      obtain ⟨⟨_, c0, c1, c2, c3, _, _, _, _, _⟩, _⟩ := S0
      go_wp2_with fail
      refine (C1.out _).mono ?_
      rintro e w2 ⟨rfl, b2⟩
      have S2 := Lib.hid (S1.out.keep b2)
      clear b2 S1 X1 c0 c1 c2 c3
      obtain ⟨⟨_, c0, c1, c2, c3, _, _, _, _, _⟩, _⟩ := S2.out
      go_wp2_with fail
      refine (awake_any _).mono ?_
      rintro e w9 ⟨rfl, b2⟩
      have S9 := Lib.hid (S2.out.keep b2)
      clear b2 S2
      go_wp2
      go_ret
      exact Ret.mk (by simp) S9.out.bx.below
  · have C1 := Lib.hid (fun u => height_bad W H T x y A N c u hM hv)
    clear hv hp
    go_enter Try.func6, Try.ntmps6
    go_wp2_with fail
    refine HF.out.mono ?_
    rintro e w1 ⟨rfl, b1⟩
    have X1 := Lib.hid (HX.out.keep b1)
    have S0 := HS.out _ b1
    clear b1 HX HF HS
    obtain ⟨_, c0, c1, c2, c3, f0, f1, f2, f3, _⟩ := X1.out
    have S1 := Lib.hid S0
    obtain ⟨⟨_, c0, c1, c2, c3, _, _, _, _, _⟩, _⟩ := S0
    go_wp2_with fail
    refine (C1.out _).mono ?_
    rintro e w2 ⟨rfl, b2⟩
    have S2 := Lib.hid (S1.out.keep b2)
    clear b2 S1 X1 c0 c1 c2 c3
    obtain ⟨⟨_, c0, c1, c2, c3, _, _, _, _, _⟩, _⟩ := S2.out
    go_wp2_with fail
    refine (awake_any _).mono ?_
    rintro e w9 ⟨rfl, b2⟩
    have S9 := Lib.hid (S2.out.keep b2)
    clear b2 S2
    go_wp2
    go_ret
    exact Ret.mk (by simp) S9.out.bx.below

end Go.Proofs.Ythfnmgpeekjjoaa
