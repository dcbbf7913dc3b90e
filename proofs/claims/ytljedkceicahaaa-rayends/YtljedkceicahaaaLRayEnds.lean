/- The walk of the law RayEnds. -/
import Derived.Test.YtljedkceicahaaaLRyStart
namespace Go.Proofs.Ytljedkceicahaaa
open Go.RowKit
set_option linter.unusedVariables false

set_option maxRecDepth 100000 in
set_option maxHeartbeats 1000000 in
theorem walk_RayEnds (W H T : Int) (A : Option Addr) (n c : Nat) (p : Nat → Nat) (i j : Int) (w : World) (hb : Bs w A n p) (hp : ∀ i, p i < 256) (hn : n ≤ c) (hc : c ≤ maxLen)
    (wi : (Lit.int .i64 i).wf = true) (wj : (Lit.int .i64 j).wf = true) :
    Calls Try.prog 5 #[.agg #[.int .i64 W, .int .i64 H, .int .i64 T, .slice A n c], .int .i64 i, .int .i64 j] w (Ret (.bool true) w) := by
  have HF := Lib.hid (few8_any W H T A n c p _ (hb.alloc (.cells #[.int .i64 W, .int .i64 H, .int .i64 T, .slice A n c] 24)) hn hc)
  have HS := Lib.hid (fun w1 => Start.first (w := w) (w1 := w1) (W := W) (H := H) (T := T) (c := c) hb)
  have hN := (fewN_le n).2
  have hM : fewN n ≤ maxLen := by unfold maxLen; omega
  have HX := Lib.hid (Bx.new w (.int .i64 W) (.int .i64 H) (.int .i64 T) (.slice A n c) 24)
  clear hb wi wj
  generalize fewN n = N at *
  have RC := Lib.hid (fun u => refCheck_any W H T A N c u hM)
  by_cases hv : Val W H T N
  · have hck : chk W H T N = 0 := chk_ok hv
    rw [hck] at RC
    have IC := Lib.hid (fun u => isCell_any W H T i j A N c u)
    by_cases hi : InC W H i j
    · have hd : decide (0 ≤ i ∧ i < W ∧ 0 ≤ j ∧ j < H) = true := decide_eq_true hi
      rw [hd] at IC
      have T8 := Lib.hid (fun u hb => (ends_in W H T i j A N c p u hM hb hp hv hi).1)
      have F8 := Lib.hid (fun u hb => (ends_in W H T i j A N c p u hM hb hp hv hi).2)
      have E8 := Lib.hid (fun u hb => refEnds_any W H T i j A N c p u hb hp hv hi.1 hi.2.1 hi.2.2.1 hi.2.2.2)
      clear hv hp hi hd hck
      generalize cHi p W i j = vh at *
      generalize cLo p W i j = vl at *
      go_enter Try.func5, Try.ntmps5
      go_wp2_with fail
      refine HF.out.mono ?_
      rintro e w1 ⟨rfl, b1⟩
      have X1 := Lib.hid (HX.out.keep b1)
      have S0 := HS.out _ b1
      clear b1 HX HF HS
      obtain ⟨-, c0, c1, c2, c3, f0, f1, f2, f3, -⟩ := X1.out
      have S1 := Lib.hid S0
      obtain ⟨⟨-, c0, c1, c2, c3, -, -, -, -, -⟩, -⟩ := S0
      go_wp2_with fail
      refine (T8.out _ S1.out.bs).mono ?_
      rintro e w2 ⟨rfl, b2⟩
      have S2 := Lib.hid (S1.out.keep b2)
      clear b2 S1 X1 c0 c1 c2 c3 f0 f1 f2 f3
      obtain ⟨⟨-, c0, c1, c2, c3, -, -, -, -, -⟩, -⟩ := S2.out
      go_wp2_with fail
      refine (F8.out _ S2.out.bs).mono ?_
      rintro e w3 ⟨rfl, b2⟩
      have S3 := Lib.hid (S2.out.keep b2)
      clear b2 S2 c0 c1 c2 c3
      obtain ⟨⟨-, c0, c1, c2, c3, -, -, -, -, -⟩, -⟩ := S3.out
      go_wp2_with fail
      refine (RC.out _).mono ?_
      rintro e w4 ⟨rfl, b2⟩
      have S4 := Lib.hid (S3.out.keep b2)
      clear b2 S3 c0 c1 c2 c3
      obtain ⟨⟨-, c0, c1, c2, c3, -, -, -, -, -⟩, -⟩ := S4.out
      go_wp2_with fail
      refine (IC.out _).mono ?_
      rintro e w5 ⟨rfl, b2⟩
      have S5 := Lib.hid (S4.out.keep b2)
      clear b2 S4 c0 c1 c2 c3
      obtain ⟨⟨-, c0, c1, c2, c3, -, -, -, -, -⟩, -⟩ := S5.out
      go_wp2_with fail
      refine (E8.out _ S5.out.bs).mono ?_
      rintro e w6 ⟨rfl, b2⟩
      have S6 := Lib.hid (S5.out.keep b2)
      clear b2 S5 c0 c1 c2 c3
      go_wp2_with fail
      refine (awake_any _).mono ?_
      rintro e w9 ⟨rfl, b2⟩
      have S9 := Lib.hid (S6.out.keep b2)
      clear b2 S6
      go_wp2
      go_ret
      exact Ret.mk (by simp) S9.out.bx.below
    · have hd : decide (0 ≤ i ∧ i < W ∧ 0 ≤ j ∧ j < H) = false := decide_eq_false hi
      rw [hd] at IC
      have CE : Hid (∀ (g : Nat) (u : World), u.cell? ⟨g, 0, none⟩ = some (.int .i64 i) → u.cell? ⟨g, 1, none⟩ = some (.int .i64 j) → Calls Try.prog 29 #[.agg #[.int .i64 W, .int .i64 H, .int .i64 T, .slice A N c], .slice (some ⟨g, 0, none⟩) 1 1] u (Ret (.int .i64 4) u)) :=
        fun g u h0 h1 => check_one W H T i j A N c g u hM hv 4 ⟨fun h => absurd h hi, fun _ => rfl⟩ h0 h1
      have T8 := Lib.hid (fun u => (ends_err W H T i j 4 A N c u rfl (Lib.hid (CE.out (u.heap.size + 1)))).1)
      have F8 := Lib.hid (fun u => (ends_err W H T i j 4 A N c u rfl (Lib.hid (CE.out (u.heap.size + 1)))).2)
      clear hv hp hi hd hck CE
      go_enter Try.func5, Try.ntmps5
      go_wp2_with fail
      refine HF.out.mono ?_
      rintro e w1 ⟨rfl, b1⟩
      have X1 := Lib.hid (HX.out.keep b1)
      have S0 := HS.out _ b1
      clear b1 HX HF HS
      obtain ⟨-, c0, c1, c2, c3, f0, f1, f2, f3, -⟩ := X1.out
      have S1 := Lib.hid S0
      obtain ⟨⟨-, c0, c1, c2, c3, -, -, -, -, -⟩, -⟩ := S0
      go_wp2_with fail
      refine (T8.out _).mono ?_
      rintro e w2 ⟨rfl, b2⟩
      have S2 := Lib.hid (S1.out.keep b2)
      clear b2 S1 X1 c0 c1 c2 c3 f0 f1 f2 f3
      obtain ⟨⟨-, c0, c1, c2, c3, -, -, -, -, -⟩, -⟩ := S2.out
      go_wp2_with fail
      refine (F8.out _).mono ?_
      rintro e w3 ⟨rfl, b2⟩
      have S3 := Lib.hid (S2.out.keep b2)
      clear b2 S2 c0 c1 c2 c3
      obtain ⟨⟨-, c0, c1, c2, c3, -, -, -, -, -⟩, -⟩ := S3.out
      go_wp2_with fail
      refine (RC.out _).mono ?_
      rintro e w4 ⟨rfl, b2⟩
      have S4 := Lib.hid (S3.out.keep b2)
      clear b2 S3 c0 c1 c2 c3
      obtain ⟨⟨-, c0, c1, c2, c3, -, -, -, -, -⟩, -⟩ := S4.out
      go_wp2_with fail
      refine (IC.out _).mono ?_
      rintro e w5 ⟨rfl, b2⟩
      have S5 := Lib.hid (S4.out.keep b2)
      clear b2 S4 c0 c1 c2 c3
      go_wp2_with fail
      refine (awake_any _).mono ?_
      rintro e w9 ⟨rfl, b2⟩
      have S9 := Lib.hid (S5.out.keep b2)
      clear b2 S5
      go_wp2
      go_ret
      exact Ret.mk (by simp) S9.out.bx.below
  · obtain ⟨x, ex⟩ : ∃ x, chk W H T N = x := ⟨_, rfl⟩
    obtain ⟨k1, k2⟩ := chk_bad hv
    rw [ex] at RC k1 k2
    have hx : (x != 0) = true := by simp; omega
    have CE : Hid (∀ (g : Nat) (u : World), Calls Try.prog 29 #[.agg #[.int .i64 W, .int .i64 H, .int .i64 T, .slice A N c], .slice (some ⟨g, 0, none⟩) 1 1] u (Ret (.int .i64 1) u)) :=
      fun g u => rcheck_bad W H T A (some ⟨g, 0, none⟩) N c 1 1 u hM hv
    have T8 := Lib.hid (fun u => (ends_err W H T i j 1 A N c u rfl (Lib.hid (fun v _ _ => CE.out (u.heap.size + 1) v))).1)
    have F8 := Lib.hid (fun u => (ends_err W H T i j 1 A N c u rfl (Lib.hid (fun v _ _ => CE.out (u.heap.size + 1) v))).2)
    clear hv hp ex CE
    go_enter Try.func5, Try.ntmps5
    go_wp2_with fail
    refine HF.out.mono ?_
    rintro e w1 ⟨rfl, b1⟩
    have X1 := Lib.hid (HX.out.keep b1)
    have S0 := HS.out _ b1
    clear b1 HX HF HS
    obtain ⟨-, c0, c1, c2, c3, f0, f1, f2, f3, -⟩ := X1.out
    have S1 := Lib.hid S0
    obtain ⟨⟨-, c0, c1, c2, c3, -, -, -, -, -⟩, -⟩ := S0
    go_wp2_with fail
    refine (T8.out _).mono ?_
    rintro e w2 ⟨rfl, b2⟩
    have S2 := Lib.hid (S1.out.keep b2)
    clear b2 S1 X1 c0 c1 c2 c3 f0 f1 f2 f3
    obtain ⟨⟨-, c0, c1, c2, c3, -, -, -, -, -⟩, -⟩ := S2.out
    go_wp2_with fail
    refine (F8.out _).mono ?_
    rintro e w3 ⟨rfl, b2⟩
    have S3 := Lib.hid (S2.out.keep b2)
    clear b2 S2 c0 c1 c2 c3
    obtain ⟨⟨-, c0, c1, c2, c3, -, -, -, -, -⟩, -⟩ := S3.out
    go_wp2_with fail
    refine (RC.out _).mono ?_
    rintro e w4 ⟨rfl, b2⟩
    have S4 := Lib.hid (S3.out.keep b2)
    clear b2 S3 c0 c1 c2 c3
    go_wp2_with fail
    refine (awake_any _).mono ?_
    rintro e w9 ⟨rfl, b2⟩
    have S9 := Lib.hid (S4.out.keep b2)
    clear b2 S4
    go_wp2
    go_ret
    exact Ret.mk (by simp) S9.out.bx.below

end Go.Proofs.Ytljedkceicahaaa
