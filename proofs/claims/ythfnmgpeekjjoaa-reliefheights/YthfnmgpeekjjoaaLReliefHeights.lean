/- The walk of the law ReliefHeights. -/
import Derived.Test.YthfnmgpeekjjoaaLRelStart
namespace Go.Proofs.Ythfnmgpeekjjoaa
open Go.RowKit
set_option linter.unusedVariables false

set_option maxHeartbeats 1000000 in
theorem walk_ReliefHeights (W H T : Int) (A : Option Addr) (n c : Nat) (p : Nat → Nat) (x y : Int) (w : World) (hb : Bs w A n p) (hp : ∀ i, p i < 256) (hn : n ≤ c) (hc : c ≤ maxLen)
    (wx : (Lit.int .i64 x).wf = true) (wy : (Lit.int .i64 y).wf = true) :
    Calls Try.prog 4 #[.agg #[.int .i64 W, .int .i64 H, .int .i64 T, .slice A n c], .int .i64 x, .int .i64 y] w (Ret (.bool true) w) := by
  have HF := Lib.hid (few_any W H T A n c p _ (hb.alloc (.cells #[.int .i64 W, .int .i64 H, .int .i64 T, .slice A n c] 24)) hn hc)
  have HS := Lib.hid (fun w1 => Start.first (w := w) (w1 := w1) (W := W) (H := H) (T := T) (c := c) hb)
  have hN := (fewN_le n).2
  have hM : fewN n ≤ maxLen := by unfold maxLen; omega
  have HX := Lib.hid (Bx.new w (.int .i64 W) (.int .i64 H) (.int .i64 T) (.slice A n c) 24)
  clear hb wx wy
  generalize fewN n = N at *
  by_cases hv : Val W H T N
  · by_cases ho : On W H x y
    · have C1 := Lib.hid (fun u hb => height_in W H T x y A N c p u hM hb hp hv ho)
      have C2 := Lib.hid (fun u => refCheck_ok W H T A N c u hM hv)
      have C3 := Lib.hid (fun u => refOn_any W H T x y A N c u hv.s true ⟨fun _ => ho, fun _ => rfl⟩)
      have C4 := Lib.hid (fun u hb => refHeight_any W H T x y A N c p u hb hp hv ho)
      clear hv ho hp
      generalize hAt p W x y = R at *
      have hR : (R == R) = true := by simp
      go_enter Try.func4, Try.ntmps4
      go_wp2_with fail
      refine HF.out.mono ?_
      rintro e w1 ⟨rfl, b1⟩
      have X1 := Lib.hid (HX.out.keep b1)
      have S0 := HS.out _ b1
      clear b1 HX HF HS
      obtain ⟨_, c0, c1, c2, c3, f0, f1, f2, f3, _⟩ := X1.out
      have S1 := Lib.hid S0
      obtain ⟨⟨_, c0, c1, c2, c3, _, _, _, _, _⟩, _⟩ := S0
      go_wp2_with fail
      refine (C1.out _ S1.out.bs).mono ?_
      rintro e w2 ⟨rfl, b2⟩
      have S2 := Lib.hid (S1.out.keep b2)
      clear b2 S1 X1 c0 c1 c2 c3
      obtain ⟨⟨_, c0, c1, c2, c3, _, _, _, _, _⟩, _⟩ := S2.out
      go_wp2_with fail
      refine (C2.out _).mono ?_
      rintro e w3 ⟨rfl, b2⟩
      have S3 := Lib.hid (S2.out.keep b2)
      clear b2 S2 c0 c1 c2 c3
      obtain ⟨⟨_, c0, c1, c2, c3, _, _, _, _, _⟩, _⟩ := S3.out
      go_wp2_with fail
      refine (C3.out _).mono ?_
      rintro e w4 ⟨rfl, b2⟩
      have S4 := Lib.hid (S3.out.keep b2)
      clear b2 S3 c0 c1 c2 c3
      obtain ⟨⟨_, c0, c1, c2, c3, _, _, _, _, _⟩, _⟩ := S4.out
      go_wp2_with fail
      refine (C4.out _ S4.out.bs).mono ?_
      rintro e w5 ⟨rfl, b2⟩
      have S5 := Lib.hid (S4.out.keep b2)
      clear b2 S4 c0 c1 c2 c3 C1 C2 C3 C4
      go_wp2_with fail
      refine (awake_any _).mono ?_
      rintro e w6 ⟨rfl, b2⟩
      have S6 := Lib.hid (S5.out.keep b2)
      clear b2 S5
      go_wp2
      go_ret
      exact Ret.mk rfl S6.out.bx.below
    · have C1 := Lib.hid (fun u => height_out W H T x y A N c u hM hv ho)
      have C2 := Lib.hid (fun u => refCheck_ok W H T A N c u hM hv)
      have C3 := Lib.hid (fun u => refOn_any W H T x y A N c u hv.s false ⟨(fun h => by cases h), fun h => absurd h ho⟩)
      clear hv ho hp
      go_enter Try.func4, Try.ntmps4
      go_wp2_with fail
      refine HF.out.mono ?_
      rintro e w1 ⟨rfl, b1⟩
      have X1 := Lib.hid (HX.out.keep b1)
      have S0 := HS.out _ b1
      clear b1 HX HF HS
      obtain ⟨_, c0, c1, c2, c3, f0, f1, f2, f3, _⟩ := X1.out
      have S1 := Lib.hid S0
      obtain ⟨⟨_, c0, c1, c2, c3, _, _, _, _, _⟩, _⟩ := S0
      go_wp2_with fail
      refine (C1.out _).mono ?_
      rintro e w2 ⟨rfl, b2⟩
      have S2 := Lib.hid (S1.out.keep b2)
      clear b2 S1 X1 c0 c1 c2 c3
      obtain ⟨⟨_, c0, c1, c2, c3, _, _, _, _, _⟩, _⟩ := S2.out
      go_wp2_with fail
      refine (C2.out _).mono ?_
      rintro e w3 ⟨rfl, b2⟩
      have S3 := Lib.hid (S2.out.keep b2)
      clear b2 S2 c0 c1 c2 c3
      obtain ⟨⟨_, c0, c1, c2, c3, _, _, _, _, _⟩, _⟩ := S3.out
      go_wp2_with fail
      refine (C3.out _).mono ?_
      rintro e w4 ⟨rfl, b2⟩
      have S4 := Lib.hid (S3.out.keep b2)
      clear b2 S3 c0 c1 c2 c3 C1 C2 C3
      go_wp2_with fail
      refine (awake_any _).mono ?_
      rintro e w6 ⟨rfl, b2⟩
      have S6 := Lib.hid (S4.out.keep b2)
      clear b2 S4
      go_wp2
      go_ret
      exact Ret.mk rfl S6.out.bx.below
  · have C1 := Lib.hid (fun u => height_bad W H T x y A N c u hM hv)
    obtain ⟨k, ek⟩ : ∃ k, chk W H T N = k := ⟨_, rfl⟩
    have C2 := Lib.hid (fun u => refCheck_any W H T A N c u hM)
    obtain ⟨k1, k2⟩ := chk_bad hv
    rw [ek] at C2 k1 k2
    have hk : (k != 0) = true := by simp; omega
    clear hv hp ek
    go_enter Try.func4, Try.ntmps4
    go_wp2_with fail
    refine HF.out.mono ?_
    rintro e w1 ⟨rfl, b1⟩
    have X1 := Lib.hid (HX.out.keep b1)
    have S0 := HS.out _ b1
    clear b1 HX HF HS
    obtain ⟨_, c0, c1, c2, c3, f0, f1, f2, f3, _⟩ := X1.out
    have S1 := Lib.hid S0
    obtain ⟨⟨_, c0, c1, c2, c3, _, _, _, _, _⟩, _⟩ := S0
    go_wp2_with fail
    refine (C1.out _).mono ?_
    rintro e w2 ⟨rfl, b2⟩
    have S2 := Lib.hid (S1.out.keep b2)
    clear b2 S1 X1 c0 c1 c2 c3
    obtain ⟨⟨_, c0, c1, c2, c3, _, _, _, _, _⟩, _⟩ := S2.out
    go_wp2_with fail
    refine (C2.out _).mono ?_
    rintro e w3 ⟨rfl, b2⟩
    have S3 := Lib.hid (S2.out.keep b2)
    clear b2 S2 c0 c1 c2 c3 C1 C2
    go_wp2_with fail
    refine (awake_any _).mono ?_
    rintro e w6 ⟨rfl, b2⟩
    have S6 := Lib.hid (S3.out.keep b2)
    clear b2 S3
    go_wp2
    go_ret
    exact Ret.mk rfl S6.out.bx.below

end Go.Proofs.Ythfnmgpeekjjoaa
