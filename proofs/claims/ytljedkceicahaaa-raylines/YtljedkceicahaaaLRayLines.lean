/- The walk of the law RayLines. -/
import Derived.Test.YtljedkceicahaaaLRyStart
namespace Go.Proofs.Ytljedkceicahaaa
open Go.RowKit Go.Shelf
set_option linter.unusedVariables false
attribute [local go_sem] Oper.semAt_some eq_two

set_option maxRecDepth 100000 in
set_option maxHeartbeats 2000000 in
theorem walk_RayLines (W H T : Int) (A : Option Addr) (n c : Nat) (p : Nat → Nat) (i j k l g o : Int) (w : World) (hb : Bs w A n p) (hp : ∀ i, p i < 256) (hn : n ≤ c) (hc : c ≤ maxLen)
    (wi : (Lit.int .i64 i).wf = true) (wj : (Lit.int .i64 j).wf = true) (wk : (Lit.int .i64 k).wf = true) (wl : (Lit.int .i64 l).wf = true) (wg : (Lit.int .i64 g).wf = true) (wo : (Lit.int .i64 o).wf = true) :
    Calls Try.prog 3 #[.agg #[.int .i64 W, .int .i64 H, .int .i64 T, .slice A n c, .int .i64 i, .int .i64 j, .int .i64 k, .int .i64 l, .int .i64 g, .int .i64 o]] w (Ret (.bool true) w) := by
  have Y0 := Lib.hid (B10.new w (.int .i64 W) (.int .i64 H) (.int .i64 T) (.slice A n c) (.int .i64 i) (.int .i64 j) (.int .i64 k) (.int .i64 l) (.int .i64 g) (.int .i64 o) 26)
  have I1 := Lib.hid (fun u => in8_any i u)
  have I2 := Lib.hid (fun u => in8_any j u)
  have I3 := Lib.hid (fun u => in8_any k u)
  have I4 := Lib.hid (fun u => in8_any l u)
  clear hb hp hn hc wi wj wk wl wg wo
  by_cases h4 : In4 i j k l
  · obtain ⟨a0, a1, b0, b1, c0', c1', d0, d1⟩ := id h4
    rw [decide_eq_true (show In1 i from ⟨a0, a1⟩)] at I1
    rw [decide_eq_true (show In1 j from ⟨b0, b1⟩)] at I2
    rw [decide_eq_true (show In1 k from ⟨c0', c1'⟩)] at I3
    rw [decide_eq_true (show In1 l from ⟨d0, d1⟩)] at I4
    have CL := Lib.hid (fun u => long_any i j k l u a0 a1 b0 b1 c0' c1' d0 d1)
    have CC := Lib.hid (fun q u hq => rcell_any i j k l q u a0 a1 b0 b1 c0' c1' d0 d1 hq)
    have LN := Lib.hid (fun u => Line_in i j k l u h4)
    have hL := lng_bd a0 a1 b0 b1 c0' c1' d0 d1
    clear h4
    go_enter Try.func3, Try.ntmps3
    go_wp2_with fail
    refine (LN.out _).mono ?_
    rintro e w1 ⟨gl, K, rfl, k1, k2, hcs, b1'⟩
    have Y1 := Lib.hid (Y0.out.keep b1')
    have HC := Lib.hid hcs
    clear b1' Y0 hcs LN
    generalize lng i j k l = N at *
    obtain ⟨m0, m1, m2, m3, m4, m5, m6, m7, m8, m9, -⟩ := Y1.out
    go_wp2_with fail
    refine (I1.out _).mono ?_
    rintro e w' ⟨rfl, rfl⟩
    go_wp2_with fail
    refine (I2.out _).mono ?_
    rintro e w' ⟨rfl, rfl⟩
    go_wp2_with fail
    refine (I3.out _).mono ?_
    rintro e w' ⟨rfl, rfl⟩
    go_wp2_with fail
    refine (I4.out _).mono ?_
    rintro e w' ⟨rfl, rfl⟩
    go_wp2_with fail
    refine (CL.out _).mono ?_
    rintro e w' ⟨rfl, rfl⟩
    have hne : ((N : Int) + 1 != (N : Int) + 1) = false := by simp
    clear I1 I2 I3 I4 CL m0 m1 m2 m3 m4 m5 m6 m7 m8 m9
    go_wp2_with fail
    go_loopw [6] (fun t wr => ∃ q : Nat, q ≤ N + 1 ∧ t = .int .i64 (q : Int) ∧ wr = w1) (fun t _ => N + 1 - (intOf t).toNat)
    case atStart => exact ⟨0, by omega, rfl, rfl⟩
    case round =>
      obtain ⟨q, hq, rfl, rfl⟩ := hrel
      by_cases hlt : q ≤ N
      · have hlt' : (q : Int) ≤ (N : Int) := by omega
        have hq0 : (0 : Int) ≤ (q : Int) := by omega
        have hq1 : (q : Int) < ((N + 1 : Nat) : Int) := by omega
        obtain ⟨m0, m1, m2, m3, m4, m5, m6, m7, m8, m9, -⟩ := Y1.out
        obtain ⟨x0, x1⟩ := HC.out q hlt
        go_wp2_with fail
        refine (CC.out q _ hlt).mono ?_
        rintro e w' ⟨rfl, rfl⟩
        clear m0 m1 m2 m3 m4 m5 m6 m7 m8 m9
        generalize cq i k N q = x at *
        generalize cq j l N q = y at *
        go_wp2
        go_roundw
        case rel => exact ⟨q + 1, by omega, by go_num, trivial⟩
        case measure => simp [intOf]; omega
      · have hge : ¬ (q : Int) ≤ (N : Int) := by omega
        go_wp2_with fail
        refine (awake_any _).mono ?_
        rintro e w9 ⟨rfl, b2⟩
        have S9 := Lib.hid (Y1.out.keep b2).below
        clear b2 Y1
        go_wp2
        go_ret
        exact Ret.mk (by simp) S9.out
  · have LN := Lib.hid (fun u => Line_out i j k l u h4)
    have hcase : ¬ In1 i ∨ (In1 i ∧ ¬ In1 j) ∨ (In1 i ∧ In1 j ∧ ¬ In1 k) ∨ (In1 i ∧ In1 j ∧ In1 k ∧ ¬ In1 l) := by
      unfold In4 at h4; unfold In1; omega
    clear h4
    go_enter Try.func3, Try.ntmps3
    go_wp2_with fail
    refine (LN.out _).mono ?_
    rintro e w1 ⟨rfl, b1⟩
    have Y1 := Lib.hid (Y0.out.keep b1)
    clear b1 Y0 LN
    obtain ⟨m0, m1, m2, m3, m4, m5, m6, m7, m8, m9, -⟩ := Y1.out
    rcases hcase with e1 | ⟨e1, e2⟩ | ⟨e1, e2, e3⟩ | ⟨e1, e2, e3, e4⟩
    · rw [decide_eq_false e1] at I1
      clear e1
      go_wp2_with fail
      refine (I1.out _).mono ?_
      rintro e w' ⟨rfl, rfl⟩
      go_wp2_with fail
      refine (awake_any _).mono ?_
      rintro e w9 ⟨rfl, b2⟩
      have S9 := Lib.hid (Y1.out.keep b2).below
      clear b2 Y1
      go_wp2
      go_ret
      exact Ret.mk (by simp) S9.out
    · rw [decide_eq_true e1] at I1
      rw [decide_eq_false e2] at I2
      clear e1 e2
      go_wp2_with fail
      refine (I1.out _).mono ?_
      rintro e w' ⟨rfl, rfl⟩
      go_wp2_with fail
      refine (I2.out _).mono ?_
      rintro e w' ⟨rfl, rfl⟩
      go_wp2_with fail
      refine (awake_any _).mono ?_
      rintro e w9 ⟨rfl, b2⟩
      have S9 := Lib.hid (Y1.out.keep b2).below
      clear b2 Y1
      go_wp2
      go_ret
      exact Ret.mk (by simp) S9.out
    · rw [decide_eq_true e1] at I1
      rw [decide_eq_true e2] at I2
      rw [decide_eq_false e3] at I3
      clear e1 e2 e3
      go_wp2_with fail
      refine (I1.out _).mono ?_
      rintro e w' ⟨rfl, rfl⟩
      go_wp2_with fail
      refine (I2.out _).mono ?_
      rintro e w' ⟨rfl, rfl⟩
      go_wp2_with fail
      refine (I3.out _).mono ?_
      rintro e w' ⟨rfl, rfl⟩
      go_wp2_with fail
      refine (awake_any _).mono ?_
      rintro e w9 ⟨rfl, b2⟩
      have S9 := Lib.hid (Y1.out.keep b2).below
      clear b2 Y1
      go_wp2
      go_ret
      exact Ret.mk (by simp) S9.out
    · rw [decide_eq_true e1] at I1
      rw [decide_eq_true e2] at I2
      rw [decide_eq_true e3] at I3
      rw [decide_eq_false e4] at I4
      clear e1 e2 e3 e4
      go_wp2_with fail
      refine (I1.out _).mono ?_
      rintro e w' ⟨rfl, rfl⟩
      go_wp2_with fail
      refine (I2.out _).mono ?_
      rintro e w' ⟨rfl, rfl⟩
      go_wp2_with fail
      refine (I3.out _).mono ?_
      rintro e w' ⟨rfl, rfl⟩
      go_wp2_with fail
      refine (I4.out _).mono ?_
      rintro e w' ⟨rfl, rfl⟩
      go_wp2_with fail
      refine (awake_any _).mono ?_
      rintro e w9 ⟨rfl, b2⟩
      have S9 := Lib.hid (Y1.out.keep b2).below
      clear b2 Y1
      go_wp2
      go_ret
      exact Ret.mk (by simp) S9.out

end Go.Proofs.Ytljedkceicahaaa
