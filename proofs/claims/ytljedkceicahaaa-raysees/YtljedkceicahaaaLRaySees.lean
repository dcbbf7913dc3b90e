/- The walk of the law RaySees. -/
import Derived.Test.YtljedkceicahaaaLRayWay
namespace Go.Proofs.Ytljedkceicahaaa
open Go.RowKit Go.Shelf
set_option linter.unusedVariables false

set_option maxRecDepth 100000 in
set_option maxHeartbeats 4000000 in
theorem walk_RaySees (W H T : Int) (A : Option Addr) (n c : Nat) (p : Nat → Nat) (i j k l g o : Int) (w : World) (hb : Bs w A n p) (hp : ∀ i, p i < 256) (hn : n ≤ c) (hc : c ≤ maxLen)
    (wi : (Lit.int .i64 i).wf = true) (wj : (Lit.int .i64 j).wf = true) (wk : (Lit.int .i64 k).wf = true) (wl : (Lit.int .i64 l).wf = true) (wg : (Lit.int .i64 g).wf = true) (wo : (Lit.int .i64 o).wf = true) :
    Calls Try.prog 6 #[.agg #[.int .i64 W, .int .i64 H, .int .i64 T, .slice A n c, .int .i64 i, .int .i64 j, .int .i64 k, .int .i64 l, .int .i64 g, .int .i64 o]] w (Ret (.bool true) w) := by
  have HF : Hid (∀ u, Below w.heap.size w u → Calls Try.prog 14 #[.agg #[.int .i64 W, .int .i64 H, .int .i64 T, .slice A n c]] u (Ret (.agg #[.int .i64 W, .int .i64 H, .int .i64 T, .slice A (fewN n) c]) u)) :=
    fun u hu => few8_any W H T A n c p u (hb.keep hu) hn hc
  have hN := (fewN_le n).2
  have hM : fewN n ≤ maxLen := by unfold maxLen; omega
  have HS := Lib.hid (fun (X : World) => Ws.first (w := w) (X := X) (W := W) (H := H) (T := T) (c := c) (i := i) (j := j) (k := k) (l := l) (g := g) (o := o) hb (fewN_le n).1)
  have Y0 := Lib.hid (B10.new w (.int .i64 W) (.int .i64 H) (.int .i64 T) (.slice A n c) (.int .i64 i) (.int .i64 j) (.int .i64 k) (.int .i64 l) (.int .i64 g) (.int .i64 o) 26)
  clear hb
  generalize fewN n = N at *
  have RC := Lib.hid (fun u => refCheck_any W H T A N c u hM)
  by_cases hv : Val W H T N
  · rw [chk_ok hv] at RC
    have Q1 := Lib.hid (fun u => isCell_any W H T i j A N c u)
    have Q2 := Lib.hid (fun u => isCell_any W H T k l A N c u)
    by_cases hh : Hs g o
    · have y : ¬ g < 0 ∧ ¬ 255 < g ∧ ¬ o < 0 ∧ ¬ 255 < o := by unfold Hs at hh; omega
      obtain ⟨y1, y2, y3, y4⟩ := y
      by_cases hi : InC W H i j
      · rw [decide_eq_true (show 0 ≤ i ∧ i < W ∧ 0 ≤ j ∧ j < H from hi)] at Q1
        by_cases hk : InC W H k l
        · rw [decide_eq_true (show 0 ≤ k ∧ k < W ∧ 0 ≤ l ∧ l < H from hk)] at Q2
          have CS := Lib.hid (fun u hb => Sees_in W H T i j k l g o A N c p u hM hb hp hv hi hk hh)
          have CR := Lib.hid (fun u hb => rsees_any W H T i j k l g o A N c p u hb hp hv hi hk hh)
          clear hv hh hi hk hp
          generalize seesB p W i j k l (cLo p W i j + g) (cLo p W k l + o) = sv at *
          have hsv : (sv == sv) = true := by simp
          go_enter Try.func6, Try.ntmps6
          go_wp2_with fail
          refine (HF.out _ Y0.out.below).mono ?_
          rintro e w1 ⟨rfl, b1⟩
          have Y1 := Lib.hid (Y0.out.keep b1)
          have S1 := Lib.hid (HS.out _ Y1.out)
          clear b1 Y0 HF HS
          obtain ⟨V1, hV1⟩ : ∃ V1, w1.alloc (.cells #[.int .i64 W, .int .i64 H, .int .i64 T, .slice A N c] 24) = V1 := ⟨_, rfl⟩
          rw [hV1] at S1
          obtain ⟨⟨m0, m1, m2, m3, m4, m5, m6, m7, m8, m9, -⟩, ⟨-, c0, c1, c2, c3, -, -, -, -, -⟩, -⟩ := S1.out
          rw [← hV1] at m0 m1 m2 m3 m4 m5 m6 m7 m8 m9 c0 c1 c2 c3
          have HV1 := Lib.hid hV1
          clear hV1 Y1
          go_wp2_with fail
          rw [HV1.out]
          refine (CS.out _ S1.out.s.bs).mono ?_
          rintro e w2 ⟨rfl, b2⟩
          have S2 := Lib.hid (S1.out.keep b2)
          clear b2 S1 m0 m1 m2 m3 m4 m5 m6 m7 m8 m9 c0 c1 c2 c3 HV1
          obtain ⟨⟨m0, m1, m2, m3, m4, m5, m6, m7, m8, m9, -⟩, ⟨-, c0, c1, c2, c3, -, -, -, -, -⟩, -⟩ := S2.out
          go_wp2_with fail
          refine (RC.out _).mono ?_
          rintro e w3 ⟨rfl, b2⟩
          have S3 := Lib.hid (S2.out.keep b2)
          clear b2 S2 m0 m1 m2 m3 m4 m5 m6 m7 m8 m9 c0 c1 c2 c3
          obtain ⟨⟨m0, m1, m2, m3, m4, m5, m6, m7, m8, m9, -⟩, ⟨-, c0, c1, c2, c3, -, -, -, -, -⟩, -⟩ := S3.out
          go_wp2_with fail
          refine (Q1.out _).mono ?_
          rintro e w4 ⟨rfl, b2⟩
          have S4 := Lib.hid (S3.out.keep b2)
          clear b2 S3 m0 m1 m2 m3 m4 m5 m6 m7 m8 m9 c0 c1 c2 c3
          obtain ⟨⟨m0, m1, m2, m3, m4, m5, m6, m7, m8, m9, -⟩, ⟨-, c0, c1, c2, c3, -, -, -, -, -⟩, -⟩ := S4.out
          go_wp2_with fail
          refine (Q2.out _).mono ?_
          rintro e w5 ⟨rfl, b2⟩
          have S5 := Lib.hid (S4.out.keep b2)
          clear b2 S4 m0 m1 m2 m3 m4 m5 m6 m7 m8 m9 c0 c1 c2 c3
          obtain ⟨⟨m0, m1, m2, m3, m4, m5, m6, m7, m8, m9, -⟩, ⟨-, c0, c1, c2, c3, -, -, -, -, -⟩, -⟩ := S5.out
          go_wp2_with fail
          refine (CR.out _ S5.out.s.bs).mono ?_
          rintro e w6 ⟨rfl, b2⟩
          have S6 := Lib.hid (S5.out.keep b2)
          clear b2 S5 m0 m1 m2 m3 m4 m5 m6 m7 m8 m9 c0 c1 c2 c3
          obtain ⟨⟨m0, m1, m2, m3, m4, m5, m6, m7, m8, m9, -⟩, ⟨-, c0, c1, c2, c3, -, -, -, -, -⟩, -⟩ := S6.out
          go_wp2_with fail
          refine (awake_any _).mono ?_
          rintro e w9 ⟨rfl, b2⟩
          have S9 := Lib.hid (S6.out.keep b2).b.below
          clear b2 S6 m0 m1 m2 m3 m4 m5 m6 m7 m8 m9 c0 c1 c2 c3
          go_wp2
          go_ret
          exact Ret.mk (by simp) S9.out
        · rw [decide_eq_false (show ¬ (0 ≤ k ∧ k < W ∧ 0 ≤ l ∧ l < H) from hk)] at Q2
          have hik : ¬ (InC W H i j ∧ InC W H k l) := fun h => hk h.2
          have CS := Lib.hid (fun u => Sees_err W H T i j k l g o 4 A N c u hh rfl (fun v gg h0 h1 h2 h3 => check_two W H T i j k l A N c gg v hM hv 4 ⟨fun h => absurd h hik, fun _ => rfl⟩ h0 h1 h2 h3))
          clear hv hh hi hk hp hik
          go_enter Try.func6, Try.ntmps6
          go_wp2_with fail
          refine (HF.out _ Y0.out.below).mono ?_
          rintro e w1 ⟨rfl, b1⟩
          have Y1 := Lib.hid (Y0.out.keep b1)
          have S1 := Lib.hid (HS.out _ Y1.out)
          clear b1 Y0 HF HS
          obtain ⟨V1, hV1⟩ : ∃ V1, w1.alloc (.cells #[.int .i64 W, .int .i64 H, .int .i64 T, .slice A N c] 24) = V1 := ⟨_, rfl⟩
          rw [hV1] at S1
          obtain ⟨⟨m0, m1, m2, m3, m4, m5, m6, m7, m8, m9, -⟩, ⟨-, c0, c1, c2, c3, -, -, -, -, -⟩, -⟩ := S1.out
          rw [← hV1] at m0 m1 m2 m3 m4 m5 m6 m7 m8 m9 c0 c1 c2 c3
          have HV1 := Lib.hid hV1
          clear hV1 Y1
          go_wp2_with fail
          rw [HV1.out]
          refine (CS.out _).mono ?_
          rintro e w2 ⟨rfl, b2⟩
          have S2 := Lib.hid (S1.out.keep b2)
          clear b2 S1 m0 m1 m2 m3 m4 m5 m6 m7 m8 m9 c0 c1 c2 c3 HV1
          obtain ⟨⟨m0, m1, m2, m3, m4, m5, m6, m7, m8, m9, -⟩, ⟨-, c0, c1, c2, c3, -, -, -, -, -⟩, -⟩ := S2.out
          go_wp2_with fail
          refine (RC.out _).mono ?_
          rintro e w3 ⟨rfl, b2⟩
          have S3 := Lib.hid (S2.out.keep b2)
          clear b2 S2 m0 m1 m2 m3 m4 m5 m6 m7 m8 m9 c0 c1 c2 c3
          obtain ⟨⟨m0, m1, m2, m3, m4, m5, m6, m7, m8, m9, -⟩, ⟨-, c0, c1, c2, c3, -, -, -, -, -⟩, -⟩ := S3.out
          go_wp2_with fail
          refine (Q1.out _).mono ?_
          rintro e w4 ⟨rfl, b2⟩
          have S4 := Lib.hid (S3.out.keep b2)
          clear b2 S3 m0 m1 m2 m3 m4 m5 m6 m7 m8 m9 c0 c1 c2 c3
          obtain ⟨⟨m0, m1, m2, m3, m4, m5, m6, m7, m8, m9, -⟩, ⟨-, c0, c1, c2, c3, -, -, -, -, -⟩, -⟩ := S4.out
          go_wp2_with fail
          refine (Q2.out _).mono ?_
          rintro e w5 ⟨rfl, b2⟩
          have S5 := Lib.hid (S4.out.keep b2)
          clear b2 S4 m0 m1 m2 m3 m4 m5 m6 m7 m8 m9 c0 c1 c2 c3
          obtain ⟨⟨m0, m1, m2, m3, m4, m5, m6, m7, m8, m9, -⟩, ⟨-, c0, c1, c2, c3, -, -, -, -, -⟩, -⟩ := S5.out
          go_wp2_with fail
          refine (awake_any _).mono ?_
          rintro e w9 ⟨rfl, b2⟩
          have S9 := Lib.hid (S5.out.keep b2).b.below
          clear b2 S5 m0 m1 m2 m3 m4 m5 m6 m7 m8 m9 c0 c1 c2 c3
          go_wp2
          go_ret
          exact Ret.mk (by simp) S9.out
      · rw [decide_eq_false (show ¬ (0 ≤ i ∧ i < W ∧ 0 ≤ j ∧ j < H) from hi)] at Q1
        have hik : ¬ (InC W H i j ∧ InC W H k l) := fun h => hi h.1
        have CS := Lib.hid (fun u => Sees_err W H T i j k l g o 4 A N c u hh rfl (fun v gg h0 h1 h2 h3 => check_two W H T i j k l A N c gg v hM hv 4 ⟨fun h => absurd h hik, fun _ => rfl⟩ h0 h1 h2 h3))
        clear hv hh hi hp hik
        go_enter Try.func6, Try.ntmps6
        go_wp2_with fail
        refine (HF.out _ Y0.out.below).mono ?_
        rintro e w1 ⟨rfl, b1⟩
        have Y1 := Lib.hid (Y0.out.keep b1)
        have S1 := Lib.hid (HS.out _ Y1.out)
        clear b1 Y0 HF HS
        obtain ⟨V1, hV1⟩ : ∃ V1, w1.alloc (.cells #[.int .i64 W, .int .i64 H, .int .i64 T, .slice A N c] 24) = V1 := ⟨_, rfl⟩
        rw [hV1] at S1
        obtain ⟨⟨m0, m1, m2, m3, m4, m5, m6, m7, m8, m9, -⟩, ⟨-, c0, c1, c2, c3, -, -, -, -, -⟩, -⟩ := S1.out
        rw [← hV1] at m0 m1 m2 m3 m4 m5 m6 m7 m8 m9 c0 c1 c2 c3
        have HV1 := Lib.hid hV1
        clear hV1 Y1
        go_wp2_with fail
        rw [HV1.out]
        refine (CS.out _).mono ?_
        rintro e w2 ⟨rfl, b2⟩
        have S2 := Lib.hid (S1.out.keep b2)
        clear b2 S1 m0 m1 m2 m3 m4 m5 m6 m7 m8 m9 c0 c1 c2 c3 HV1
        obtain ⟨⟨m0, m1, m2, m3, m4, m5, m6, m7, m8, m9, -⟩, ⟨-, c0, c1, c2, c3, -, -, -, -, -⟩, -⟩ := S2.out
        go_wp2_with fail
        refine (RC.out _).mono ?_
        rintro e w3 ⟨rfl, b2⟩
        have S3 := Lib.hid (S2.out.keep b2)
        clear b2 S2 m0 m1 m2 m3 m4 m5 m6 m7 m8 m9 c0 c1 c2 c3
        obtain ⟨⟨m0, m1, m2, m3, m4, m5, m6, m7, m8, m9, -⟩, ⟨-, c0, c1, c2, c3, -, -, -, -, -⟩, -⟩ := S3.out
        go_wp2_with fail
        refine (Q1.out _).mono ?_
        rintro e w4 ⟨rfl, b2⟩
        have S4 := Lib.hid (S3.out.keep b2)
        clear b2 S3 m0 m1 m2 m3 m4 m5 m6 m7 m8 m9 c0 c1 c2 c3
        obtain ⟨⟨m0, m1, m2, m3, m4, m5, m6, m7, m8, m9, -⟩, ⟨-, c0, c1, c2, c3, -, -, -, -, -⟩, -⟩ := S4.out
        go_wp2_with fail
        refine (awake_any _).mono ?_
        rintro e w9 ⟨rfl, b2⟩
        have S9 := Lib.hid (S4.out.keep b2).b.below
        clear b2 S4 m0 m1 m2 m3 m4 m5 m6 m7 m8 m9 c0 c1 c2 c3
        go_wp2
        go_ret
        exact Ret.mk (by simp) S9.out
    · have CS := Lib.hid (fun u => Sees_arg W H T i j k l g o A N c u hh)
      have hcase : g < 0 ∨ (¬ g < 0 ∧ 255 < g) ∨ (¬ g < 0 ∧ ¬ 255 < g ∧ o < 0) ∨ (¬ g < 0 ∧ ¬ 255 < g ∧ ¬ o < 0 ∧ 255 < o) := by unfold Hs at hh; omega
      clear hv hh hp
      rcases hcase with y1 | ⟨y1, y2⟩ | ⟨y1, y2, y3⟩ | ⟨y1, y2, y3, y4⟩
      all_goals
        go_enter Try.func6, Try.ntmps6
        go_wp2_with fail
        refine (HF.out _ Y0.out.below).mono ?_
        rintro e w1 ⟨rfl, b1⟩
        have Y1 := Lib.hid (Y0.out.keep b1)
        have S1 := Lib.hid (HS.out _ Y1.out)
        clear b1 Y0 HF HS
        obtain ⟨V1, hV1⟩ : ∃ V1, w1.alloc (.cells #[.int .i64 W, .int .i64 H, .int .i64 T, .slice A N c] 24) = V1 := ⟨_, rfl⟩
        rw [hV1] at S1
        obtain ⟨⟨m0, m1, m2, m3, m4, m5, m6, m7, m8, m9, -⟩, ⟨-, c0, c1, c2, c3, -, -, -, -, -⟩, -⟩ := S1.out
        rw [← hV1] at m0 m1 m2 m3 m4 m5 m6 m7 m8 m9 c0 c1 c2 c3
        have HV1 := Lib.hid hV1
        clear hV1 Y1
        go_wp2_with fail
        rw [HV1.out]
        refine (CS.out _).mono ?_
        rintro e w2 ⟨rfl, b2⟩
        have S2 := Lib.hid (S1.out.keep b2)
        clear b2 S1 m0 m1 m2 m3 m4 m5 m6 m7 m8 m9 c0 c1 c2 c3 HV1
        obtain ⟨⟨m0, m1, m2, m3, m4, m5, m6, m7, m8, m9, -⟩, ⟨-, c0, c1, c2, c3, -, -, -, -, -⟩, -⟩ := S2.out
        go_wp2_with fail
        refine (RC.out _).mono ?_
        rintro e w3 ⟨rfl, b2⟩
        have S3 := Lib.hid (S2.out.keep b2)
        clear b2 S2 m0 m1 m2 m3 m4 m5 m6 m7 m8 m9 c0 c1 c2 c3
        obtain ⟨⟨m0, m1, m2, m3, m4, m5, m6, m7, m8, m9, -⟩, ⟨-, c0, c1, c2, c3, -, -, -, -, -⟩, -⟩ := S3.out
        go_wp2_with fail
        refine (awake_any _).mono ?_
        rintro e w9 ⟨rfl, b2⟩
        have S9 := Lib.hid (S3.out.keep b2).b.below
        clear b2 S3 m0 m1 m2 m3 m4 m5 m6 m7 m8 m9 c0 c1 c2 c3
        go_wp2
        go_ret
        exact Ret.mk (by simp) S9.out
  · obtain ⟨x, ex⟩ : ∃ x, chk W H T N = x := ⟨_, rfl⟩
    obtain ⟨k1, k2⟩ := chk_bad hv
    rw [ex] at RC k1 k2
    have hx : (x != 0) = true := by simp; omega
    have CS : Hid (∀ u, Calls Try.prog 20 #[.agg #[.int .i64 W, .int .i64 H, .int .i64 T, .slice A N c], .agg #[.int .i64 i, .int .i64 j], .agg #[.int .i64 k, .int .i64 l], .int .i64 g, .int .i64 o] u (Ret (.tuple #[.bool false, .int .i64 1]) u)) := by
      intro u
      by_cases hh : Hs g o
      · exact Sees_err W H T i j k l g o 1 A N c u hh rfl (fun v gg _ _ _ _ => rcheck_bad W H T A (some ⟨gg, 0, none⟩) N c 2 2 v hM hv)
      · exact Sees_arg W H T i j k l g o A N c u hh
    clear hv hp ex
    go_enter Try.func6, Try.ntmps6
    go_wp2_with fail
    refine (HF.out _ Y0.out.below).mono ?_
    rintro e w1 ⟨rfl, b1⟩
    have Y1 := Lib.hid (Y0.out.keep b1)
    have S1 := Lib.hid (HS.out _ Y1.out)
    clear b1 Y0 HF HS
    obtain ⟨V1, hV1⟩ : ∃ V1, w1.alloc (.cells #[.int .i64 W, .int .i64 H, .int .i64 T, .slice A N c] 24) = V1 := ⟨_, rfl⟩
    rw [hV1] at S1
    obtain ⟨⟨m0, m1, m2, m3, m4, m5, m6, m7, m8, m9, -⟩, ⟨-, c0, c1, c2, c3, -, -, -, -, -⟩, -⟩ := S1.out
    rw [← hV1] at m0 m1 m2 m3 m4 m5 m6 m7 m8 m9 c0 c1 c2 c3
    have HV1 := Lib.hid hV1
    clear hV1 Y1
    go_wp2_with fail
    rw [HV1.out]
    refine (CS.out _).mono ?_
    rintro e w2 ⟨rfl, b2⟩
    have S2 := Lib.hid (S1.out.keep b2)
    clear b2 S1 m0 m1 m2 m3 m4 m5 m6 m7 m8 m9 c0 c1 c2 c3 HV1
    obtain ⟨⟨m0, m1, m2, m3, m4, m5, m6, m7, m8, m9, -⟩, ⟨-, c0, c1, c2, c3, -, -, -, -, -⟩, -⟩ := S2.out
    go_wp2_with fail
    refine (RC.out _).mono ?_
    rintro e w3 ⟨rfl, b2⟩
    have S3 := Lib.hid (S2.out.keep b2)
    clear b2 S2 m0 m1 m2 m3 m4 m5 m6 m7 m8 m9 c0 c1 c2 c3
    obtain ⟨⟨m0, m1, m2, m3, m4, m5, m6, m7, m8, m9, -⟩, ⟨-, c0, c1, c2, c3, -, -, -, -, -⟩, -⟩ := S3.out
    go_wp2_with fail
    refine (awake_any _).mono ?_
    rintro e w9 ⟨rfl, b2⟩
    have S9 := Lib.hid (S3.out.keep b2).b.below
    clear b2 S3 m0 m1 m2 m3 m4 m5 m6 m7 m8 m9 c0 c1 c2 c3
    go_wp2
    go_ret
    exact Ret.mk (by simp) S9.out

end Go.Proofs.Ytljedkceicahaaa
