/- The walk of the law RaySteps. -/
import Derived.Test.YtljedkceicahaaaLRyStart
namespace Go.Proofs.Ytljedkceicahaaa
open Go.RowKit Go.Shelf
set_option linter.unusedVariables false

theorem bdrewN8 {B : Nat} {a w : World} (h : Below B a w) (k : Nat) : Below B a (w.drewN k) := ⟨h.os, h.tape, h.output, h.size, h.block⟩

section
attribute [local go_sem] Oper.semAt_some eq_two
set_option maxRecDepth 100000 in
set_option maxHeartbeats 4000000 in
theorem walk_RaySteps (W H T : Int) (A : Option Addr) (n c : Nat) (p : Nat → Nat) (i j k l g o : Int) (w : World) (hb : Bs w A n p) (hp : ∀ i, p i < 256) (hn : n ≤ c) (hc : c ≤ maxLen)
    (wi : (Lit.int .i64 i).wf = true) (wj : (Lit.int .i64 j).wf = true) (wk : (Lit.int .i64 k).wf = true) (wl : (Lit.int .i64 l).wf = true) (wg : (Lit.int .i64 g).wf = true) (wo : (Lit.int .i64 o).wf = true) :
    Calls Try.prog 4 #[.agg #[.int .i64 W, .int .i64 H, .int .i64 T, .slice A n c, .int .i64 i, .int .i64 j, .int .i64 k, .int .i64 l, .int .i64 g, .int .i64 o]] w (Ret (.bool true) w) := by
  have Y0 := Lib.hid (B10.new w (.int .i64 W) (.int .i64 H) (.int .i64 T) (.slice A n c) (.int .i64 i) (.int .i64 j) (.int .i64 k) (.int .i64 l) (.int .i64 g) (.int .i64 o) 26)
  clear hb hp hn hc wi wj wk wl wg wo
  by_cases h4 : In4 i j k l
  · obtain ⟨a0, a1, b0, b1, c0', c1', d0, d1⟩ := id h4
    have LN := Lib.hid (fun u => Line_in i j k l u h4)
    have hL := lng_bd a0 a1 b0 b1 c0' c1' d0 d1
    obtain ⟨n1, n2⟩ := lng_len i j k l
    clear h4
    go_enter Try.func4, Try.ntmps4
    go_wp2_with fail
    refine (LN.out _).mono ?_
    rintro e w1 ⟨gl, K, rfl, k1, k2, hcs, b1'⟩
    have Y1 := Lib.hid (Y0.out.keep b1')
    have hlt0 : gl < w1.heap.size := by
      have := (hcs 0 (Nat.zero_le _)).1
      exact cell_lt this
    have HC := Lib.hid hcs
    clear b1' Y0 hcs LN
    generalize lng i j k l = N at *
    obtain ⟨m0, m1, m2, m3, m4, m5, m6, m7, m8, m9, -⟩ := Y1.out
    obtain ⟨f0, f1⟩ := HC.out 0 (Nat.zero_le _)
    obtain ⟨e0, e1⟩ := HC.out N (Nat.le_refl _)
    rw [(q_zero i k N).1] at f0
    rw [(q_zero j l N).1] at f1
    rw [q_end i k N n1] at e0
    rw [q_end j l N n2] at e1
    simp only [Nat.zero_mul, Nat.zero_add] at f0 f1
    have F0 := Lib.hid f0
    have F1 := Lib.hid f1
    have E0 := Lib.hid e0
    have E1 := Lib.hid e1
    have hl1 : ¬ (N : Int) + 1 < 1 := by omega
    have hl1' : decide ((N : Int) + 1 < 1) = false := decide_eq_false hl1
    have hl2 : (N : Int) + 1 - 1 = (N : Int) := by omega
    have hl3 : (N : Int) < (N : Int) + 1 := by omega
    have hl4 : (0 : Int) < (N : Int) + 1 := by omega
    have hl5 : (0 : Int) ≤ (N : Int) := by omega
    go_wp2_with fail
    go_quiet (fail)
    go_wp2_with fail
    clear m0 m1 m2 m3 m4 m5 m6 m7 m8 m9 f0 f1 e0 e1
    go_loopw [5] (fun t wr => ∃ q : Nat, 1 ≤ q ∧ q ≤ N + 1 ∧ t = .int .i64 (q : Int) ∧ Below w1.heap.size w1 wr) (fun t _ => N + 1 - (intOf t).toNat)
    case atStart => first | exact ⟨1, by omega, by omega, rfl, bdrewN8 (Below.refl _ _) _⟩ | exact ⟨1, by omega, by omega, rfl, Below.refl _ _⟩
    case round =>
      obtain ⟨q, hq1, hq, rfl, hBq⟩ := hrel
      have HBq := Lib.hid hBq
      clear hBq
      by_cases hlt : q ≤ N
      · obtain ⟨r, hr⟩ : ∃ r, q = r + 1 := ⟨q - 1, by omega⟩
        have hqI : (q : Int) < (N : Int) + 1 := by omega
        have hq0 : (0 : Int) ≤ (q : Int) := by omega
        have hrI : (q : Int) - 1 = (r : Int) := by omega
        have hr1 : (r : Int) < (N : Int) + 1 := by omega
        have hr0 : (0 : Int) ≤ (r : Int) := by omega
        obtain ⟨x0, x1⟩ := HC.out q hlt
        obtain ⟨z0, z1⟩ := HC.out r (by omega)
        have s0 := q_step (f := i) (t := k) (n := N) (by omega) n1 r
        have s1 := q_step (f := j) (t := l) (n := N) (by omega) n2 r
        have y0 := q_within (q := q) n1 hlt 0 63 a0 a1 c0' c1'
        have y1 := q_within (q := q) n2 hlt 0 63 b0 b1 d0 d1
        have y2 := q_within (q := r) n1 (by omega) 0 63 a0 a1 c0' c1'
        have y3 := q_within (q := r) n2 (by omega) 0 63 b0 b1 d0 d1
        rw [← hr] at s0 s1
        generalize cq i k N q = xq at *
        generalize cq j l N q = yq at *
        generalize cq i k N r = xr at *
        generalize cq j l N r = yr at *
        have T0 : Hid ((0 ≤ xq ∧ xq ≤ 63 ∧ 0 ≤ xr ∧ xr ≤ 63) ∧ (¬ 1 < xq - xr ∧ ¬ xq - xr < -1) ∧ ((0 < xq - xr ∧ ¬ k - i ≤ 0 ∧ ¬ xq - xr < 0) ∨ (xq - xr < 0 ∧ ¬ 0 ≤ k - i ∧ ¬ 0 < xq - xr) ∨ (¬ 0 < xq - xr ∧ ¬ xq - xr < 0))) := by show _ ∧ _; omega
        have T1 : Hid ((0 ≤ yq ∧ yq ≤ 63 ∧ 0 ≤ yr ∧ yr ≤ 63) ∧ (¬ 1 < yq - yr ∧ ¬ yq - yr < -1) ∧ ((0 < yq - yr ∧ ¬ l - j ≤ 0 ∧ ¬ yq - yr < 0) ∨ (yq - yr < 0 ∧ ¬ 0 ≤ l - j ∧ ¬ 0 < yq - yr) ∨ (¬ 0 < yq - yr ∧ ¬ yq - yr < 0))) := by show _ ∧ _; omega
        clear s0 s1 y0 y1 y2 y3 hr
        go_wp2_with fail
        go_loopw [6] (fun t wr => ∃ s : Int, (s = 0 ∨ s = 1 ∨ s = 2) ∧ t = .int .i64 s ∧ Below w1.heap.size w1 wr) (fun t _ => 2 - (intOf t).toNat)
        case atStart => exact ⟨0, .inl rfl, rfl, HBq.out⟩
        case round =>
          obtain ⟨s, hs, rfl, hB⟩ := hrel
          have HB := Lib.hid hB
          rcases hs with rfl | rfl | rfl
          · have g0 := (hB.cell (p := ⟨gl, q * 2, none⟩) hlt0).trans x0
            have g1 := (hB.cell (p := ⟨gl, r * 2, none⟩) hlt0).trans z0
            have g2 := (hB.cell (p := ⟨gl, 0, none⟩) hlt0).trans F0.out
            have g3 := (hB.cell (p := ⟨gl, N * 2, none⟩) hlt0).trans E0.out
            clear hB x0 x1 z0 z1
            obtain ⟨⟨t3, t4, t5, t6⟩, ⟨t7, t8⟩, t2⟩ := T0.out
            go_wp2_with fail
            go_quiet (fail)
            go_wp2_with fail
            go_quiet (fail)
            rcases t2 with ⟨v1, v2, v3⟩ | ⟨v1, v2, v3⟩ | ⟨v1, v2⟩
            all_goals
              go_wp2
              go_roundw
              case rel => first | exact ⟨0 + 1, by simp, rfl, bdrewN8 (bdrewN8 HB.out _) _⟩ | exact ⟨0 + 1, by simp, rfl, bdrewN8 HB.out _⟩ | exact ⟨0 + 1, by simp, by go_num, bdrewN8 (bdrewN8 HB.out _) _⟩
              case measure => simp [intOf]
          · have g0 := (hB.cell (p := ⟨gl, q * 2 + 1, none⟩) hlt0).trans x1
            have g1 := (hB.cell (p := ⟨gl, r * 2 + 1, none⟩) hlt0).trans z1
            have g2 := (hB.cell (p := ⟨gl, 1, none⟩) hlt0).trans F1.out
            have g3 := (hB.cell (p := ⟨gl, N * 2 + 1, none⟩) hlt0).trans E1.out
            clear hB x0 x1 z0 z1
            obtain ⟨⟨t3, t4, t5, t6⟩, ⟨t7, t8⟩, t2⟩ := T1.out
            go_wp2_with fail
            go_quiet (fail)
            go_wp2_with fail
            go_quiet (fail)
            rcases t2 with ⟨v1, v2, v3⟩ | ⟨v1, v2, v3⟩ | ⟨v1, v2⟩
            all_goals
              go_wp2
              go_roundw
              case rel => first | exact ⟨1 + 1, by simp, rfl, bdrewN8 (bdrewN8 HB.out _) _⟩ | exact ⟨1 + 1, by simp, rfl, bdrewN8 HB.out _⟩ | exact ⟨1 + 1, by simp, by go_num, bdrewN8 (bdrewN8 HB.out _) _⟩
              case measure => simp [intOf]
          · go_wp2
            go_roundw
            case rel => exact ⟨q + 1, by omega, by omega, by go_num, HB.out⟩
            case measure => simp [intOf]; omega
      · have hge : ¬ (q : Int) < (N : Int) + 1 := by omega
        go_wp2_with fail
        refine (awake_any _).mono ?_
        rintro e w9 ⟨rfl, b2⟩
        have S9 := Lib.hid ((Y1.out.keep HBq.out).keep b2).below
        clear b2 Y1
        go_wp2
        go_ret
        exact Ret.mk (by simp) S9.out
  · have LN := Lib.hid (fun u => Line_out i j k l u h4)
    clear h4
    go_enter Try.func4, Try.ntmps4
    go_wp2_with fail
    refine (LN.out _).mono ?_
    rintro e w1 ⟨rfl, b1⟩
    have Y1 := Lib.hid (Y0.out.keep b1)
    clear b1 Y0 LN
    obtain ⟨m0, m1, m2, m3, m4, m5, m6, m7, m8, m9, -⟩ := Y1.out
    go_wp2_with fail
    refine (awake_any _).mono ?_
    rintro e w9 ⟨rfl, b2⟩
    have S9 := Lib.hid (Y1.out.keep b2).below
    clear b2 Y1
    go_wp2
    go_ret
    exact Ret.mk (by simp) S9.out
end

end Go.Proofs.Ytljedkceicahaaa
