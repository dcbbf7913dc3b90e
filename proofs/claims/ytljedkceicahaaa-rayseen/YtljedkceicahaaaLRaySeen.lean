/- The walk of the law RaySeen. -/
import Derived.Test.YtljedkceicahaaaLRaySteps
import Derived.Test.YtljedkceicahaaaLRayWay
namespace Go.Proofs.Ytljedkceicahaaa
open Go.RowKit Go.Shelf
set_option linter.unusedVariables false

set_option maxRecDepth 100000 in
set_option maxHeartbeats 4000000 in
theorem walk_RaySeen (W H T : Int) (A : Option Addr) (n c : Nat) (p : Nat → Nat) (i j k l g o : Int) (w : World) (hb : Bs w A n p) (hp : ∀ i, p i < 256) (hn : n ≤ c) (hc : c ≤ maxLen)
    (wi : (Lit.int .i64 i).wf = true) (wj : (Lit.int .i64 j).wf = true) (wk : (Lit.int .i64 k).wf = true) (wl : (Lit.int .i64 l).wf = true) (wg : (Lit.int .i64 g).wf = true) (wo : (Lit.int .i64 o).wf = true) :
    Calls Try.prog 7 #[.agg #[.int .i64 W, .int .i64 H, .int .i64 T, .slice A n c, .int .i64 i, .int .i64 j, .int .i64 k, .int .i64 l, .int .i64 g, .int .i64 o]] w (Ret (.bool true) w) := by
  have HF : Hid (∀ u, Below w.heap.size w u → Calls Try.prog 14 #[.agg #[.int .i64 W, .int .i64 H, .int .i64 T, .slice A n c]] u (Ret (.agg #[.int .i64 W, .int .i64 H, .int .i64 T, .slice A (fewN n) c]) u)) :=
    fun u hu => few8_any W H T A n c p u (hb.keep hu) hn hc
  have hN := (fewN_le n).2
  have hM : fewN n ≤ maxLen := by unfold maxLen; omega
  have HS := Lib.hid (fun (X : World) => Ws.first (w := w) (X := X) (W := W) (H := H) (T := T) (c := c) (i := i) (j := j) (k := k) (l := l) (g := g) (o := o) hb (fewN_le n).1)
  have Y0 := Lib.hid (B10.new w (.int .i64 W) (.int .i64 H) (.int .i64 T) (.slice A n c) (.int .i64 i) (.int .i64 j) (.int .i64 k) (.int .i64 l) (.int .i64 g) (.int .i64 o) 26)
  clear hb
  generalize fewN n = N at *
  have RC := Lib.hid (fun u => refCheck_any W H T A N c u hM)
  by_cases hv : Val W H T N
  · rw [chk_ok hv] at RC
    have Q1 := Lib.hid (fun u => isCell_any W H T i j A N c u)
    by_cases hh : Hr g o
    · have y : ¬ g < 0 ∧ ¬ 255 < g ∧ ¬ o < 0 ∧ ¬ 64 < o := by unfold Hr at hh; omega
      obtain ⟨y1, y2, y3, y4⟩ := y
      by_cases hi : InC W H i j
      · rw [decide_eq_true (show 0 ≤ i ∧ i < W ∧ 0 ≤ j ∧ j < H from hi)] at Q1
        obtain ⟨hW1, hW2, hH1, hH2, -, -⟩ := hv.s
        obtain ⟨wd, ht, rfl, rfl⟩ := hv.nat
        have CS := Lib.hid (fun u hb => Seen_in wd ht T i j g o A N c p u hM hb hp hv hi hh)
        have CR : Hid (∀ (kk : Nat) (u : World) (x y : Int), Bs u A N p → kk < wd * ht → x = ((kk % wd : Nat) : Int) → y = ((kk / wd : Nat) : Int) → Calls Try.prog 23 #[.agg #[.int .i64 (wd : Int), .int .i64 (ht : Int), .int .i64 T, .slice A N c], .int .i64 i, .int .i64 j, .int .i64 g, .int .i64 o, .int .i64 x, .int .i64 y] u (Ret (.bool (sn p wd i j g o kk)) u)) := by
          intro kk u x y hbu hkk hx hy
          subst hx hy
          have z1 : kk % wd < wd := Nat.mod_lt _ (by omega)
          have z2 : kk / wd < ht := Nat.div_lt_of_lt_mul hkk
          exact rseen_any wd ht T i j g o _ _ A N c p u hbu hp hv hi ⟨Int.natCast_nonneg _, Int.ofNat_lt.2 z1, Int.natCast_nonneg _, Int.ofNat_lt.2 z2⟩ hh
        obtain ⟨M, hMe⟩ : ∃ M, wd * ht = M := ⟨_, rfl⟩
        have hMb : M ≤ 64 * 64 := by rw [← hMe]; exact Nat.mul_le_mul (by omega) (by omega)
        have hMI : (wd : Int) * (ht : Int) = (M : Int) := by rw [← hMe]; push_cast; rfl
        rw [hMe] at CS CR
        have hmm : ((M : Int) != (M : Int)) = false := by simp
        have w0 : (0 : Int) < (wd : Int) := by omega
        have w1' : ¬ (wd : Int) = 0 := by omega
        have w2' : ((wd : Int) == 0) = false := by simp; omega
        have w3' : ((wd : Int) == -1) = false := by simp
        have w4' : ¬ (wd : Int) = -1 := by omega
        clear hv hh hi hp hMe
        go_enter Try.func7, Try.ntmps7
        go_wp2_with fail
        refine (HF.out _ Y0.out.below).mono ?_
        rintro e w1 ⟨rfl, b1⟩
        have Y1 := Lib.hid (Y0.out.keep b1)
        have S1 := Lib.hid (HS.out _ Y1.out)
        clear b1 Y0 HF HS
        obtain ⟨V1, hV1⟩ : ∃ V1, w1.alloc (.cells #[.int .i64 (wd : Int), .int .i64 (ht : Int), .int .i64 T, .slice A N c] 24) = V1 := ⟨_, rfl⟩
        rw [hV1] at S1
        obtain ⟨⟨m0, m1, m2, m3, m4, m5, m6, m7, m8, m9, -⟩, ⟨-, c0, c1, c2, c3, -, -, -, -, -⟩, -⟩ := S1.out
        rw [← hV1] at m0 m1 m2 m3 m4 m5 m6 m7 m8 m9 c0 c1 c2 c3
        have HV1 := Lib.hid hV1
        clear hV1 Y1
        go_wp2_with fail
        rw [HV1.out]
        refine (CS.out _ S1.out.s.bs).mono ?_
        rintro e w2 ⟨A', K, rfl, l0, l1, hV, b2⟩
        have S2 := Lib.hid (S1.out.keep b2)
        have V2 := Lib.hid hV
        clear b2 S1 m0 m1 m2 m3 m4 m5 m6 m7 m8 m9 c0 c1 c2 c3 HV1 hV CS
        obtain ⟨⟨m0, m1, m2, m3, m4, m5, m6, m7, m8, m9, -⟩, ⟨-, c0, c1, c2, c3, -, -, -, -, -⟩, -⟩ := S2.out
        go_wp2_with fail
        refine (RC.out _).mono ?_
        rintro e w3 ⟨rfl, b2⟩
        have S3 := Lib.hid (S2.out.keep b2)
        have V3 := Lib.hid (V2.out.keep b2)
        clear b2 S2 V2 m0 m1 m2 m3 m4 m5 m6 m7 m8 m9 c0 c1 c2 c3 RC
        obtain ⟨⟨m0, m1, m2, m3, m4, m5, m6, m7, m8, m9, -⟩, ⟨-, c0, c1, c2, c3, -, -, -, -, -⟩, -⟩ := S3.out
        go_wp2_with fail
        refine (Q1.out _).mono ?_
        rintro e w4 ⟨rfl, b2⟩
        have S4 := Lib.hid (S3.out.keep b2)
        have V4 := Lib.hid (V3.out.keep b2)
        clear b2 S3 V3 m0 m1 m2 m3 m4 m5 m6 m7 m8 m9 c0 c1 c2 c3 Q1
        obtain ⟨⟨m0, m1, m2, m3, m4, m5, m6, m7, m8, m9, -⟩, ⟨-, c0, c1, c2, c3, -, -, -, -, -⟩, -⟩ := S4.out
        obtain ⟨b, rfl, lb, gB⟩ := V4.out
        have GB := Lib.hid gB
        clear gB V4
        go_wp2_with fail
        clear m0 m1 m2 m3 m4 m5 m6 m7 m8 m9 c0 c1 c2 c3
        go_loopw [6] (fun t wr => ∃ z : Nat, z ≤ M ∧ t = .int .i64 (z : Int) ∧ Below w4.heap.size w4 wr) (fun t _ => M - (intOf t).toNat)
        case atStart => exact ⟨0, by omega, rfl, Below.refl _ _⟩
        case round =>
          obtain ⟨z, hz, rfl, hB⟩ := hrel
          have HB := Lib.hid hB
          by_cases hlt : z < M
          · have gz := (hB.cell (p := ⟨b, z, none⟩) lb).trans (GB.out z hlt)
            have Sz := Lib.hid (S4.out.keep hB)
            have CZ := Lib.hid (fun u x y hb hx hy => CR.out z u x y hb hlt hx hy)
            have hzI : (z : Int) < (M : Int) := by omega
            obtain ⟨r1, h1⟩ : ∃ r1, z % wd = r1 := ⟨_, rfl⟩
            obtain ⟨r2, h2⟩ : ∃ r2, z / wd = r2 := ⟨_, rfl⟩
            have e1 : (z : Int).tmod (wd : Int) = (r1 : Int) := by rw [← h1]; rfl
            have e2 : (z : Int).tdiv (wd : Int) = (r2 : Int) := by rw [← h2]; rfl
            have e3 : (z : Int) % (wd : Int) = (r1 : Int) := by rw [← h1]; rfl
            have e4 : (z : Int) / (wd : Int) = (r2 : Int) := by rw [← h2]; rfl
            have z3 : r2 ≤ z := by rw [← h2]; exact Nat.div_le_self _ _
            have z4 : r1 ≤ z := by rw [← h1]; exact Nat.mod_le _ _
            have z5 : (r2 : Int) ≤ 4096 := by omega
            have z6 : (r1 : Int) ≤ 4096 := by omega
            have z7 : (0 : Int) ≤ (r2 : Int) := by omega
            have z8 : (0 : Int) ≤ (r1 : Int) := by omega
            have z9 : (0 : Int) ≤ (z : Int) := by omega
            rw [h1, h2] at CZ
            have wn0 : ¬ wd = 0 := by omega
            clear z3 z4
            have W1 : IntKind.i64.wrap (r1 : Int) = (r1 : Int) := IntWalk.i64_in _ (by omega)
            have W2 : IntKind.i64.wrap (r2 : Int) = (r2 : Int) := IntWalk.i64_in _ (by omega)
            have W3 : wrap64 (r1 : Int) = (r1 : Int) := by unfold wrap64; simp only [Int.emod_def]; omega
            have W4 : wrap64 (r2 : Int) = (r2 : Int) := by unfold wrap64; simp only [Int.emod_def]; omega
            have W5 : IntKind.i64.wrap ((z : Int).tmod (wd : Int)) = (r1 : Int) := by rw [e1]; exact W1
            have W6 : IntKind.i64.wrap ((z : Int).tdiv (wd : Int)) = (r2 : Int) := by rw [e2]; exact W2
            clear hB CR
            generalize sn p wd i j g o z = v at *
            have hvv : (v != v) = false := by simp
            obtain ⟨⟨m0, m1, m2, m3, m4, m5, m6, m7, m8, m9, -⟩, ⟨-, c0, c1, c2, c3, -, -, -, -, -⟩, -⟩ := Sz.out
            clear m0 m1 m2 m3 m6 m7
            go_wp2_with fail
            go_region_held3 (fun w' => w'.cell? ⟨w.heap.size, 4, none⟩ = some (.int .i64 i) ∧ w'.cell? ⟨w.heap.size, 5, none⟩ = some (.int .i64 j) ∧ w'.cell? ⟨w.heap.size, 8, none⟩ = some (.int .i64 g) ∧ w'.cell? ⟨w.heap.size, 9, none⟩ = some (.int .i64 o) ∧ w'.cell? ⟨w1.heap.size, 0, none⟩ = some (.int .i64 (wd : Int)) ∧ w'.cell? ⟨w1.heap.size, 1, none⟩ = some (.int .i64 (ht : Int)) ∧ w'.cell? ⟨w1.heap.size, 2, none⟩ = some (.int .i64 T) ∧ w'.cell? ⟨w1.heap.size, 3, none⟩ = some (.slice A N c) ∧ w'.cell? ⟨b, z, none⟩ = some (.bool v))
              (go_keep)
              ((go_at_call 23; refine (CZ.out wr.drew _ _ (Sz.out.s.bs.keep (Below.refl _ _).drew) (by first | rfl | exact e1 | exact e2 | exact e3 | exact e4 | exact W1 | exact W2 | exact W5 | exact W6 | (rw [e1]; done) | (rw [e2]; done) | (simp; omega)) (by first | rfl | exact e1 | exact e2 | exact e3 | exact e4 | exact W1 | exact W2 | exact W5 | exact W6 | (rw [e1]; done) | (rw [e2]; done) | (simp; omega))).mono ?_; rintro e w' ⟨rfl, b'⟩; have BW := Lib.hid ((Below.refl _ wr).drew.trans b'); have q0 := kc (W := wr.drew) b' m4; have q1 := kc (W := wr.drew) b' m5; have q2 := kc (W := wr.drew) b' m8; have q3 := kc (W := wr.drew) b' m9; have q4 := kc (W := wr.drew) b' c0; have q5 := kc (W := wr.drew) b' c1; have q6 := kc (W := wr.drew) b' c2; have q7 := kc (W := wr.drew) b' c3; have q8 := kc (W := wr.drew) b' gz; clear b'))
            all_goals
              go_wp2
              go_roundw
              case rel => exact ⟨z + 1, by omega, by go_num, HB.out.trans (BW.out.mono HB.out.size)⟩
              case measure => simp [intOf]; omega
          · have hge : ¬ (z : Int) < (M : Int) := by omega
            go_wp2_with fail
            refine (awake_any _).mono ?_
            rintro e w9 ⟨rfl, b2⟩
            have S9 := Lib.hid ((S4.out.keep HB.out).keep b2).b.below
            clear b2
            go_wp2
            go_ret
            exact Ret.mk (by simp) S9.out
      · rw [decide_eq_false (show ¬ (0 ≤ i ∧ i < W ∧ 0 ≤ j ∧ j < H) from hi)] at Q1
        have CS := Lib.hid (fun u => Seen_err W H T i j g o 4 A N c u hh rfl (fun v gg h0 h1 => check_one W H T i j A N c gg v hM hv 4 ⟨fun h => absurd h hi, fun _ => rfl⟩ h0 h1))
        clear hv hh hi hp
        go_enter Try.func7, Try.ntmps7
        go_wp2_with fail
        refine (HF.out _ Y0.out.below).mono ?_
        rintro e w1 ⟨rfl, b1⟩
        have Y1 := Lib.hid (Y0.out.keep b1)
        have S1 := Lib.hid (HS.out _ Y1.out)
        clear b1 Y0 HF HS
        obtain ⟨V1, hV1⟩ : ∃ V1, w1.alloc (.cells #[.int .i64 W, .int .i64 H, .int .i64 T, .slice A N c] 24) = V1 := ⟨_, rfl⟩
        rw [hV1] at S1
        obtain ⟨⟨m0, m1, m2, m3, m4, m5, m6, m7, m8, m9, -⟩, ⟨-, c0, c1, c2, c3, -, -, -, -, -⟩, -⟩ := S1.out
        rw [← hV1] at m0 m1 m2 m3 m4 m5 m6 m7 m8 m9 c0 c1 c2 c3
        have HV1 := Lib.hid hV1
        clear hV1 Y1
        go_wp2_with fail
        rw [HV1.out]
        refine (CS.out _).mono ?_
        rintro e w2 ⟨rfl, b2⟩
        have S2 := Lib.hid (S1.out.keep b2)
        clear b2 S1 m0 m1 m2 m3 m4 m5 m6 m7 m8 m9 c0 c1 c2 c3 HV1
        obtain ⟨⟨m0, m1, m2, m3, m4, m5, m6, m7, m8, m9, -⟩, ⟨-, c0, c1, c2, c3, -, -, -, -, -⟩, -⟩ := S2.out
        go_wp2_with fail
        refine (RC.out _).mono ?_
        rintro e w3 ⟨rfl, b2⟩
        have S3 := Lib.hid (S2.out.keep b2)
        clear b2 S2 m0 m1 m2 m3 m4 m5 m6 m7 m8 m9 c0 c1 c2 c3
        obtain ⟨⟨m0, m1, m2, m3, m4, m5, m6, m7, m8, m9, -⟩, ⟨-, c0, c1, c2, c3, -, -, -, -, -⟩, -⟩ := S3.out
        go_wp2_with fail
        refine (Q1.out _).mono ?_
        rintro e w4 ⟨rfl, b2⟩
        have S4 := Lib.hid (S3.out.keep b2)
        clear b2 S3 m0 m1 m2 m3 m4 m5 m6 m7 m8 m9 c0 c1 c2 c3
        obtain ⟨⟨m0, m1, m2, m3, m4, m5, m6, m7, m8, m9, -⟩, ⟨-, c0, c1, c2, c3, -, -, -, -, -⟩, -⟩ := S4.out
        go_wp2_with fail
        refine (awake_any _).mono ?_
        rintro e w9 ⟨rfl, b2⟩
        have S9 := Lib.hid (S4.out.keep b2).b.below
        clear b2 S4 m0 m1 m2 m3 m4 m5 m6 m7 m8 m9 c0 c1 c2 c3
        go_wp2
        go_ret
        exact Ret.mk (by simp) S9.out
    · have CS := Lib.hid (fun u => Seen_arg W H T i j g o A N c u hh)
      have hcase : g < 0 ∨ (¬ g < 0 ∧ 255 < g) ∨ (¬ g < 0 ∧ ¬ 255 < g ∧ o < 0) ∨ (¬ g < 0 ∧ ¬ 255 < g ∧ ¬ o < 0 ∧ 64 < o) := by unfold Hr at hh; omega
      clear hv hh hp
      rcases hcase with y1 | ⟨y1, y2⟩ | ⟨y1, y2, y3⟩ | ⟨y1, y2, y3, y4⟩
      all_goals
        go_enter Try.func7, Try.ntmps7
        go_wp2_with fail
        refine (HF.out _ Y0.out.below).mono ?_
        rintro e w1 ⟨rfl, b1⟩
        have Y1 := Lib.hid (Y0.out.keep b1)
        have S1 := Lib.hid (HS.out _ Y1.out)
        clear b1 Y0 HF HS
        obtain ⟨V1, hV1⟩ : ∃ V1, w1.alloc (.cells #[.int .i64 W, .int .i64 H, .int .i64 T, .slice A N c] 24) = V1 := ⟨_, rfl⟩
        rw [hV1] at S1
        obtain ⟨⟨m0, m1, m2, m3, m4, m5, m6, m7, m8, m9, -⟩, ⟨-, c0, c1, c2, c3, -, -, -, -, -⟩, -⟩ := S1.out
        rw [← hV1] at m0 m1 m2 m3 m4 m5 m6 m7 m8 m9 c0 c1 c2 c3
        have HV1 := Lib.hid hV1
        clear hV1 Y1
        go_wp2_with fail
        rw [HV1.out]
        refine (CS.out _).mono ?_
        rintro e w2 ⟨rfl, b2⟩
        have S2 := Lib.hid (S1.out.keep b2)
        clear b2 S1 m0 m1 m2 m3 m4 m5 m6 m7 m8 m9 c0 c1 c2 c3 HV1
        obtain ⟨⟨m0, m1, m2, m3, m4, m5, m6, m7, m8, m9, -⟩, ⟨-, c0, c1, c2, c3, -, -, -, -, -⟩, -⟩ := S2.out
        go_wp2_with fail
        refine (RC.out _).mono ?_
        rintro e w3 ⟨rfl, b2⟩
        have S3 := Lib.hid (S2.out.keep b2)
        clear b2 S2 m0 m1 m2 m3 m4 m5 m6 m7 m8 m9 c0 c1 c2 c3
        obtain ⟨⟨m0, m1, m2, m3, m4, m5, m6, m7, m8, m9, -⟩, ⟨-, c0, c1, c2, c3, -, -, -, -, -⟩, -⟩ := S3.out
        go_wp2_with fail
        refine (awake_any _).mono ?_
        rintro e w9 ⟨rfl, b2⟩
        have S9 := Lib.hid (S3.out.keep b2).b.below
        clear b2 S3 m0 m1 m2 m3 m4 m5 m6 m7 m8 m9 c0 c1 c2 c3
        go_wp2
        go_ret
        exact Ret.mk (by simp) S9.out
  · obtain ⟨x, ex⟩ : ∃ x, chk W H T N = x := ⟨_, rfl⟩
    obtain ⟨k1, k2⟩ := chk_bad hv
    rw [ex] at RC k1 k2
    have hx : (x != 0) = true := by simp; omega
    have CS : Hid (∀ u, Calls Try.prog 22 #[.agg #[.int .i64 W, .int .i64 H, .int .i64 T, .slice A N c], .agg #[.int .i64 i, .int .i64 j], .int .i64 g, .int .i64 o] u (Ret (.tuple #[.slice none 0 0, .int .i64 1]) u)) := by
      intro u
      by_cases hh : Hr g o
      · exact Seen_err W H T i j g o 1 A N c u hh rfl (fun v gg _ _ => rcheck_bad W H T A (some ⟨gg, 0, none⟩) N c 1 1 v hM hv)
      · exact Seen_arg W H T i j g o A N c u hh
    clear hv hp ex
    go_enter Try.func7, Try.ntmps7
    go_wp2_with fail
    refine (HF.out _ Y0.out.below).mono ?_
    rintro e w1 ⟨rfl, b1⟩
    have Y1 := Lib.hid (Y0.out.keep b1)
    have S1 := Lib.hid (HS.out _ Y1.out)
    clear b1 Y0 HF HS
    obtain ⟨V1, hV1⟩ : ∃ V1, w1.alloc (.cells #[.int .i64 W, .int .i64 H, .int .i64 T, .slice A N c] 24) = V1 := ⟨_, rfl⟩
    rw [hV1] at S1
    obtain ⟨⟨m0, m1, m2, m3, m4, m5, m6, m7, m8, m9, -⟩, ⟨-, c0, c1, c2, c3, -, -, -, -, -⟩, -⟩ := S1.out
    rw [← hV1] at m0 m1 m2 m3 m4 m5 m6 m7 m8 m9 c0 c1 c2 c3
    have HV1 := Lib.hid hV1
    clear hV1 Y1
    go_wp2_with fail
    rw [HV1.out]
    refine (CS.out _).mono ?_
    rintro e w2 ⟨rfl, b2⟩
    have S2 := Lib.hid (S1.out.keep b2)
    clear b2 S1 m0 m1 m2 m3 m4 m5 m6 m7 m8 m9 c0 c1 c2 c3 HV1
    obtain ⟨⟨m0, m1, m2, m3, m4, m5, m6, m7, m8, m9, -⟩, ⟨-, c0, c1, c2, c3, -, -, -, -, -⟩, -⟩ := S2.out
    go_wp2_with fail
    refine (RC.out _).mono ?_
    rintro e w3 ⟨rfl, b2⟩
    have S3 := Lib.hid (S2.out.keep b2)
    clear b2 S2 m0 m1 m2 m3 m4 m5 m6 m7 m8 m9 c0 c1 c2 c3
    obtain ⟨⟨m0, m1, m2, m3, m4, m5, m6, m7, m8, m9, -⟩, ⟨-, c0, c1, c2, c3, -, -, -, -, -⟩, -⟩ := S3.out
    go_wp2_with fail
    refine (awake_any _).mono ?_
    rintro e w9 ⟨rfl, b2⟩
    have S9 := Lib.hid (S3.out.keep b2).b.below
    clear b2 S3 m0 m1 m2 m3 m4 m5 m6 m7 m8 m9 c0 c1 c2 c3
    go_wp2
    go_ret
    exact Ret.mk (by simp) S9.out

end Go.Proofs.Ytljedkceicahaaa
