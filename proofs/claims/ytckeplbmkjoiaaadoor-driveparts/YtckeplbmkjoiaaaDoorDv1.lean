/- Stage 14: movers and engines in memory; how far off two angles are; what is valid. -/
import Derived.Test.YtckeplbmkjoiaaaDoorDv0
import Derived.Test.YtckeplbmkjoiaaaDoorHead
namespace Go.Proofs.YtckeplbmkjoiaaaDoor
open Go.RowKit
set_option linter.unusedVariables false

theorem valI {x y : Int} (h : x = y) : Value.int .i64 x = .int .i64 y := by rw [h]
theorem retI {x y : Int} (h : x = y) : Ending.returned (.int .i64 x) = Ending.returned (.int .i64 y) := by rw [h]
set_option maxHeartbeats 400000 in
theorem side14_any (n : Int) (w : World) :
    Calls Tryd.prog 40 #[.int .i64 n] w (fun e w' => e = .returned (.bool (decide (1 ≤ n) && decide (n ≤ 64))) ∧ w = w') := by
  go_enter Tryd.func40, Tryd.ntmps40
  cases h : decide (1 ≤ n) with
  | false =>
    go_wp2
    go_ret
    exact ⟨rfl, rfl⟩
  | true =>
    go_wp2
    go_ret
    exact ⟨rfl, rfl⟩
set_option maxHeartbeats 400000 in
theorem clamp14_any (v n : Int) (w : World) (h1 : 1 ≤ n) (h2 : n ≤ 64) :
    Calls Tryd.prog 41 #[.int .i64 v, .int .i64 n] w (fun e w' => e = .returned (.int .i64 (cl v n)) ∧ w = w') := by
  go_enter Tryd.func41, Tryd.ntmps41
  go_wp2
  all_goals (go_ret; refine ⟨retI ?_, rfl⟩; unfold cl; split <;> (try split) <;> omega)
set_option maxHeartbeats 400000 in
theorem off14_any (a b : Int) (w : World) (ha : -9223372036854775808 ≤ a) (ha' : a ≤ 9223372036854775807) (hb : -9223372036854775808 ≤ b) (hb' : b ≤ 9223372036854775807) :
    Calls Tryd.prog 8 #[.int .i64 a, .int .i64 b] w (Ret (.int .i64 (off a b)) w) := by
  have HO : Hid (off a b = if (a % 65536 - b % 65536) % 65536 ≤ (-((a % 65536 - b % 65536) % 65536)) % 65536 then (a % 65536 - b % 65536) % 65536 else (-((a % 65536 - b % 65536) % 65536)) % 65536) := rfl
  generalize off a b = o at *
  have a0 : 0 ≤ a % 65536 := by omega
  have a1 : a % 65536 < 65536 := by omega
  have b0 : 0 ≤ b % 65536 := by omega
  have b1 : b % 65536 < 65536 := by omega
  go_enter Tryd.func8, Tryd.ntmps8
  go_wp2_with fail
  refine (norm_any _ _ ha ha').mono ?_
  rintro e w1 ⟨rfl, c1⟩
  have B1 := Lib.hid c1
  clear c1
  go_wp2_with fail
  refine (norm_any _ _ hb hb').mono ?_
  rintro e w2 ⟨rfl, c2⟩
  have B2 := Lib.hid (B1.out.trans (c2.mono B1.out.size))
  clear c2 B1 ha ha' hb hb'
  generalize a % 65536 = p at *
  generalize b % 65536 = q at *
  go_wp2_with fail
  refine (norm_any _ _ (by omega) (by omega)).mono ?_
  rintro e w3 ⟨rfl, c3⟩
  have B3 := Lib.hid (B2.out.trans (c3.mono B2.out.size))
  clear c3 B2
  have u0 : 0 ≤ (p - q) % 65536 := by omega
  have u1 : (p - q) % 65536 < 65536 := by omega
  generalize (p - q) % 65536 = u at *
  go_wp2_with fail
  refine (norm_any _ _ (by omega) (by omega)).mono ?_
  rintro e w4 ⟨rfl, c4⟩
  have B4 := Lib.hid (B3.out.trans (c4.mono B3.out.size))
  clear c4 B3
  generalize (-u) % 65536 = v at *
  go_wp2
  all_goals (go_ret; refine Ret.mk (valI ?_) B4.out; have := HO.out; split at this <;> omega)
/-- The reference's: the same. -/
theorem off_alt (a b : Int) : off a b = if (b % 65536 - a % 65536) % 65536 < (a % 65536 - b % 65536) % 65536 then (b % 65536 - a % 65536) % 65536 else (a % 65536 - b % 65536) % 65536 := by
  unfold off; split <;> split <;> omega
set_option maxHeartbeats 400000 in
theorem roff14_any (a b : Int) (w : World) :
    Calls Tryd.prog 9 #[.int .i64 a, .int .i64 b] w (fun e w' => e = .returned (.int .i64 (off a b)) ∧ w = w') := by
  have HO := Lib.hid (off_alt a b)
  generalize off a b = o at *
  have a0 : 0 ≤ a % 65536 := by omega
  have a1 : a % 65536 < 65536 := by omega
  have b0 : 0 ≤ b % 65536 := by omega
  have b1 : b % 65536 < 65536 := by omega
  go_enter Tryd.func9, Tryd.ntmps9
  go_wp2_with fail
  refine (rnorm_any b _).mono ?_
  rintro e w1 ⟨rfl, rfl⟩
  go_wp2_with fail
  refine (rnorm_any a _).mono ?_
  rintro e w1 ⟨rfl, rfl⟩
  generalize hp : a % 65536 = p at *
  generalize hq : b % 65536 = q at *
  have HP := Lib.hid hp
  have HQ := Lib.hid hq
  clear hp hq
  go_wp2_with fail
  refine (rnorm_any _ _).mono ?_
  rintro e w1 ⟨rfl, rfl⟩
  go_wp2_with fail
  refine (rnorm_any a _).mono ?_
  rintro e w1 ⟨rfl, rfl⟩
  rw [HP.out]
  go_wp2_with fail
  refine (rnorm_any b _).mono ?_
  rintro e w1 ⟨rfl, rfl⟩
  rw [HQ.out]
  go_wp2_with fail
  refine (rnorm_any _ _).mono ?_
  rintro e w1 ⟨rfl, rfl⟩
  generalize (q - p) % 65536 = u at *
  generalize (p - q) % 65536 = v at *
  cases h : decide (u < v) with
  | true =>
    go_wp2
    go_ret
    have := HO.out
    rw [if_pos (of_decide_eq_true h)] at this
    exact ⟨retI this.symm, rfl⟩
  | false =>
    go_wp2
    go_ret
    have := HO.out
    rw [if_neg (of_decide_eq_false h)] at this
    exact ⟨retI this.symm, rfl⟩

/-! ### what is valid -/
theorem okE_b (E : Eg) : decide (okE E) = (decide (0 ≤ E.s) && (decide (E.s ≤ 65536) && (decide (0 ≤ E.t) && (decide (E.t ≤ 32768) && ((decide (1 ≤ E.w) && decide (E.w ≤ 64)) && (decide (1 ≤ E.h) && decide (E.h ≤ 64))))))) := by
  rw [Bool.eq_iff_iff, decide_eq_true_iff]
  simp [okE, and_assoc]
set_option maxHeartbeats 1000000 in
theorem engine14_any (E : Eg) (w : World) :
    Calls Tryd.prog 30 #[.agg (egA E)] w (Ret (.bool (decide (okE E))) w) := by
  have X := Lib.hid (Kx.new w 28 (egA E))
  obtain ⟨x0, x1, x2, x3⟩ := X.out.eg
  have HE := Lib.hid (okE_b E)
  generalize decide (okE E) = r at *
  go_enter Tryd.func30, Tryd.ntmps30
  generalize egA E = A at *
  generalize E.s = s at *
  generalize E.t = t at *
  generalize E.w = wd at *
  generalize E.h = ht at *
  clear E
  cases h1 : decide (0 ≤ s) <;> cases h2 : decide (s ≤ 65536) <;> cases h3 : decide (0 ≤ t) <;> cases h4 : decide (t ≤ 32768) <;> (simp only [h1, h2, h3, h4] at HE) <;> (go_wp2_with fail) <;> (try (go_ret; exact Ret.mk (by rw [HE.out]; rfl) X.out.below))
  refine (side14_any wd _).mono ?_
  rintro e w1 ⟨rfl, rfl⟩
  cases h5 : (decide (1 ≤ wd) && decide (wd ≤ 64)) with
  | false =>
    rw [h5] at HE
    go_wp2
    go_ret
    exact Ret.mk (by rw [HE.out]; rfl) X.out.below
  | true =>
    rw [h5] at HE
    clear h5
    go_wp2_with fail
    refine (side14_any ht _).mono ?_
    rintro e w1 ⟨rfl, rfl⟩
    simp only [Bool.true_and] at HE
    cases h6 : (decide (1 ≤ ht) && decide (ht ≤ 64)) with
    | false =>
      rw [h6] at HE
      go_wp2
      go_ret
      exact Ret.mk (by rw [HE.out]; rfl) X.out.below
    | true =>
      rw [h6] at HE
      go_wp2
      go_ret
      exact Ret.mk (by rw [HE.out]; rfl) X.out.below
theorem onL_b (E : Eg) (x y : Int) : decide (onL E x y) = (decide (0 ≤ x) && (decide (x < E.w * 65536) && (decide (0 ≤ y) && decide (y < E.h * 65536)))) := by
  rw [Bool.eq_iff_iff, decide_eq_true_iff]
  simp [onL]
theorem onL_cl (E : Eg) (x y : Int) (h : okE E) : decide (onL E x y) = ((cl x E.w == x) && (cl y E.h == y)) := by
  have h1 := cl_same x h.2.2.2.2.1
  have h2 := cl_same y h.2.2.2.2.2.2.1
  rw [Bool.eq_iff_iff, decide_eq_true_iff, Bool.and_eq_true, beq_iff_eq, beq_iff_eq, h1, h2]
  unfold onL; omega
set_option maxHeartbeats 1000000 in
theorem onLand14_any (E : Eg) (x y : Int) (w : World) (h : okE E) :
    Calls Tryd.prog 31 #[.agg (egA E), .int .i64 x, .int .i64 y] w (Ret (.bool (decide (onL E x y))) w) := by
  have X := Lib.hid (Kx.new w 28 (egA E))
  obtain ⟨x0, x1, x2, x3⟩ := X.out.eg
  have HE := Lib.hid (onL_cl E x y h)
  generalize decide (onL E x y) = r at *
  go_enter Tryd.func31, Tryd.ntmps31
  generalize egA E = A at *
  have a0 := h.2.2.2.2.1
  have a1 := h.2.2.2.2.2.1
  have b0 := h.2.2.2.2.2.2.1
  have b1 := h.2.2.2.2.2.2.2
  clear x0 x1 h
  generalize E.w = wd at *
  generalize E.h = ht at *
  clear E
  go_wp2_with fail
  refine (clamp14_any _ _ _ a0 a1).mono ?_
  rintro e w1 ⟨rfl, rfl⟩
  generalize cl x wd = c at *
  cases h5 : (c == x) with
  | false =>
    rw [h5] at HE
    go_wp2
    go_ret
    exact Ret.mk (by rw [HE.out]; rfl) X.out.below
  | true =>
    rw [h5] at HE
    go_wp2_with fail
    refine (clamp14_any _ _ _ b0 b1).mono ?_
    rintro e w1 ⟨rfl, rfl⟩
    simp only [Bool.true_and] at HE
    generalize cl y ht = d at *
    go_wp2
    go_ret
    exact Ret.mk (by rw [HE.out]; rfl) X.out.below
theorem okM_b (E : Eg) (x y : Int) (m : Mv) : decide (okM E x y m) = (decide (okE E) && (decide (onL E x y) && (decide (onL E m.x m.y) && (decide (0 ≤ m.a) && decide (m.a < 65536))))) := by
  rw [Bool.eq_iff_iff, decide_eq_true_iff]
  simp [okM]
set_option maxHeartbeats 1000000 in
theorem may14_any (E : Eg) (m : Mv) (x y : Int) (w : World) :
    Calls Tryd.prog 19 #[.agg (mvA m), .agg (egA E), .int .i64 x, .int .i64 y] w (Ret (.bool (decide (okM E x y m))) w) := by
  have HE := Lib.hid (okM_b E x y m)
  have B := Lib.hid (Bm.new w m E)
  generalize decide (okM E x y m) = r at *
  go_enter Tryd.func19, Tryd.ntmps19
  go_wp2_with (first | (refine wpList_load_at (loadVar_eg B.out.e.blk) rfl rfl rfl ?_) | (refine wpList_load_g (loadVar_eg B.out.e.blk) rfl rfl (by rfl) ?_))
  generalize (w.alloc (.cells (mvA m) 26)).alloc (.cells (egA E) 28) = w1 at *
  refine (engine14_any E w1).mono ?_
  rintro e w2 ⟨rfl, b2⟩
  have B2 := Lib.hid (B.out.keep b2)
  clear b2 B
  by_cases h1 : okE E
  case neg =>
    rw [decide_eq_false h1]
    rw [decide_eq_false h1, Bool.false_and] at HE
    go_wp2
    go_ret
    exact Ret.mk (by rw [HE.out]; rfl) B2.out.m.below
  rw [decide_eq_true h1]
  rw [decide_eq_true h1, Bool.true_and] at HE
  go_wp2_with (first | (refine wpList_load_at (loadVar_eg B2.out.e.blk) rfl rfl rfl ?_) | (refine wpList_load_g (loadVar_eg B2.out.e.blk) rfl rfl (by rfl) ?_))
  refine (onLand14_any E x y w2 h1).mono ?_
  rintro e w3 ⟨rfl, b3⟩
  have B3 := Lib.hid (B2.out.keep b3)
  clear b3 B2
  cases h2 : decide (onL E x y) with
  | false =>
    rw [h2, Bool.false_and] at HE
    go_wp2
    go_ret
    exact Ret.mk (by rw [HE.out]; rfl) B3.out.m.below
  | true =>
    rw [h2, Bool.true_and] at HE
    obtain ⟨x0, x1, x2⟩ := B3.out.m.mv
    go_wp2_with (first | (refine wpList_load_at (loadVar_eg B3.out.e.blk) rfl rfl rfl ?_) | (refine wpList_load_g (loadVar_eg B3.out.e.blk) rfl rfl (by rfl) ?_))
    refine (onLand14_any E m.x m.y w3 h1).mono ?_
    rintro e w4 ⟨rfl, b4⟩
    have B4 := Lib.hid (B3.out.keep b4)
    clear b4 B3 x0 x1 x2 h2
    cases h2 : decide (onL E m.x m.y) with
    | false =>
      rw [h2, Bool.false_and] at HE
      go_wp2
      go_ret
      exact Ret.mk (by rw [HE.out]; rfl) B4.out.m.below
    | true =>
      rw [h2, Bool.true_and] at HE
      obtain ⟨-, -, x2⟩ := B4.out.m.mv
      clear h2
      generalize m.a = a at *
      cases h3 : decide (0 ≤ a) with
      | false =>
        rw [h3, Bool.false_and] at HE
        go_wp2
        go_ret
        exact Ret.mk (by rw [HE.out]; rfl) B4.out.m.below
      | true =>
        rw [h3, Bool.true_and] at HE
        go_wp2
        go_ret
        exact Ret.mk (by rw [HE.out]; rfl) B4.out.m.below
set_option maxHeartbeats 1000000 in
theorem on14_any (E : Eg) (x y : Int) (w : World) (h : okE E) :
    Calls Tryd.prog 21 #[.agg (egA E), .int .i64 x, .int .i64 y] w (Ret (.bool (decide (onL E x y))) w) := by
  have X := Lib.hid (Kx.new w 28 (egA E))
  obtain ⟨-, -, x2, x3⟩ := X.out.eg
  have HE := Lib.hid (onL_b E x y)
  generalize decide (onL E x y) = r at *
  go_enter Tryd.func21, Tryd.ntmps21
  generalize egA E = A at *
  have a0 := h.2.2.2.2.1
  have a1 := h.2.2.2.2.2.1
  have b0 := h.2.2.2.2.2.2.1
  have b1 := h.2.2.2.2.2.2.2
  clear h
  generalize E.w = wd at *
  generalize E.h = ht at *
  clear E
  cases h1 : decide (0 ≤ x) with
  | false =>
    rw [h1, Bool.false_and] at HE
    go_wp2
    go_ret
    exact Ret.mk (by rw [HE.out]; rfl) X.out.below
  | true =>
    rw [h1, Bool.true_and] at HE
    cases h2 : decide (x < wd * 65536) with
    | false =>
      rw [h2, Bool.false_and] at HE
      go_wp2
      go_ret
      exact Ret.mk (by rw [HE.out]; rfl) X.out.below
    | true =>
      rw [h2, Bool.true_and] at HE
      cases h3 : decide (0 ≤ y) with
      | false =>
        rw [h3, Bool.false_and] at HE
        go_wp2
        go_ret
        exact Ret.mk (by rw [HE.out]; rfl) X.out.below
      | true =>
        rw [h3, Bool.true_and] at HE
        go_wp2
        go_ret
        exact Ret.mk (by rw [HE.out]; rfl) X.out.below
theorem okE_c (E : Eg) : decide (okE E) = (decide (0 ≤ E.s) && (decide (E.s ≤ 65536) && (decide (0 ≤ E.t) && (decide (E.t ≤ 32768) && (decide (1 ≤ E.w) && (decide (E.w ≤ 64) && (decide (1 ≤ E.h) && decide (E.h ≤ 64)))))))) := by
  rw [okE_b]
  simp only [Bool.and_assoc]
set_option maxHeartbeats 2000000 in
theorem rmay14_any (E : Eg) (m : Mv) (x y : Int) (w : World) :
    Calls Tryd.prog 12 #[.agg (mvA m), .agg (egA E), .int .i64 x, .int .i64 y] w (Ret (.bool (decide (okM E x y m))) w) := by
  have HE : Hid (decide (okM E x y m) = (decide (okE E) && (decide (onL E m.x m.y) && (decide (onL E x y) && (decide (0 ≤ m.a) && decide (m.a < 65536)))))) := by
    rw [okM_b]
    show _ = _
    cases decide (onL E x y) <;> cases decide (onL E m.x m.y) <;> rfl
  have B := Lib.hid (Bm.new w m E)
  generalize decide (okM E x y m) = r at *
  obtain ⟨x0, x1, x2, x3⟩ := B.out.e.eg
  have HO : Hid (∀ u x y, okE E → Calls Tryd.prog 21 #[.agg (egA E), .int .i64 x, .int .i64 y] u (Ret (.bool (decide (onL E x y))) u)) := fun u x y h => on14_any E x y u h
  go_enter Tryd.func12, Tryd.ntmps12
  by_cases hk : okE E
  case neg =>
    rw [decide_eq_false hk, Bool.false_and] at HE
    have HC := okE_c E
    rw [decide_eq_false hk] at HC
    clear hk HO
    generalize E.s = s at *
    generalize E.t = t at *
    generalize E.w = wd at *
    generalize E.h = ht at *
    cases h0 : decide (0 ≤ s) with
    | false =>
      clear HC
      go_wp2
      go_ret
      exact Ret.mk (by rw [HE.out]; rfl) B.out.m.below
    | true =>
      rw [h0, Bool.true_and] at HC
      cases h1 : decide (s ≤ 65536) with
      | false =>
        clear HC
        go_wp2
        go_ret
        exact Ret.mk (by rw [HE.out]; rfl) B.out.m.below
      | true =>
        rw [h1, Bool.true_and] at HC
        cases h2 : decide (0 ≤ t) with
        | false =>
          clear HC
          go_wp2
          go_ret
          exact Ret.mk (by rw [HE.out]; rfl) B.out.m.below
        | true =>
          rw [h2, Bool.true_and] at HC
          cases h3 : decide (t ≤ 32768) with
          | false =>
            clear HC
            go_wp2
            go_ret
            exact Ret.mk (by rw [HE.out]; rfl) B.out.m.below
          | true =>
            rw [h3, Bool.true_and] at HC
            cases h4 : decide (1 ≤ wd) with
            | false =>
              clear HC
              go_wp2
              go_ret
              exact Ret.mk (by rw [HE.out]; rfl) B.out.m.below
            | true =>
              rw [h4, Bool.true_and] at HC
              cases h5 : decide (wd ≤ 64) with
              | false =>
                clear HC
                go_wp2
                go_ret
                exact Ret.mk (by rw [HE.out]; rfl) B.out.m.below
              | true =>
                rw [h5, Bool.true_and] at HC
                cases h6 : decide (1 ≤ ht) with
                | false =>
                  clear HC
                  go_wp2
                  go_ret
                  exact Ret.mk (by rw [HE.out]; rfl) B.out.m.below
                | true =>
                  rw [h6, Bool.true_and] at HC
                  replace HC := HC.symm
                  go_wp2
                  go_ret
                  exact Ret.mk (by rw [HE.out]; rfl) B.out.m.below
  rw [decide_eq_true hk, Bool.true_and] at HE
  have hs := decide_eq_true hk.1
  have hs2 := decide_eq_true hk.2.1
  have ht := decide_eq_true hk.2.2.1
  have ht2 := decide_eq_true hk.2.2.2.1
  have hw := decide_eq_true hk.2.2.2.2.1
  have hw2 := decide_eq_true hk.2.2.2.2.2.1
  have hh := decide_eq_true hk.2.2.2.2.2.2.1
  have hh2 := decide_eq_true hk.2.2.2.2.2.2.2
  have HK := Lib.hid hk
  clear hk
  obtain ⟨y0, y1, y2⟩ := B.out.m.mv
  go_wp2_with (first | (refine wpList_load_at (loadVar_eg B.out.e.blk) rfl rfl rfl ?_) | (refine wpList_load_g (loadVar_eg B.out.e.blk) rfl rfl (by rfl) ?_))
  generalize (w.alloc (.cells (mvA m) 26)).alloc (.cells (egA E) 28) = w1 at *
  refine (HO.out w1 m.x m.y HK.out).mono ?_
  rintro e w2 ⟨rfl, b2⟩
  have B2 := Lib.hid (B.out.keep b2)
  clear b2 B x0 x1 x2 x3 y0 y1 y2 hs hs2 ht ht2 hw hw2 hh hh2
  cases h2 : decide (onL E m.x m.y) with
  | false =>
    rw [h2, Bool.false_and] at HE
    go_wp2
    go_ret
    exact Ret.mk (by rw [HE.out]; rfl) B2.out.m.below
  | true =>
    rw [h2, Bool.true_and] at HE
    clear h2
    go_wp2_with (first | (refine wpList_load_at (loadVar_eg B2.out.e.blk) rfl rfl rfl ?_) | (refine wpList_load_g (loadVar_eg B2.out.e.blk) rfl rfl (by rfl) ?_))
    refine (HO.out w2 x y HK.out).mono ?_
    rintro e w4 ⟨rfl, b4⟩
    have B4 := Lib.hid (B2.out.keep b4)
    clear b4 B2
    cases h2 : decide (onL E x y) with
    | false =>
      rw [h2, Bool.false_and] at HE
      go_wp2
      go_ret
      exact Ret.mk (by rw [HE.out]; rfl) B4.out.m.below
    | true =>
      rw [h2, Bool.true_and] at HE
      obtain ⟨-, -, x2⟩ := B4.out.m.mv
      clear h2
      generalize m.a = a at *
      cases h3 : decide (0 ≤ a) with
      | false =>
        rw [h3, Bool.false_and] at HE
        go_wp2
        go_ret
        exact Ret.mk (by rw [HE.out]; rfl) B4.out.m.below
      | true =>
        rw [h3, Bool.true_and] at HE
        go_wp2
        go_ret
        exact Ret.mk (by rw [HE.out]; rfl) B4.out.m.below
end Go.Proofs.YtckeplbmkjoiaaaDoor
