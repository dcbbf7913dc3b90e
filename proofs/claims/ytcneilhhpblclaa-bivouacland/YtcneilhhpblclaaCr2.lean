/- The reference of layer 9: place, May, Lowers; the law's own awake. -/
import Derived.Test.YtcneilhhpblclaaCr1
namespace Go.Proofs.Ytcneilhhpblclaa
open Go.RowKit
set_option linter.unusedVariables false

set_option maxHeartbeats 400000 in
theorem rplace_yes (i : Int) (w : World) (h : Plc i) : Calls Try.prog 27 #[.int .i64 i] w fun e w' => e = .returned (.bool true) ∧ w = w' := by
  obtain ⟨h1, h2⟩ := h
  go_enter Try.func27, Try.ntmps27
  go_wp2
  go_ret
  exact ⟨by simp, rfl⟩
set_option maxHeartbeats 400000 in
theorem rplace_no (i : Int) (w : World) (h : ¬ Plc i) : Calls Try.prog 27 #[.int .i64 i] w fun e w' => e = .returned (.bool false) ∧ w = w' := by
  by_cases h1 : -64 ≤ i
  · have hb : decide (i ≤ 128) = false := by unfold Plc at h; simp; omega
    clear h
    go_enter Try.func27, Try.ntmps27
    go_wp2
    go_ret
    exact ⟨rfl, rfl⟩
  · have h2 : i < -64 := by omega
    clear h h1
    go_enter Try.func27, Try.ntmps27
    go_wp2
    go_ret
    exact ⟨rfl, rfl⟩

set_option maxHeartbeats 1000000 in
theorem rmay_yes (h : Ht) (w : World) (ho : Ok9 h) : Calls Try.prog 9 #[hv h] w (Ret (.bool true) w) := by
  obtain ⟨I, J, R, D⟩ := h
  obtain ⟨r1, r2, d0, d1, pi, pj⟩ := ho
  simp only at r1 r2 d0 d1 pi pj
  unfold hv
  simp only
  go_enter Try.func9, Try.ntmps9
  go_wp2_with fail
  refine (rplace_yes I _ pi).mono ?_
  rintro e w1 ⟨rfl, rfl⟩
  go_wp2_with fail
  refine (rplace_yes J _ pj).mono ?_
  rintro e w1 ⟨rfl, rfl⟩
  go_wp2
  go_ret
  exact Ret.mk rfl ((Below.refl _ _).alloc (Nat.le_refl _) _)
set_option maxHeartbeats 2000000 in
theorem rmay_no (h : Ht) (w : World) (ho : ¬ Ok9 h) : Calls Try.prog 9 #[hv h] w (Ret (.bool false) w) := by
  obtain ⟨I, J, R, D⟩ := h
  unfold hv
  simp only
  have hs : R < 1 ∨ (1 ≤ R ∧ 8 < R) ∨ (1 ≤ R ∧ R ≤ 8 ∧ D < 0) ∨ (1 ≤ R ∧ R ≤ 8 ∧ 0 ≤ D ∧ 255 < D) ∨ (1 ≤ R ∧ R ≤ 8 ∧ 0 ≤ D ∧ D ≤ 255 ∧ (¬ Plc I ∨ (Plc I ∧ ¬ Plc J))) := by
    unfold Ok9 at ho; simp only at ho
    by_cases pi : Plc I <;> by_cases pj : Plc J <;> simp only [pi, pj, and_true, and_false, not_true, not_false_eq_true, or_true, or_false] at ho ⊢ <;> omega
  clear ho
  rcases hs with h1 | ⟨h1, h2⟩ | ⟨h1, h2, h3⟩ | ⟨h1, h2, h3, h4⟩ | ⟨h1, h2, h3, h4, h5 | ⟨h5, h6⟩⟩
  · go_enter Try.func9, Try.ntmps9
    go_wp2
    go_ret
    exact Ret.mk rfl ((Below.refl _ _).alloc (Nat.le_refl _) _)
  · go_enter Try.func9, Try.ntmps9
    go_wp2
    go_ret
    exact Ret.mk rfl ((Below.refl _ _).alloc (Nat.le_refl _) _)
  · go_enter Try.func9, Try.ntmps9
    go_wp2
    go_ret
    exact Ret.mk rfl ((Below.refl _ _).alloc (Nat.le_refl _) _)
  · go_enter Try.func9, Try.ntmps9
    go_wp2
    go_ret
    exact Ret.mk rfl ((Below.refl _ _).alloc (Nat.le_refl _) _)
  · have H5 := Lib.hid h5
    clear h5
    go_enter Try.func9, Try.ntmps9
    go_wp2_with fail
    refine (rplace_no I _ H5.out).mono ?_
    rintro e w1 ⟨rfl, rfl⟩
    go_wp2
    go_ret
    exact Ret.mk rfl ((Below.refl _ _).alloc (Nat.le_refl _) _)
  · have H5 := Lib.hid h5
    have H6 := Lib.hid h6
    clear h5 h6
    go_enter Try.func9, Try.ntmps9
    go_wp2_with fail
    refine (rplace_yes I _ H5.out).mono ?_
    rintro e w1 ⟨rfl, rfl⟩
    go_wp2_with fail
    refine (rplace_no J _ H6.out).mono ?_
    rintro e w1 ⟨rfl, rfl⟩
    go_wp2
    go_ret
    exact Ret.mk rfl ((Below.refl _ _).alloc (Nat.le_refl _) _)

set_option maxHeartbeats 2000000 in
theorem rLowers_any (h : Ht) (i j : Int) (w : World) : Calls Try.prog 11 #[hv h, .int .i64 i, .int .i64 j] w (Ret (.int .i64 (lo9 h i j)) w) := by
  by_cases ho : Ok9 h
  · have M := Lib.hid (fun u => rmay_yes h u ho)
    by_cases hi : Plc i
    · have P := Lib.hid (fun u => rplace_yes i u hi)
      by_cases hj : Plc j
      · have P2 := Lib.hid (fun u => rplace_yes j u hj)
        have HE : Hid (lo9 h i j = lw h i j) := by show _ = _; unfold lo9; rw [if_pos ⟨ho, hi, hj⟩]
        generalize lo9 h i j = v at *
        obtain ⟨I, J, R, D⟩ := h
        obtain ⟨r1, r2, d0, d1, ⟨pi1, pi2⟩, ⟨pj1, pj2⟩⟩ := ho
        obtain ⟨i1, i2⟩ := hi
        obtain ⟨j1, j2⟩ := hj
        simp only at r1 r2 d0 d1 pi1 pi2 pj1 pj2
        unfold hv at *
        simp only at *
        obtain ⟨x, ex⟩ : ∃ x, i - I = x := ⟨_, rfl⟩
        obtain ⟨y, ey⟩ : ∃ y, j - J = y := ⟨_, rfl⟩
        obtain ⟨a0, a1⟩ := self_bd (x := x) (m := 192) (by omega) (by omega)
        obtain ⟨b0, b1⟩ := self_bd (x := y) (m := 192) (by omega) (by omega)
        obtain ⟨c0, c1⟩ := prod_bd (a := R) (b := R) (A := 8) (B := 8) (by omega) r2 (by omega) r2
        have hr1 : 1 * 1 ≤ R * R := Int.mul_le_mul r1 r1 (by omega) (by omega)
        have EL : Hid (v = if R * R ≤ x * x + y * y then 0 else D * (R * R - (x * x + y * y)) / (R * R)) := by
          show _ = _; rw [HE.out]; unfold lw sq; simp only; rw [ex, ey]
        clear HE
        obtain ⟨xx, exx⟩ : ∃ xx, x * x = xx := ⟨_, rfl⟩
        obtain ⟨yy, eyy⟩ : ∃ yy, y * y = yy := ⟨_, rfl⟩
        obtain ⟨rr, err⟩ : ∃ rr, R * R = rr := ⟨_, rfl⟩
        rw [exx] at a0 a1 EL
        rw [eyy] at b0 b1 EL
        rw [err] at c0 c1 hr1 EL
        by_cases hc : rr ≤ xx + yy
        · have HE : Hid (v = 0) := by show _ = _; rw [EL.out, if_pos hc]
          clear EL
          go_enter Try.func11, Try.ntmps11
          go_wp2_with fail
          refine (M.out _).mono ?_
          rintro e w1 ⟨rfl, b1⟩
          have X1 := Lib.hid ((Bx.new w (.int .i64 I) (.int .i64 J) (.int .i64 R) (.int .i64 D) 23).keep b1)
          clear b1
          go_wp2_with fail
          refine (P.out _).mono ?_
          rintro e w2 ⟨rfl, rfl⟩
          go_wp2_with fail
          refine (P2.out _).mono ?_
          rintro e w2 ⟨rfl, rfl⟩
          obtain ⟨-, k0, k1, k2, k3, -, -, -, -, -⟩ := X1.out
          go_wp2
          go_ret
          exact Ret.mk (congrArg _ HE.out.symm) X1.out.below
        · have HE : Hid (v = D * (rr - (xx + yy)) / rr) := by show _ = _; rw [EL.out, if_neg hc]
          clear EL
          obtain ⟨m0, m1⟩ := prod_bd (a := D) (b := rr - (xx + yy)) (A := 255) (B := 64) d0 d1 (by omega) (by omega)
          go_enter Try.func11, Try.ntmps11
          go_wp2_with fail
          refine (M.out _).mono ?_
          rintro e w1 ⟨rfl, b1⟩
          have X1 := Lib.hid ((Bx.new w (.int .i64 I) (.int .i64 J) (.int .i64 R) (.int .i64 D) 23).keep b1)
          clear b1
          go_wp2_with fail
          refine (P.out _).mono ?_
          rintro e w2 ⟨rfl, rfl⟩
          go_wp2_with fail
          refine (P2.out _).mono ?_
          rintro e w2 ⟨rfl, rfl⟩
          obtain ⟨-, k0, k1, k2, k3, -, -, -, -, -⟩ := X1.out
          go_wp2
          go_ret
          exact Ret.mk (congrArg _ HE.out.symm) X1.out.below
      · have P2 := Lib.hid (fun u => rplace_no j u hj)
        have HE : Hid (lo9 h i j = 0) := by show _ = _; unfold lo9; rw [if_neg (fun q => hj q.2.2)]
        generalize lo9 h i j = v at *
        obtain ⟨I, J, R, D⟩ := h
        unfold hv at *
        simp only at *
        clear ho hi hj
        go_enter Try.func11, Try.ntmps11
        go_wp2_with fail
        refine (M.out _).mono ?_
        rintro e w1 ⟨rfl, b1⟩
        have X1 := Lib.hid ((Bx.new w (.int .i64 I) (.int .i64 J) (.int .i64 R) (.int .i64 D) 23).keep b1)
        clear b1
        go_wp2_with fail
        refine (P.out _).mono ?_
        rintro e w2 ⟨rfl, rfl⟩
        go_wp2_with fail
        refine (P2.out _).mono ?_
        rintro e w2 ⟨rfl, rfl⟩
        go_wp2
        go_ret
        exact Ret.mk (congrArg _ HE.out.symm) X1.out.below
    · have P := Lib.hid (fun u => rplace_no i u hi)
      have HE : Hid (lo9 h i j = 0) := by show _ = _; unfold lo9; rw [if_neg (fun q => hi q.2.1)]
      generalize lo9 h i j = v at *
      obtain ⟨I, J, R, D⟩ := h
      unfold hv at *
      simp only at *
      clear ho hi
      go_enter Try.func11, Try.ntmps11
      go_wp2_with fail
      refine (M.out _).mono ?_
      rintro e w1 ⟨rfl, b1⟩
      have X1 := Lib.hid ((Bx.new w (.int .i64 I) (.int .i64 J) (.int .i64 R) (.int .i64 D) 23).keep b1)
      clear b1
      go_wp2_with fail
      refine (P.out _).mono ?_
      rintro e w2 ⟨rfl, rfl⟩
      go_wp2
      go_ret
      exact Ret.mk (congrArg _ HE.out.symm) X1.out.below
  · have M := Lib.hid (fun u => rmay_no h u ho)
    have HE : Hid (lo9 h i j = 0) := by show _ = _; unfold lo9; rw [if_neg (fun q => ho q.1)]
    generalize lo9 h i j = v at *
    obtain ⟨I, J, R, D⟩ := h
    unfold hv at *
    simp only at *
    clear ho
    go_enter Try.func11, Try.ntmps11
    go_wp2_with fail
    refine (M.out _).mono ?_
    rintro e w1 ⟨rfl, b1⟩
    have X1 := Lib.hid ((Bx.new w (.int .i64 I) (.int .i64 J) (.int .i64 R) (.int .i64 D) 23).keep b1)
    clear b1
    go_wp2
    go_ret
    exact Ret.mk (congrArg _ HE.out.symm) X1.out.below

end Go.Proofs.Ytcneilhhpblclaa
