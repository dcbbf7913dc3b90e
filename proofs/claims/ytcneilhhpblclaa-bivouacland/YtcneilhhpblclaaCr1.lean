/- Contracts of package crater, first part: May, lowers, Lowers, reach; the reference's May and Lowers. -/
import Derived.Test.YtcneilhhpblclaaRel1
import Derived.Test.YtcneilhhpblclaaCrMath
import Derived.BigQuiet
namespace Go.Proofs.Ytcneilhhpblclaa
open Go.RowKit
set_option linter.unusedVariables false

/-- A hit as a value. -/
def hv (h : Ht) : Value := .agg #[.int .i64 h.I, .int .i64 h.J, .int .i64 h.R, .int .i64 h.D]

theorem bl9_drewN {w X : World} {B : Nat} (h : Below B w X) (n : Nat) : Below B w (X.drewN n) := ⟨h.os, h.tape, h.output, h.size, h.block⟩

set_option maxHeartbeats 400000 in
theorem btw_yes (a n b : Int) (w : World) (h1 : a ≤ n) (h2 : n ≤ b) : Calls Try.prog 25 #[.int .i64 a, .int .i64 n, .int .i64 b] w fun e w' => e = .returned (.bool true) ∧ w = w' := by
  go_enter Try.func25, Try.ntmps25
  go_wp2
  go_ret
  exact ⟨by simp, rfl⟩
set_option maxHeartbeats 400000 in
theorem btw_no (a n b : Int) (w : World) (h : n < a ∨ b < n) : Calls Try.prog 25 #[.int .i64 a, .int .i64 n, .int .i64 b] w fun e w' => e = .returned (.bool false) ∧ w = w' := by
  by_cases h1 : a ≤ n
  · have hb : decide (n ≤ b) = false := by simp; omega
    clear h
    go_enter Try.func25, Try.ntmps25
    go_wp2
    go_ret
    exact ⟨rfl, rfl⟩
  · have h2 : n < a := by omega
    clear h h1
    go_enter Try.func25, Try.ntmps25
    go_wp2
    go_ret
    exact ⟨rfl, rfl⟩
set_option maxHeartbeats 400000 in
theorem place_yes (i j : Int) (w : World) (h1 : Plc i) (h2 : Plc j) : Calls Try.prog 26 #[.int .i64 i, .int .i64 j] w fun e w' => e = .returned (.bool true) ∧ w = w' := by
  go_enter Try.func26, Try.ntmps26
  go_wp2_with fail
  refine (btw_yes (-64) i 128 _ h1.1 h1.2).mono ?_
  rintro e w1 ⟨rfl, rfl⟩
  go_wp2_with fail
  refine (btw_yes (-64) j 128 _ h2.1 h2.2).mono ?_
  rintro e w1 ⟨rfl, rfl⟩
  go_wp2
  go_ret
  exact ⟨rfl, rfl⟩
set_option maxHeartbeats 400000 in
theorem place_no (i j : Int) (w : World) (h : ¬ (Plc i ∧ Plc j)) : Calls Try.prog 26 #[.int .i64 i, .int .i64 j] w fun e w' => e = .returned (.bool false) ∧ w = w' := by
  by_cases h1 : Plc i
  · have h2 : j < -64 ∨ 128 < j := by unfold Plc at *; omega
    go_enter Try.func26, Try.ntmps26
    go_wp2_with fail
    refine (btw_yes (-64) i 128 _ h1.1 h1.2).mono ?_
    rintro e w1 ⟨rfl, rfl⟩
    go_wp2_with fail
    refine (btw_no (-64) j 128 _ h2).mono ?_
    rintro e w1 ⟨rfl, rfl⟩
    go_wp2
    go_ret
    exact ⟨rfl, rfl⟩
  · have h2 : i < -64 ∨ 128 < i := by unfold Plc at *; omega
    go_enter Try.func26, Try.ntmps26
    go_wp2_with fail
    refine (btw_no (-64) i 128 _ h2).mono ?_
    rintro e w1 ⟨rfl, rfl⟩
    clear h2 h1 h
    go_wp2
    go_ret
    exact ⟨rfl, rfl⟩

set_option maxHeartbeats 1000000 in
theorem may_yes (h : Ht) (w : World) (ho : Ok9 h) : Calls Try.prog 8 #[hv h] w (Ret (.bool true) w) := by
  obtain ⟨I, J, R, D⟩ := h
  obtain ⟨r1, r2, d0, d1, pi, pj⟩ := ho
  simp only at r1 r2 d0 d1 pi pj
  unfold hv
  simp only
  go_enter Try.func8, Try.ntmps8
  go_wp2_with fail
  refine (btw_yes 1 R 8 _ r1 r2).mono ?_
  rintro e w1 ⟨rfl, rfl⟩
  go_wp2_with fail
  refine (btw_yes 0 D 255 _ d0 d1).mono ?_
  rintro e w1 ⟨rfl, rfl⟩
  go_wp2_with fail
  refine (place_yes I J _ pi pj).mono ?_
  rintro e w1 ⟨rfl, rfl⟩
  go_wp2
  go_ret
  exact Ret.mk rfl ((Below.refl _ _).alloc (Nat.le_refl _) _)
set_option maxHeartbeats 1000000 in
theorem may_no (h : Ht) (w : World) (ho : ¬ Ok9 h) : Calls Try.prog 8 #[hv h] w (Ret (.bool false) w) := by
  obtain ⟨I, J, R, D⟩ := h
  unfold Ok9 at ho
  simp only at ho
  unfold hv
  simp only
  by_cases hr : 1 ≤ R ∧ R ≤ 8
  · by_cases hd : 0 ≤ D ∧ D ≤ 255
    · have hp : ¬ (Plc I ∧ Plc J) := fun h => ho ⟨hr.1, hr.2, hd.1, hd.2, h.1, h.2⟩
      obtain ⟨r1, r2⟩ := hr
      obtain ⟨d0, d1⟩ := hd
      have HP := Lib.hid hp
      clear ho hp
      go_enter Try.func8, Try.ntmps8
      go_wp2_with fail
      refine (btw_yes 1 R 8 _ r1 r2).mono ?_
      rintro e w1 ⟨rfl, rfl⟩
      go_wp2_with fail
      refine (btw_yes 0 D 255 _ d0 d1).mono ?_
      rintro e w1 ⟨rfl, rfl⟩
      go_wp2_with fail
      refine (place_no I J _ HP.out).mono ?_
      rintro e w1 ⟨rfl, rfl⟩
      go_wp2
      go_ret
      exact Ret.mk rfl ((Below.refl _ _).alloc (Nat.le_refl _) _)
    · obtain ⟨r1, r2⟩ := hr
      have hd' : Hid (D < 0 ∨ 255 < D) := by show _ ∨ _; omega
      clear ho hd
      go_enter Try.func8, Try.ntmps8
      go_wp2_with fail
      refine (btw_yes 1 R 8 _ r1 r2).mono ?_
      rintro e w1 ⟨rfl, rfl⟩
      go_wp2_with fail
      refine (btw_no 0 D 255 _ hd'.out).mono ?_
      rintro e w1 ⟨rfl, rfl⟩
      go_wp2
      go_ret
      exact Ret.mk rfl ((Below.refl _ _).alloc (Nat.le_refl _) _)
  · have hr' : Hid (R < 1 ∨ 8 < R) := by show _ ∨ _; omega
    clear ho hr
    go_enter Try.func8, Try.ntmps8
    go_wp2_with fail
    refine (btw_no 1 R 8 _ hr'.out).mono ?_
    rintro e w1 ⟨rfl, rfl⟩
    go_wp2
    go_ret
    exact Ret.mk rfl ((Below.refl _ _).alloc (Nat.le_refl _) _)

set_option maxHeartbeats 1000000 in
theorem lowers_any (h : Ht) (i j : Int) (w : World) (ho : Ok9 h) (hi : Plc i) (hj : Plc j) : Calls Try.prog 28 #[hv h, .int .i64 i, .int .i64 j] w (Ret (.int .i64 (lw h i j)) w) := by
  obtain ⟨I, J, R, D⟩ := h
  obtain ⟨r1, r2, d0, d1, ⟨pi1, pi2⟩, ⟨pj1, pj2⟩⟩ := ho
  obtain ⟨i1, i2⟩ := hi
  obtain ⟨j1, j2⟩ := hj
  simp only at r1 r2 d0 d1 pi1 pi2 pj1 pj2
  unfold hv
  simp only
  have hs := sq_nonneg ⟨I, J, R, D⟩ i j
  obtain ⟨x, ex⟩ : ∃ x, i - I = x := ⟨_, rfl⟩
  obtain ⟨y, ey⟩ : ∃ y, j - J = y := ⟨_, rfl⟩
  obtain ⟨a0, a1⟩ := self_bd (x := x) (m := 192) (by omega) (by omega)
  obtain ⟨b0, b1⟩ := self_bd (x := y) (m := 192) (by omega) (by omega)
  obtain ⟨c0, c1⟩ := prod_bd (a := R) (b := R) (A := 8) (B := 8) (by omega) r2 (by omega) r2
  have hr1 : 1 * 1 ≤ R * R := Int.mul_le_mul r1 r1 (by omega) (by omega)
  have es : sq ⟨I, J, R, D⟩ i j = x * x + y * y := by unfold sq; simp only; rw [ex, ey]
  have EL : Hid (lw ⟨I, J, R, D⟩ i j = if R * R ≤ x * x + y * y then 0 else D * (R * R - (x * x + y * y)) / (R * R)) := by
    show _ = _; unfold lw; simp only; rw [es]
  generalize lw ⟨I, J, R, D⟩ i j = v at *
  obtain ⟨xx, exx⟩ : ∃ xx, x * x = xx := ⟨_, rfl⟩
  obtain ⟨yy, eyy⟩ : ∃ yy, y * y = yy := ⟨_, rfl⟩
  obtain ⟨rr, err⟩ : ∃ rr, R * R = rr := ⟨_, rfl⟩
  rw [exx] at a0 a1 es EL
  rw [eyy] at b0 b1 es EL
  rw [err] at c0 c1 hr1 EL
  clear es hs
  by_cases hc : rr ≤ xx + yy
  · have HE : Hid (v = 0) := by show _ = _; rw [EL.out, if_pos hc]
    clear EL
    go_enter Try.func28, Try.ntmps28
    go_wp2
    go_quiet (fail)
    go_wp2
    go_quiet (fail)
    go_wp2
    go_ret
    exact Ret.mk (congrArg _ HE.out.symm) (bl9_drewN ((Below.refl _ _).alloc (Nat.le_refl _) _) _)
  · have HE : Hid (v = D * (rr - (xx + yy)) / rr) := by show _ = _; rw [EL.out, if_neg hc]
    clear EL
    obtain ⟨m0, m1⟩ := prod_bd (a := D) (b := rr - (xx + yy)) (A := 255) (B := 64) d0 d1 (by omega) (by omega)
    go_enter Try.func28, Try.ntmps28
    go_wp2
    go_quiet (fail)
    go_wp2
    go_quiet (fail)
    go_wp2
    go_ret
    exact Ret.mk (congrArg _ HE.out.symm) (bl9_drewN ((Below.refl _ _).alloc (Nat.le_refl _) _) _)

set_option maxHeartbeats 1000000 in
theorem Lowers_any (h : Ht) (i j : Int) (w : World) : Calls Try.prog 10 #[hv h, .int .i64 i, .int .i64 j] w (Ret (.int .i64 (lo9 h i j)) w) := by
  by_cases ho : Ok9 h
  · have M := Lib.hid (fun u => may_yes h u ho)
    by_cases hp : Plc i ∧ Plc j
    · have P := Lib.hid (fun u => place_yes i j u hp.1 hp.2)
      have L := Lib.hid (fun u => lowers_any h i j u ho hp.1 hp.2)
      have HE : Hid (lo9 h i j = lw h i j) := by show _ = _; unfold lo9; rw [if_pos ⟨ho, hp.1, hp.2⟩]
      generalize lo9 h i j = v at *
      generalize lw h i j = u at *
      obtain ⟨I, J, R, D⟩ := h
      unfold hv at *
      simp only at *
      clear ho hp
      go_enter Try.func10, Try.ntmps10
      go_wp2_with fail
      refine (M.out _).mono ?_
      rintro e w1 ⟨rfl, b1⟩
      have X1 := Lib.hid ((Bx.new w (.int .i64 I) (.int .i64 J) (.int .i64 R) (.int .i64 D) 23).keep b1)
      clear b1
      go_wp2_with fail
      refine (P.out _).mono ?_
      rintro e w2 ⟨rfl, rfl⟩
      obtain ⟨-, c0, c1, c2, c3, -, -, -, -, -⟩ := X1.out
      go_wp2_with fail
      refine (L.out _).mono ?_
      rintro e w2 ⟨rfl, b2⟩
      have X2 := Lib.hid (X1.out.keep b2)
      clear b2 c0 c1 c2 c3
      go_wp2
      go_ret
      exact Ret.mk (congrArg _ HE.out.symm) X2.out.below
    · have P := Lib.hid (fun u => place_no i j u hp)
      have HE : Hid (lo9 h i j = 0) := by show _ = _; unfold lo9; rw [if_neg (fun q => hp ⟨q.2.1, q.2.2⟩)]
      generalize lo9 h i j = v at *
      obtain ⟨I, J, R, D⟩ := h
      unfold hv at *
      simp only at *
      clear ho hp
      go_enter Try.func10, Try.ntmps10
      go_wp2_with fail
      refine (M.out _).mono ?_
      rintro e w1 ⟨rfl, b1⟩
      have X1 := Lib.hid ((Bx.new w (.int .i64 I) (.int .i64 J) (.int .i64 R) (.int .i64 D) 23).keep b1)
      clear b1
      go_wp2_with fail
      refine (P.out _).mono ?_
      rintro e w2 ⟨rfl, rfl⟩
      go_wp2
      go_ret
      exact Ret.mk (congrArg _ HE.out.symm) X1.out.below
  · have M := Lib.hid (fun u => may_no h u ho)
    have HE : Hid (lo9 h i j = 0) := by show _ = _; unfold lo9; rw [if_neg (fun q => ho q.1)]
    generalize lo9 h i j = v at *
    obtain ⟨I, J, R, D⟩ := h
    unfold hv at *
    simp only at *
    clear ho
    go_enter Try.func10, Try.ntmps10
    go_wp2_with fail
    refine (M.out _).mono ?_
    rintro e w1 ⟨rfl, b1⟩
    have X1 := Lib.hid ((Bx.new w (.int .i64 I) (.int .i64 J) (.int .i64 R) (.int .i64 D) 23).keep b1)
    clear b1
    go_wp2
    go_ret
    exact Ret.mk (congrArg _ HE.out.symm) X1.out.below

set_option maxHeartbeats 400000 in
theorem reach_any (m r c : Int) (w : World) (m1 : -64 ≤ m) (m2 : m ≤ 128) (r1 : 1 ≤ r) (r2 : r ≤ 8) (c1 : 1 ≤ c) (c2 : c ≤ 64) :
    Calls Try.prog 50 #[.int .i64 m, .int .i64 r, .int .i64 c] w fun e w' => e = .returned (.tuple #[.int .i64 (max 0 (m - r + 1)), .int .i64 (min c (m + r - 1))]) ∧ w = w' := by
  have h1 : Hid (max 0 (m - r + 1) = if 0 < m - r + 1 then m - r + 1 else 0) := by show _ = _; split <;> omega
  have h2 : Hid (min c (m + r - 1) = if m + r - 1 < c then m + r - 1 else c) := by show _ = _; split <;> omega
  generalize max 0 (m - r + 1) = u at *
  generalize min c (m + r - 1) = v at *
  by_cases q1 : 0 < m - r + 1
  · by_cases q2 : m + r - 1 < c
    · have H1 : Hid (m - r + 1 = u) := by show _ = _; rw [h1.out, if_pos q1]
      have H2 : Hid (m + r - 1 = v) := by show _ = _; rw [h2.out, if_pos q2]
      clear h1 h2
      go_enter Try.func50, Try.ntmps50
      go_wp2
      go_ret2
      exact ⟨by rw [← H1.out, ← H2.out]; rfl, rfl⟩
    · have H1 : Hid (m - r + 1 = u) := by show _ = _; rw [h1.out, if_pos q1]
      have H2 : Hid (c = v) := by show _ = _; rw [h2.out, if_neg q2]
      clear h1 h2
      go_enter Try.func50, Try.ntmps50
      go_wp2
      go_ret2
      exact ⟨by rw [← H1.out, ← H2.out]; rfl, rfl⟩
  · by_cases q2 : m + r - 1 < c
    · have H1 : Hid (0 = u) := by show _ = _; rw [h1.out, if_neg q1]
      have H2 : Hid (m + r - 1 = v) := by show _ = _; rw [h2.out, if_pos q2]
      clear h1 h2
      go_enter Try.func50, Try.ntmps50
      go_wp2
      go_ret2
      exact ⟨by rw [← H1.out, ← H2.out]; rfl, rfl⟩
    · have H1 : Hid (0 = u) := by show _ = _; rw [h1.out, if_neg q1]
      have H2 : Hid (c = v) := by show _ = _; rw [h2.out, if_neg q2]
      clear h1 h2
      go_enter Try.func50, Try.ntmps50
      go_wp2
      go_ret2
      exact ⟨by rw [← H1.out, ← H2.out]; rfl, rfl⟩

end Go.Proofs.Ytcneilhhpblclaa
