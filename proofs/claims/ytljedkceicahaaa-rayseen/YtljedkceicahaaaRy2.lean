/- The reference of layer 8: floor, Long, Cell. -/
import Derived.Test.YtljedkceicahaaaRy1
namespace Go.Proofs.Ytljedkceicahaaa
open Go.RowKit Go.Shelf
set_option linter.unusedVariables false

/-- The quotient as Go has it, and the one that is rounded down. -/
theorem td_fl {a b : Int} (hb : 0 < b) : (a < a.tdiv b * b → a / b = a.tdiv b - 1) ∧ (¬ a < a.tdiv b * b → a / b = a.tdiv b) := by
  have e := Int.mul_tdiv_add_tmod a b
  have c := Int.mul_comm b (a.tdiv b)
  have h1 : a.tmod b < b := Int.tmod_lt_of_pos a hb
  rcases Int.le_total 0 a with ha | ha
  · have h2 := Int.tmod_nonneg b ha
    exact ⟨fun h => by omega, fun _ => (Int.tdiv_eq_ediv_of_nonneg ha).symm⟩
  · have h3 : -b < a.tmod b := by
      have := Int.tmod_lt_of_pos (-a) hb
      rw [Int.neg_tmod] at this; omega
    have h4 : a.tmod b ≤ 0 := by
      have := Int.tmod_nonneg b (show 0 ≤ -a by omega)
      rw [Int.neg_tmod] at this; omega
    generalize a.tdiv b = k at *
    generalize a.tmod b = r at *
    constructor
    · intro h
      exact (div_is (X := a) (D := b) (k := k - 1) (r := r + b) (by rw [Int.mul_sub b k 1]; omega) (by omega) (by omega)).1
    · intro h
      exact (div_is (X := a) (D := b) (k := k) (r := 0) (by omega) (by omega) (by omega)).1
theorem td_bd {a b M : Int} (hb : 0 < b) (a0 : -M ≤ a) (a1 : a ≤ M) : -M ≤ a.tdiv b ∧ a.tdiv b ≤ M ∧ -M ≤ a.tdiv b * b ∧ a.tdiv b * b ≤ M := by
  have h := Int.natAbs_tdiv_le_natAbs a b
  have e := Int.mul_tdiv_add_tmod a b
  have c := Int.mul_comm b (a.tdiv b)
  refine ⟨by omega, by omega, ?_, ?_⟩
  · rcases Int.le_total 0 a with ha | ha
    · have h2 := Int.mul_nonneg (Int.tdiv_nonneg ha (Int.le_of_lt hb)) (Int.le_of_lt hb)
      omega
    · have h4 : a.tmod b ≤ 0 := by
        have := Int.tmod_nonneg b (show 0 ≤ -a by omega)
        rw [Int.neg_tmod] at this; omega
      omega
  · rcases Int.le_total 0 a with ha | ha
    · have h2 := Int.tmod_nonneg b ha
      omega
    · have h2 := Int.mul_nonneg (Int.tdiv_nonneg (show 0 ≤ -a by omega) (Int.le_of_lt hb)) (Int.le_of_lt hb)
      rw [Int.neg_tdiv, Int.neg_mul] at h2
      omega

set_option maxHeartbeats 400000 in
theorem rfloor_any (a b : Int) (w : World) (hb : 0 < b) (b1 : b ≤ 1000) (a0 : -10000 ≤ a) (a1 : a ≤ 10000) :
    Calls Try.prog 28 #[.int .i64 a, .int .i64 b] w fun e w' => e = .returned (.int .i64 (a / b)) ∧ w = w' := by
  obtain ⟨f1, f2⟩ := td_fl (a := a) hb
  obtain ⟨t0, t1, t2, t3⟩ := td_bd hb a0 a1
  have hb0 : b ≠ 0 := by omega
  by_cases h : a < a.tdiv b * b
  · have E := Lib.hid (f1 h)
    clear f1 f2
    go_enter Try.func28, Try.ntmps28
    go_wp2
    go_ret
    exact ⟨int_back E.out.symm, rfl⟩
  · have E := Lib.hid (f2 h)
    clear f1 f2
    go_enter Try.func28, Try.ntmps28
    go_wp2
    go_ret
    exact ⟨int_back E.out.symm, rfl⟩

set_option maxHeartbeats 400000 in
theorem long_any (a b c d : Int) (w : World) (a0 : 0 ≤ a) (a1 : a ≤ 63) (b0 : 0 ≤ b) (b1 : b ≤ 63) (c0 : 0 ≤ c) (c1 : c ≤ 63) (d0 : 0 ≤ d) (d1 : d ≤ 63) :
    Calls Try.prog 12 #[.int .i64 a, .int .i64 b, .int .i64 c, .int .i64 d] w fun e w' => e = .returned (.int .i64 (lng a b c d : Int)) ∧ w = w' := by
  have A1 := Lib.hid (fun u => abs_any (c - a) u (by omega) (by omega))
  have A2 := Lib.hid (fun u => abs_any (d - b) u (by omega) (by omega))
  have HE : Hid (lng a b c d = max (c - a).natAbs (d - b).natAbs) := rfl
  have n1 : ((c - a).natAbs : Int) ≤ 63 := by omega
  have n2 : ((d - b).natAbs : Int) ≤ 63 := by omega
  obtain ⟨N, eN⟩ : ∃ N, lng a b c d = N := ⟨_, rfl⟩
  obtain ⟨x, ex⟩ : ∃ x, (c - a).natAbs = x := ⟨_, rfl⟩
  obtain ⟨y, ey⟩ : ∃ y, (d - b).natAbs = y := ⟨_, rfl⟩
  rw [eN, ex, ey] at HE
  rw [ex] at A1 n1
  rw [ey] at A2 n2
  rw [eN]
  clear eN ex ey
  by_cases h : y < x
  · have E : Hid ((x : Int) = N) := by show _ = _; rw [HE.out]; omega
    have h' : (y : Int) < (x : Int) := by omega
    go_enter Try.func12, Try.ntmps12
    go_wp2_with fail
    refine (A1.out _).mono ?_
    rintro e w1 ⟨rfl, rfl⟩
    go_wp2_with fail
    refine (A2.out _).mono ?_
    rintro e w1 ⟨rfl, rfl⟩
    go_wp2_with fail
    refine (A1.out _).mono ?_
    rintro e w1 ⟨rfl, rfl⟩
    go_wp2
    go_ret
    exact ⟨int_back E.out, rfl⟩
  · have E : Hid ((y : Int) = N) := by show _ = _; rw [HE.out]; omega
    have h' : ¬ (y : Int) < (x : Int) := by omega
    go_enter Try.func12, Try.ntmps12
    go_wp2_with fail
    refine (A1.out _).mono ?_
    rintro e w1 ⟨rfl, rfl⟩
    go_wp2_with fail
    refine (A2.out _).mono ?_
    rintro e w1 ⟨rfl, rfl⟩
    go_wp2_with fail
    refine (A2.out _).mono ?_
    rintro e w1 ⟨rfl, rfl⟩
    go_wp2
    go_ret
    exact ⟨int_back E.out, rfl⟩

theorem line_prod {f t : Int} {q : Nat} (f0 : 0 ≤ f) (f1 : f ≤ 63) (t0 : 0 ≤ t) (t1 : t ≤ 63) (hq : q ≤ 63) : -8000 ≤ 2 * (q : Int) * (t - f) ∧ 2 * (q : Int) * (t - f) ≤ 8000 := by
  rcases Int.le_total f t with h | h
  · have h1 : 0 ≤ 2 * (q : Int) * (t - f) := Int.mul_nonneg (by omega) (by omega)
    have h2 : 2 * (q : Int) * (t - f) ≤ 126 * 63 := Int.mul_le_mul (by omega) (by omega) (by omega) (by omega)
    omega
  · have h1 : 0 ≤ 2 * (q : Int) * (f - t) := Int.mul_nonneg (by omega) (by omega)
    have h2 : 2 * (q : Int) * (f - t) ≤ 126 * 63 := Int.mul_le_mul (by omega) (by omega) (by omega) (by omega)
    have h3 : 2 * (q : Int) * (t - f) = -(2 * (q : Int) * (f - t)) := by rw [← Int.mul_neg]; congr 1; omega
    omega

set_option maxHeartbeats 800000 in
theorem rcell_any (a b c d : Int) (q : Nat) (w : World) (a0 : 0 ≤ a) (a1 : a ≤ 63) (b0 : 0 ≤ b) (b1 : b ≤ 63) (c0 : 0 ≤ c) (c1 : c ≤ 63) (d0 : 0 ≤ d) (d1 : d ≤ 63) (hq : q ≤ lng a b c d) :
    Calls Try.prog 13 #[.int .i64 a, .int .i64 b, .int .i64 c, .int .i64 d, .int .i64 (q : Int)] w fun e w' => e = .returned (.tuple #[.int .i64 (cq a c (lng a b c d) q), .int .i64 (cq b d (lng a b c d) q)]) ∧ w = w' := by
  have C := Lib.hid (fun u => long_any a b c d u a0 a1 b0 b1 c0 c1 d0 d1)
  have hL := lng_bd a0 a1 b0 b1 c0 c1 d0 d1
  obtain ⟨x0, x1⟩ := q_within (lng_len a b c d).1 hq 0 63 a0 a1 c0 c1
  obtain ⟨y0, y1⟩ := q_within (lng_len a b c d).2 hq 0 63 b0 b1 d0 d1
  obtain ⟨p0, p1⟩ := line_prod (q := q) a0 a1 c0 c1 (by omega)
  obtain ⟨r0, r1⟩ := line_prod (q := q) b0 b1 d0 d1 (by omega)
  generalize lng a b c d = n at *
  rcases Nat.eq_zero_or_pos n with h | h
  · subst h
    have e : q = 0 := by omega
    subst e
    rw [(q_zero a c 0).1, (q_zero b d 0).1]
    clear x0 x1 y0 y1 p0 p1 r0 r1
    go_enter Try.func13, Try.ntmps13
    go_wp2_with fail
    refine (C.out _).mono ?_
    rintro e w1 ⟨rfl, rfl⟩
    go_wp2
    go_ret2
    exact ⟨rfl, rfl⟩
  · have F1 := Lib.hid (fun u => rfloor_any (2 * (q : Int) * (c - a) + n) (2 * n) u (by omega) (by omega) (by omega) (by omega))
    have F2 := Lib.hid (fun u => rfloor_any (2 * (q : Int) * (d - b) + n) (2 * n) u (by omega) (by omega) (by omega) (by omega))
    have E1 : Hid (cq a c n q = a + (2 * (q : Int) * (c - a) + n) / (2 * n)) := rfl
    have E2 : Hid (cq b d n q = b + (2 * (q : Int) * (d - b) + n) / (2 * n)) := rfl
    obtain ⟨X, eX⟩ : ∃ X, (2 * (q : Int) * (c - a) + n) / (2 * n) = X := ⟨_, rfl⟩
    obtain ⟨Y, eY⟩ : ∃ Y, (2 * (q : Int) * (d - b) + n) / (2 * n) = Y := ⟨_, rfl⟩
    rw [eX] at F1 E1
    rw [eY] at F2 E2
    rw [E1.out] at x0 x1
    rw [E2.out] at y0 y1
    rw [E1.out, E2.out]
    clear eX eY E1 E2
    have h0 : (((n : Nat) : Int) == 0) = false := by simp; omega
    go_enter Try.func13, Try.ntmps13
    go_wp2_with fail
    refine (C.out _).mono ?_
    rintro e w1 ⟨rfl, rfl⟩
    go_wp2_with fail
    refine (F1.out _).mono ?_
    rintro e w1 ⟨rfl, rfl⟩
    go_wp2_with fail
    refine (F2.out _).mono ?_
    rintro e w1 ⟨rfl, rfl⟩
    go_wp2
    go_ret2
    exact ⟨rfl, rfl⟩

end Go.Proofs.Ytljedkceicahaaa
