/- Plain mathematics of lines: the closed form, step by step from remainders. -/
import Derived.Test.YtljedkceicahaaaRelMath
namespace Go.Proofs.Ytljedkceicahaaa
set_option linter.unusedVariables false

/-- How often a line goes on. -/
def lng (a b c d : Int) : Nat := max (c - a).natAbs (d - b).natAbs
/-- A coordinate of the q-th cell; the rest. -/
def cq (f t : Int) (n q : Nat) : Int := f + (2 * (q : Int) * (t - f) + n) / (2 * n)
def rq (f t : Int) (n q : Nat) : Int := (2 * (q : Int) * (t - f) + n) % (2 * n)
/-- A coordinate that stays within a line's length. -/
def Len (f t : Int) (n : Nat) : Prop := -(n : Int) ≤ t - f ∧ t - f ≤ n
theorem lng_len (a b c d : Int) : Len a c (lng a b c d) ∧ Len b d (lng a b c d) := by
  unfold lng Len; omega
theorem lng_hit (a b c d : Int) : (c - a = lng a b c d ∨ c - a = -(lng a b c d : Int)) ∨ (d - b = lng a b c d ∨ d - b = -(lng a b c d : Int)) := by
  unfold lng; omega
theorem lng_bd {a b c d : Int} (a0 : 0 ≤ a) (a1 : a ≤ 63) (b0 : 0 ≤ b) (b1 : b ≤ 63) (c0 : 0 ≤ c) (c1 : c ≤ 63) (d0 : 0 ≤ d) (d1 : d ≤ 63) : lng a b c d ≤ 63 := by
  unfold lng; omega
theorem div_is {X D k r : Int} (h : X = D * k + r) (r0 : 0 ≤ r) (r1 : r < D) : X / D = k ∧ X % D = r := by
  subst h
  have hD : D ≠ 0 := by omega
  constructor
  · rw [Int.add_comm, Int.add_mul_ediv_left _ _ hD, Int.ediv_eq_zero_of_lt r0 r1]; omega
  · rw [Int.add_comm, Int.add_mul_emod_self_left, Int.emod_eq_of_lt r0 r1]
theorem q_zero (f t : Int) (n : Nat) : cq f t n 0 = f ∧ rq f t n 0 = n := by
  unfold cq rq
  have e : 2 * ((0 : Nat) : Int) * (t - f) + n = n := by simp
  rw [e]
  rcases Nat.eq_zero_or_pos n with h | h
  · subst h; simp
  · obtain ⟨h1, h2⟩ := div_is (X := (n : Int)) (D := 2 * n) (k := 0) (r := n) (by omega) (by omega) (by omega)
    rw [h1, h2]; exact ⟨by omega, rfl⟩
theorem rq_bd (f t : Int) {n : Nat} (hn : 0 < n) (q : Nat) : 0 ≤ rq f t n q ∧ rq f t n q < 2 * n := by
  unfold rq
  exact ⟨Int.emod_nonneg _ (by omega), Int.emod_lt_of_pos _ (by omega)⟩
/-- What carry makes. -/
def cyA (c r w : Int) : Int := if w ≤ r then c + 1 else if r < 0 then c - 1 else c
def cyR (r w : Int) : Int := if w ≤ r then r - w else if r < 0 then r + w else r
theorem q_succ {f t : Int} {n : Nat} (hn : 0 < n) (hl : Len f t n) (q : Nat) :
    cq f t n (q + 1) = cyA (cq f t n q) (rq f t n q + 2 * (t - f)) (2 * n) ∧ rq f t n (q + 1) = cyR (rq f t n q + 2 * (t - f)) (2 * n) := by
  obtain ⟨r0, r1⟩ := rq_bd f t hn q
  obtain ⟨l0, l1⟩ := hl
  have e0 : 2 * (q : Int) * (t - f) + n = 2 * n * ((2 * (q : Int) * (t - f) + n) / (2 * n)) + rq f t n q := (Int.mul_ediv_add_emod _ _).symm
  have e1 : 2 * ((q + 1 : Nat) : Int) * (t - f) + n = 2 * (q : Int) * (t - f) + n + 2 * (t - f) := by push_cast; rw [Int.mul_add, Int.add_mul]; omega
  unfold cyA cyR cq
  generalize hk : (2 * (q : Int) * (t - f) + n) / (2 * n) = k at *
  generalize hr : rq f t n q = r at *
  unfold rq
  rw [e1, e0]
  by_cases h1 : 2 * (n : Int) ≤ r + 2 * (t - f)
  · obtain ⟨g1, g2⟩ := div_is (X := 2 * n * k + r + 2 * (t - f)) (D := 2 * n) (k := k + 1) (r := r + 2 * (t - f) - 2 * n) (by rw [Int.mul_add (2 * (n : Int)) k 1]; omega) (by omega) (by omega)
    rw [g1, g2, if_pos h1, if_pos h1]; exact ⟨by omega, rfl⟩
  · by_cases h2 : r + 2 * (t - f) < 0
    · obtain ⟨g1, g2⟩ := div_is (X := 2 * n * k + r + 2 * (t - f)) (D := 2 * n) (k := k - 1) (r := r + 2 * (t - f) + 2 * n) (by rw [Int.mul_sub (2 * (n : Int)) k 1]; omega) (by omega) (by omega)
      rw [g1, g2, if_neg h1, if_neg h1, if_pos h2, if_pos h2]; exact ⟨by omega, rfl⟩
    · obtain ⟨g1, g2⟩ := div_is (X := 2 * n * k + r + 2 * (t - f)) (D := 2 * n) (k := k) (r := r + 2 * (t - f)) (by omega) (by omega) (by omega)
      rw [g1, g2, if_neg h1, if_neg h1, if_neg h2, if_neg h2]; exact ⟨rfl, rfl⟩
/-- From cell to cell. -/
theorem q_step {f t : Int} {n : Nat} (hn : 0 < n) (hl : Len f t n) (q : Nat) :
    cq f t n (q + 1) - cq f t n q ≤ 1 ∧ -1 ≤ cq f t n (q + 1) - cq f t n q ∧ (0 < cq f t n (q + 1) - cq f t n q → 0 < t - f) ∧ (cq f t n (q + 1) - cq f t n q < 0 → t - f < 0) := by
  obtain ⟨r0, r1⟩ := rq_bd f t hn q
  rw [(q_succ hn hl q).1]
  unfold cyA
  split
  · omega
  · split
    · omega
    · omega
theorem q_end (f t : Int) (n : Nat) (hl : Len f t n) : cq f t n n = t := by
  rcases Nat.eq_zero_or_pos n with h | h
  · subst h
    have := hl.1; have := hl.2
    rw [(q_zero f t 0).1]; omega
  · unfold cq
    obtain ⟨g1, g2⟩ := div_is (X := 2 * (n : Int) * (t - f) + n) (D := 2 * n) (k := t - f) (r := n) rfl (by omega) (by omega)
    rw [g1]; omega
/-- The long coordinate goes on by one each time. -/
theorem q_long {f t : Int} {n q : Nat} (hn : 0 < n) (h : t - f = n ∨ t - f = -(n : Int)) : cq f t n q = f + q ∨ cq f t n q = f - q := by
  unfold cq
  rcases h with h | h
  · rw [h]
    obtain ⟨g1, g2⟩ := div_is (X := 2 * (q : Int) * (n : Int) + n) (D := 2 * n) (k := q) (r := n) (by rw [Int.mul_assoc, Int.mul_assoc, Int.mul_comm (q : Int) (n : Int)]) (by omega) (by omega)
    rw [g1]; exact .inl rfl
  · rw [h]
    obtain ⟨g1, g2⟩ := div_is (X := 2 * (q : Int) * (-(n : Int)) + n) (D := 2 * n) (k := -(q : Int)) (r := n) (by grind) (by omega) (by omega)
    rw [g1]; right; omega
/-- Between the ends. -/
theorem q_within {f t : Int} {n q : Nat} (hl : Len f t n) (hq : q ≤ n) (L H : Int) (f0 : L ≤ f) (f1 : f ≤ H) (t0 : L ≤ t) (t1 : t ≤ H) : L ≤ cq f t n q ∧ cq f t n q ≤ H := by
  rcases Nat.eq_zero_or_pos n with h | h
  · have e : q = 0 := by omega
    subst e; rw [(q_zero f t n).1]; exact ⟨f0, f1⟩
  · unfold cq
    have hD : (0 : Int) < 2 * n := by omega
    rcases Int.le_total f t with hft | hft
    · have p1 : 0 ≤ 2 * (q : Int) * (t - f) := Int.mul_nonneg (by omega) (by omega)
      have p2 : 2 * (q : Int) * (t - f) ≤ 2 * (n : Int) * (t - f) := Int.mul_le_mul_of_nonneg_right (by omega) (by omega)
      have g1 : 0 ≤ (2 * (q : Int) * (t - f) + n) / (2 * n) := Int.ediv_nonneg (by omega) (by omega)
      have g2 : (2 * (q : Int) * (t - f) + n) / (2 * n) < t - f + 1 := Int.ediv_lt_of_lt_mul hD (by rw [Int.add_mul, Int.mul_comm (t - f)]; omega)
      omega
    · have p1 : 0 ≤ 2 * (q : Int) * (f - t) := Int.mul_nonneg (by omega) (by omega)
      have p2 : 2 * (q : Int) * (f - t) ≤ 2 * (n : Int) * (f - t) := Int.mul_le_mul_of_nonneg_right (by omega) (by omega)
      have p3 : 2 * (q : Int) * (t - f) = -(2 * (q : Int) * (f - t)) := by rw [← Int.mul_neg]; congr 1; omega
      have p4 : 2 * (n : Int) * (t - f) = -(2 * (n : Int) * (f - t)) := by rw [← Int.mul_neg]; congr 1; omega
      have g1 : t - f ≤ (2 * (q : Int) * (t - f) + n) / (2 * n) := Int.le_ediv_of_mul_le hD (by rw [Int.mul_comm (t - f)]; omega)
      have g2 : (2 * (q : Int) * (t - f) + n) / (2 * n) < 1 := Int.ediv_lt_of_lt_mul hD (by omega)
      omega
/-- The q-th cell is the last one just if q is n, and the first one just if q is 0. -/
theorem cell_last {a b c d : Int} {q : Nat} (hq : q ≤ lng a b c d) : (cq a c (lng a b c d) q = c ∧ cq b d (lng a b c d) q = d) ↔ q = lng a b c d := by
  constructor
  · rintro ⟨h1, h2⟩
    rcases Nat.eq_zero_or_pos (lng a b c d) with h | h
    · omega
    · rcases lng_hit a b c d with g | g
      · rcases q_long (q := q) h g with k | k <;> omega
      · rcases q_long (q := q) h g with k | k <;> omega
  · intro h
    rw [h]
    exact ⟨q_end a c _ (lng_len a b c d).1, q_end b d _ (lng_len a b c d).2⟩
theorem cell_first {a b c d : Int} {q : Nat} (hq : q ≤ lng a b c d) : (cq a c (lng a b c d) q = a ∧ cq b d (lng a b c d) q = b) ↔ q = 0 := by
  constructor
  · rintro ⟨h1, h2⟩
    rcases Nat.eq_zero_or_pos (lng a b c d) with h | h
    · omega
    · rcases lng_hit a b c d with g | g
      · rcases q_long (q := q) h g with k | k <;> omega
      · rcases q_long (q := q) h g with k | k <;> omega
  · intro h
    rw [h]
    exact ⟨(q_zero a c _).1, (q_zero b d _).1⟩

end Go.Proofs.Ytljedkceicahaaa
