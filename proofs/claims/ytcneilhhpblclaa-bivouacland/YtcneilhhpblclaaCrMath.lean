/- Plain mathematics of craters: how much a hit lowers a corner; what many hits leave. -/
import Derived.Test.YtcneilhhpblclaaRelMath
namespace Go.Proofs.Ytcneilhhpblclaa
set_option linter.unusedVariables false

/-- A hit. -/
structure Ht where
  I : Int
  J : Int
  R : Int
  D : Int
/-- A corner's place that may be. -/
def Plc (i : Int) : Prop := -64 ≤ i ∧ i ≤ 128
instance (i : Int) : Decidable (Plc i) := by unfold Plc; exact inferInstance
/-- The hit may be. -/
def Ok9 (h : Ht) : Prop := 1 ≤ h.R ∧ h.R ≤ 8 ∧ 0 ≤ h.D ∧ h.D ≤ 255 ∧ Plc h.I ∧ Plc h.J
instance (h : Ht) : Decidable (Ok9 h) := by unfold Ok9; exact inferInstance
/-- The square of the way from the hit to the corner. -/
def sq (h : Ht) (i j : Int) : Int := (i - h.I) * (i - h.I) + (j - h.J) * (j - h.J)
/-- By how much a hit lowers a corner. -/
def lw (h : Ht) (i j : Int) : Int := if h.R * h.R ≤ sq h i j then 0 else h.D * (h.R * h.R - sq h i j) / (h.R * h.R)
/-- Lowers' answer. -/
def lo9 (h : Ht) (i j : Int) : Int := if Ok9 h ∧ Plc i ∧ Plc j then lw h i j else 0

theorem self_bd {x m : Int} (h1 : -m ≤ x) (h2 : x ≤ m) : 0 ≤ x * x ∧ x * x ≤ m * m := by
  rcases Int.le_total 0 x with h | h
  · exact ⟨Int.mul_nonneg h h, Int.mul_le_mul h2 h2 h (by omega)⟩
  · have e : x * x = (-x) * (-x) := by rw [Int.neg_mul_neg]
    rw [e]
    exact ⟨Int.mul_nonneg (by omega) (by omega), Int.mul_le_mul (by omega) (by omega) (by omega) (by omega)⟩
theorem self_far {x m : Int} (m0 : 0 ≤ m) (h : x ≤ -m ∨ m ≤ x) : m * m ≤ x * x := by
  rcases h with h | h
  · have e : x * x = (-x) * (-x) := by rw [Int.neg_mul_neg]
    rw [e]
    exact Int.mul_le_mul (by omega) (by omega) m0 (by omega)
  · exact Int.mul_le_mul h h m0 (by omega)
theorem sq_nonneg (h : Ht) (i j : Int) : 0 ≤ sq h i j := by
  have a : 0 ≤ (i - h.I) * (i - h.I) := by
    rcases Int.le_total 0 (i - h.I) with q | q
    · exact Int.mul_nonneg q q
    · rw [← Int.neg_mul_neg]; exact Int.mul_nonneg (by omega) (by omega)
  have b : 0 ≤ (j - h.J) * (j - h.J) := by
    rcases Int.le_total 0 (j - h.J) with q | q
    · exact Int.mul_nonneg q q
    · rw [← Int.neg_mul_neg]; exact Int.mul_nonneg (by omega) (by omega)
  unfold sq; omega
theorem lw_bd {h : Ht} (ho : Ok9 h) (i j : Int) : 0 ≤ lw h i j ∧ lw h i j ≤ h.D := by
  obtain ⟨r1, r2, d0, d1, _, _⟩ := ho
  have hs := sq_nonneg h i j
  have hr : 0 < h.R * h.R := Int.mul_pos (by omega) (by omega)
  unfold lw
  split
  · omega
  · rename_i hc
    constructor
    · exact Int.ediv_nonneg (Int.mul_nonneg d0 (by omega)) (by omega)
    · refine Int.ediv_le_of_le_mul hr ?_
      exact Int.mul_le_mul_of_nonneg_left (by omega) d0
/-- Corners that are too far off stay. -/
theorem lw_out {h : Ht} (r0 : 0 ≤ h.R) {i j : Int} (hf : i - h.I ≤ -h.R ∨ h.R ≤ i - h.I ∨ j - h.J ≤ -h.R ∨ h.R ≤ j - h.J) : lw h i j = 0 := by
  have a : 0 ≤ (i - h.I) * (i - h.I) := by
    rcases Int.le_total 0 (i - h.I) with q | q
    · exact Int.mul_nonneg q q
    · rw [← Int.neg_mul_neg]; exact Int.mul_nonneg (by omega) (by omega)
  have b : 0 ≤ (j - h.J) * (j - h.J) := by
    rcases Int.le_total 0 (j - h.J) with q | q
    · exact Int.mul_nonneg q q
    · rw [← Int.neg_mul_neg]; exact Int.mul_nonneg (by omega) (by omega)
  have c : h.R * h.R ≤ sq h i j := by
    unfold sq
    rcases hf with q | q | q | q
    · have := self_far r0 (.inl q); omega
    · have := self_far r0 (.inr q); omega
    · have := self_far r0 (.inl q); omega
    · have := self_far r0 (.inr q); omega
  unfold lw
  rw [if_pos c]
/-- A corner that is farther off is lowered no more. -/
theorem lw_far {h : Ht} (ho : Ok9 h) {i j k l : Int} (hs : sq h i j ≤ sq h k l) : lw h k l ≤ lw h i j := by
  obtain ⟨r1, r2, d0, d1, _, _⟩ := id ho
  have hr : 0 < h.R * h.R := Int.mul_pos (by omega) (by omega)
  by_cases c : h.R * h.R ≤ sq h k l
  · have : lw h k l = 0 := by unfold lw; rw [if_pos c]
    rw [this]; exact (lw_bd ho i j).1
  · unfold lw
    rw [if_neg c, if_neg (by omega)]
    exact Int.ediv_le_ediv hr (Int.mul_le_mul_of_nonneg_left (by omega) d0)
theorem sq_right (h : Ht) {i : Int} (j : Int) (hi : h.I ≤ i) : sq h i j ≤ sq h (i + 1) j := by
  have : (i - h.I) * (i - h.I) ≤ (i + 1 - h.I) * (i + 1 - h.I) := Int.mul_le_mul (by omega) (by omega) (by omega) (by omega)
  unfold sq; omega
theorem sq_down (h : Ht) (i : Int) {j : Int} (hj : j ≤ h.J) : sq h i j ≤ sq h i (j - 1) := by
  have e : (j - h.J) * (j - h.J) = (h.J - j) * (h.J - j) := by rw [← Int.neg_mul_neg]; congr 1 <;> omega
  have f : (j - 1 - h.J) * (j - 1 - h.J) = (h.J - j + 1) * (h.J - j + 1) := by rw [← Int.neg_mul_neg]; congr 1 <;> omega
  have : (h.J - j) * (h.J - j) ≤ (h.J - j + 1) * (h.J - j + 1) := Int.mul_le_mul (by omega) (by omega) (by omega) (by omega)
  unfold sq; omega

/-- By how much the first n hits lower a corner together, if it is high enough. -/
def drp (hs : Nat → Ht) (i j : Int) : Nat → Nat
  | 0 => 0
  | n + 1 => drp hs i j n + (lw (hs n) i j).toNat
/-- The corners behind n hits; s: corners a row. -/
def fell (p : Nat → Nat) (s : Nat) (hs : Nat → Ht) (n k : Nat) : Nat := p k - drp hs ((k % s : Nat) : Int) ((k / s : Nat) : Int) n
theorem fell_zero (p : Nat → Nat) (s : Nat) (hs : Nat → Ht) (k : Nat) : fell p s hs 0 k = p k := rfl
theorem fell_succ (p : Nat → Nat) (s : Nat) (hs : Nat → Ht) (n k : Nat) : fell p s hs (n + 1) k = fell p s hs n k - (lw (hs n) ((k % s : Nat) : Int) ((k / s : Nat) : Int)).toNat := by
  unfold fell; rw [drp]; omega
theorem fell_le (p : Nat → Nat) (s : Nat) (hs : Nat → Ht) (n k : Nat) : fell p s hs n k ≤ p k := by unfold fell; omega
theorem drp_congr {hs gs : Nat → Ht} (i j : Int) : ∀ {n : Nat}, (∀ q, q < n → hs q = gs q) → drp hs i j n = drp gs i j n
  | 0, _ => rfl
  | n + 1, h => by rw [drp, drp, drp_congr i j (fun q hq => h q (by omega)), h n (by omega)]
/-- A first hit comes to the same as one among the others. -/
theorem drp_cons (hs : Nat → Ht) (i j : Int) : ∀ n, drp hs i j (n + 1) = (lw (hs 0) i j).toNat + drp (fun q => hs (q + 1)) i j n
  | 0 => by simp [drp]
  | n + 1 => by rw [drp, drp_cons hs i j n]; simp only [drp]; omega
/-- Backwards it is the same. -/
theorem drp_back (i j : Int) : ∀ (n : Nat) (hs : Nat → Ht), drp (fun q => hs (n - 1 - q)) i j n = drp hs i j n
  | 0, _ => rfl
  | n + 1, hs => by
    rw [drp_cons (fun q => hs (n + 1 - 1 - q)) i j n]
    have e : drp (fun q => hs (n + 1 - 1 - (q + 1))) i j n = drp hs i j n := by
      rw [drp_congr (gs := fun q => hs (n - 1 - q)) i j (fun q hq => by show hs _ = hs _; congr 1; omega)]
      exact drp_back i j n hs
    rw [e, drp]
    show (lw (hs (n + 1 - 1 - 0)) i j).toNat + _ = _
    have : n + 1 - 1 - 0 = n := by omega
    rw [this]; omega

/-- While a hit is dug: which corners have been lowered when row j has come, and column i of it. -/
def Dug (s : Nat) (l r b j i : Int) (k : Nat) : Prop := b ≤ ((k / s : Nat) : Int) ∧ l ≤ ((k % s : Nat) : Int) ∧ ((k % s : Nat) : Int) ≤ r ∧ (((k / s : Nat) : Int) < j ∨ ((k / s : Nat) : Int) = j ∧ ((k % s : Nat) : Int) < i)
instance (s : Nat) (l r b j i : Int) (k : Nat) : Decidable (Dug s l r b j i k) := by unfold Dug; exact inferInstance
def dug (p L : Nat → Nat) (s : Nat) (l r b j i : Int) (k : Nat) : Nat := if Dug s l r b j i k then p k - L k else p k
theorem dug_start (p L : Nat → Nat) (s : Nat) (l r b : Int) (k : Nat) : dug p L s l r b b l k = p k := by
  unfold dug; rw [if_neg (by unfold Dug; omega)]
theorem dug_row (p L : Nat → Nat) (s : Nat) (l r b j i : Int) (hi : r < i) (hj : b ≤ j) (k : Nat) : dug p L s l r b j i k = dug p L s l r b (j + 1) l k := by
  unfold dug
  by_cases h : Dug s l r b j i k
  · rw [if_pos h, if_pos (by unfold Dug at *; omega)]
  · rw [if_neg h, if_neg (by unfold Dug at *; omega)]
theorem col_row {s j i : Nat} (hi : i < s) : (s * j + i) % s = i ∧ (s * j + i) / s = j := by
  constructor
  · rw [Nat.mul_add_mod]; exact Nat.mod_eq_of_lt hi
  · rw [Nat.mul_add_div (by omega), Nat.div_eq_of_lt hi]; rfl
theorem dug_same (p L : Nat → Nat) (s j i : Nat) (l r b : Int) (hi : i < s) : dug p L s l r b (j : Int) (i : Int) (s * j + i) = p (s * j + i) := by
  unfold dug
  obtain ⟨e1, e2⟩ := col_row (j := j) hi
  rw [if_neg]
  unfold Dug
  rw [e1, e2]
  omega
theorem dug_step (p L : Nat → Nat) (s j i k : Nat) (l r b : Int) (hi : i < s) (h1 : l ≤ (i : Int)) (h2 : (i : Int) ≤ r) (h3 : b ≤ (j : Int)) :
    dug p L s l r b (j : Int) ((i : Int) + 1) k = if k = s * j + i then p k - L k else dug p L s l r b (j : Int) (i : Int) k := by
  obtain ⟨e1, e2⟩ := col_row (j := j) hi
  by_cases hk : k = s * j + i
  · subst hk
    rw [if_pos rfl]
    unfold dug
    rw [if_pos]
    unfold Dug
    rw [e1, e2]
    omega
  · rw [if_neg hk]
    have hne : ¬ (k / s = j ∧ k % s = i) := by
      rintro ⟨a, c⟩
      apply hk
      have := Nat.div_add_mod k s
      rw [a, c] at this
      omega
    have e : Dug s l r b (j : Int) ((i : Int) + 1) k ↔ Dug s l r b (j : Int) (i : Int) k := by
      unfold Dug
      generalize k / s = u at *
      generalize k % s = v at *
      omega
    unfold dug
    by_cases h : Dug s l r b (j : Int) (i : Int) k
    · rw [if_pos h, if_pos (e.2 h)]
    · rw [if_neg h, if_neg (fun h' => h (e.1 h'))]
/-- All is dug. -/
theorem dug_done (p : Nat → Nat) (s n : Nat) (h : Ht) (W H l r b t j : Int) (ho : Ok9 h) (hs : (s : Int) = W + 1) (s0 : 0 < s) (hn : (n : Int) = (W + 1) * (H + 1)) (el : l = max 0 (h.I - h.R + 1)) (er : r = min W (h.I + h.R - 1)) (eb : b = max 0 (h.J - h.R + 1)) (et : t = min H (h.J + h.R - 1)) (hj : t < j) (k : Nat) (hk : k < n) :
    dug p (fun k => (lw h ((k % s : Nat) : Int) ((k / s : Nat) : Int)).toNat) s l r b j l k = p k - (lw h ((k % s : Nat) : Int) ((k / s : Nat) : Int)).toNat := by
  have a1 : k % s < s := Nat.mod_lt _ s0
  have hH : 0 ≤ H + 1 := by
    rcases Int.lt_or_le (H + 1) 0 with q | q
    · exfalso
      have : (W + 1) * (H + 1) ≤ 0 := Int.mul_nonpos_of_nonneg_of_nonpos (by omega) (by omega)
      omega
    · exact q
  have a2 : k / s < (H + 1).toNat := by
    apply Nat.div_lt_of_lt_mul
    have : ((s * (H + 1).toNat : Nat) : Int) = (n : Int) := by
      rw [hn, Int.natCast_mul, hs]
      congr 1
      omega
    omega
  unfold dug
  by_cases hd : Dug s l r b j l k
  · rw [if_pos hd]
  · rw [if_neg hd]
    have : lw h ((k % s : Nat) : Int) ((k / s : Nat) : Int) = 0 := by
      obtain ⟨r1, r2, _⟩ := ho
      apply lw_out (by omega)
      unfold Dug at hd
      clear hn hk
      generalize k / s = u at *
      generalize k % s = v at *
      omega
    rw [this]; rfl

end Go.Proofs.Ytcneilhhpblclaa
