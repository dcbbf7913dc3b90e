/- Plain mathematics of the float64 of IEEE 754, over the model's own core: no Go program in sight. A finite float is a whole number of units of 2^-1200. -/
import Derived.WalkKit
import Derived.Laws.FloatArith
namespace Go.Proofs.Ytpgifcgidelmaaa
open Ieee
set_option linter.unusedVariables false

/-- 2^k, in units of 2^-1200. -/
theorem pw_there : ∃ f : Int → Nat, ∀ k, f k = 2 ^ (k + 1200).toNat := ⟨_, fun _ => rfl⟩
/-- (Taken by choice: nothing unfolds it.) -/
noncomputable def pw : Int → Nat := Classical.choose pw_there
theorem pw_eq (k : Int) : pw k = 2 ^ (k + 1200).toNat := Classical.choose_spec pw_there k
theorem pw_pos (k : Int) : 0 < pw k := by rw [pw_eq]; exact Nat.two_pow_pos _
theorem pw_add (k : Int) (n : Nat) (h : -1200 ≤ k) : pw (k + n) = pw k * 2 ^ n := by
  rw [pw_eq, pw_eq, ← Nat.pow_add]; congr 1; omega
theorem pw_at (j k : Int) (n : Nat) (h : k = j + n) (hj : -1200 ≤ j) : pw k = pw j * 2 ^ n := by rw [h]; exact pw_add j n hj
theorem pw_mono {j k : Int} (h : j ≤ k) : pw j ≤ pw k := by rw [pw_eq, pw_eq]; exact Nat.pow_le_pow_right (by decide) (by omega)
theorem pw_split {j k : Int} (hj : -1200 ≤ j) (h : j ≤ k) : pw k = pw j * 2 ^ (k - j).toNat := by
  rw [← pw_add j _ hj]; congr 1; omega

/-- The number of a sign, a magnitude and a place, in units. -/
noncomputable def val (s : Bool) (m : Nat) (i : Int) : Int := if s then -((m * pw i : Nat) : Int) else ((m * pw i : Nat) : Int)
theorem signed_eq (s : Bool) (m u : Nat) : signed s m u = if s then -((m * 2 ^ u : Nat) : Int) else ((m * 2 ^ u : Nat) : Int) := by
  unfold signed; rw [Nat.shiftLeft_eq]
theorem val_signed (s : Bool) (m : Nat) (i base : Int) (hb : -1200 ≤ base) (hi : base ≤ i) : val s m i = signed s m (i - base).toNat * (pw base : Int) := by
  rw [signed_eq, val, pw_split hb hi]
  cases s
  · simp only [Bool.false_eq_true, if_false]
    rw [← Int.natCast_mul]; congr 1; grind
  · simp only [if_true]
    rw [Int.neg_mul, ← Int.natCast_mul]; congr 2; grind
theorem val_natAbs (s : Bool) (m : Nat) (i : Int) : (val s m i).natAbs = m * pw i := by
  unfold val; cases s
  · simp only [Bool.false_eq_true, if_false]; omega
  · simp only [if_true]; omega

/-- The float of these bits is finite, and it is z units. -/
def IsF (b : Nat) (z : Int) : Prop := ∃ s m i, double.read b = .number s m i ∧ val s m i = z ∧ m < 2 ^ 53 ∧ -1074 ≤ i ∧ i ≤ 971

theorem read_lim {b : Nat} {s : Bool} {m : Nat} {i : Int} (h : double.read b = .number s m i) : m < 2 ^ 53 ∧ -1074 ≤ i ∧ i ≤ 971 ∧ (m < 2 ^ 52 → i = -1074) := by
  unfold Format.read at h
  have e1 : double.binade = 4503599627370496 := by decide
  have e2 : double.infRung = 9218868437227405312 := by decide
  have e3 : double.signWeight = 9223372036854775808 := by decide
  have e4 : double.leastPlace = -1074 := by decide
  rw [e1, e2, e3, e4] at h
  dsimp only at h
  generalize b % 9223372036854775808 = r at h
  split at h
  · injection h with h1 h2 h3; omega
  · split at h
    · injection h with h1 h2 h3; omega
    · split at h <;> cases h
theorem isF_of_read {b : Nat} {s : Bool} {m : Nat} {i : Int} (h : double.read b = .number s m i) : IsF b (val s m i) := by
  have := read_lim h
  exact ⟨s, m, i, h, rfl, this.1, this.2.1, this.2.2.1⟩

theorem compare_mul (x y : Int) (c : Nat) (hc : 0 < c) : compare (x * (c : Int)) (y * (c : Int)) = compare x y := by
  have hc' : (0 : Int) < c := by omega
  have h1 : x * (c : Int) < y * (c : Int) ↔ x < y := ⟨fun h => Int.lt_of_mul_lt_mul_right h (by omega), fun h => Int.mul_lt_mul_of_pos_right h hc'⟩
  have h2 : x * (c : Int) = y * (c : Int) ↔ x = y := ⟨fun h => Int.eq_of_mul_eq_mul_right (by omega) h, fun h => by rw [h]⟩
  simp only [compare, compareOfLessAndEq, h1, h2]

theorem order_is {a b : Nat} {x y : Int} (ha : IsF a x) (hb : IsF b y) : double.order a b = some (compare x y) := by
  obtain ⟨s, m, i, ra, rfl, -, hi, -⟩ := ha
  obtain ⟨t, n, j, rb, rfl, -, hj, -⟩ := hb
  unfold Format.order
  rw [ra, rb]
  unfold Datum.order
  dsimp only
  rw [val_signed s m i (min i j) (by omega) (by omega), val_signed t n j (min i j) (by omega) (by omega), compare_mul _ _ _ (pw_pos _)]

theorem cmp_lt (x y : Int) : (some (compare x y) == some Ordering.lt) = decide (x < y) := by
  simp only [compare, compareOfLessAndEq]
  by_cases h : x < y
  · simp [h]
  · by_cases g : x = y <;> simp [h, g]
theorem cmp_eq (x y : Int) : (some (compare x y) == some Ordering.eq) = decide (x = y) := by
  simp only [compare, compareOfLessAndEq]
  by_cases h : x < y
  · have : ¬ x = y := by omega
    simp [h, this]
  · by_cases g : x = y <;> simp [h, g]
theorem cmp_gt (x y : Int) : (some (compare x y) == some Ordering.gt) = decide (y < x) := by
  simp only [compare, compareOfLessAndEq]
  by_cases h : x < y
  · have : ¬ y < x := by omega
    simp [h, this]
  · by_cases g : x = y
    · simp [g]
    · have : y < x := by omega
      simp [h, g, this]

/-- The six comparisons of two finite floats. -/
theorem lt_is {a b : Nat} {x y : Int} (ha : IsF a x) (hb : IsF b y) : (FloatKind.f64.format.order a b == some .lt) = decide (x < y) := by
  show (double.order a b == some .lt) = _
  rw [order_is ha hb, cmp_lt]
theorem eq_is {a b : Nat} {x y : Int} (ha : IsF a x) (hb : IsF b y) : (FloatKind.f64.format.order a b == some .eq) = decide (x = y) := by
  show (double.order a b == some .eq) = _
  rw [order_is ha hb, cmp_eq]
theorem gt_is {a b : Nat} {x y : Int} (ha : IsF a x) (hb : IsF b y) : (FloatKind.f64.format.order a b == some .gt) = decide (y < x) := by
  show (double.order a b == some .gt) = _
  rw [order_is ha hb, cmp_gt]

/-- What the cut to the nearest even gives. -/
theorem cut_even (s : Bool) (n drop : Nat) : n / 2 ^ drop ≤ Toward.even.cut s n drop ∧ Toward.even.cut s n drop ≤ n / 2 ^ drop + 1 ∧ (n % 2 ^ drop = 0 → Toward.even.cut s n drop = n / 2 ^ drop) := by
  unfold Toward.cut
  dsimp only
  rw [Nat.shiftLeft_eq, Nat.one_mul]
  by_cases hd : drop ≤ n.log2 + 2
  · rw [Nat.min_eq_left hd]
    have hp : 0 < 2 ^ drop := Nat.two_pow_pos _
    generalize 2 ^ drop = g at *
    refine ⟨Nat.le_add_right _ _, Nat.add_le_add_left (Bool.toNat_le _) _, ?_⟩
    intro h
    rw [h]
    have : ¬ g < 2 * 0 := by omega
    have h2 : (g == 2 * 0) = false := by simp; omega
    simp [h2]
  · have hlt : n < 2 ^ (n.log2 + 1) := Nat.lt_log2_self
    have h2 : 2 ^ (n.log2 + 2) = 2 * 2 ^ (n.log2 + 1) := by rw [Nat.pow_succ]; omega
    have h3 : n < 2 ^ drop := Nat.lt_of_lt_of_le hlt (Nat.pow_le_pow_right (by decide) (by omega))
    rw [Nat.min_eq_right (by omega), h2]
    generalize 2 ^ (n.log2 + 1) = g at *
    rw [Nat.div_eq_of_lt h3, Nat.div_eq_of_lt (by omega : n < 2 * g), Nat.mod_eq_of_lt (by omega : n < 2 * g)]
    have h4 : ¬ 2 * g < 2 * n := by omega
    have h5 : (2 * g == 2 * n) = false := by simp; omega
    simp [h4, h5]

/-- The number of a word that lies p binades above the least place, with K of its units. -/
theorem read_word (s : Bool) (p K : Nat) (hp : p ≤ 2045) (hK : K < 2 ^ 53 ∨ (K = 2 ^ 53 ∧ p ≤ 2044)) (hn : p = 0 ∨ 2 ^ 52 ≤ K) :
    IsF (double.word s (min (p * double.binade + K) double.infRung)) (val s K (p - 1074)) := by
  have e1 : double.binade = 4503599627370496 := by decide
  have e2 : double.infRung = 9218868437227405312 := by decide
  have e3 : double.signWeight = 9223372036854775808 := by decide
  have e4 : double.leastPlace = -1074 := by decide
  have hr : ∃ m i, double.read (double.word s (min (p * double.binade + K) double.infRung)) = .number s m i ∧ val s m i = val s K (p - 1074) := by
    unfold Format.read Format.word
    rw [e1, e2, e3, e4]
    have hm : min (p * 4503599627370496 + K) 9218868437227405312 = p * 4503599627370496 + K := by omega
    rw [hm]
    have hneg : ((if s then 9223372036854775808 + (p * 4503599627370496 + K) else p * 4503599627370496 + K) / 9223372036854775808 % 2 == 1) = s := by
      cases s
      · simp only [Bool.false_eq_true, if_false]
        have : (p * 4503599627370496 + K) / 9223372036854775808 % 2 = 0 := by omega
        rw [this]; rfl
      · simp only [if_true]
        have : (9223372036854775808 + (p * 4503599627370496 + K)) / 9223372036854775808 % 2 = 1 := by omega
        rw [this]; rfl
    have hrung : (if s then 9223372036854775808 + (p * 4503599627370496 + K) else p * 4503599627370496 + K) % 9223372036854775808 = p * 4503599627370496 + K := by
      cases s
      · simp only [Bool.false_eq_true, if_false]; omega
      · simp only [if_true]; omega
    dsimp only
    rw [hneg, hrung]
    by_cases h1 : p * 4503599627370496 + K < 4503599627370496
    · have hp0 : p = 0 := by omega
      subst hp0
      refine ⟨K, -1074, ?_, ?_⟩
      · rw [if_pos h1]; simp
      · congr 1
    · rw [if_neg h1, if_pos (by omega)]
      rcases hK with hK | ⟨hK, hp2⟩
      · by_cases hK2 : K < 4503599627370496
        · omega
        · refine ⟨_, _, rfl, ?_⟩
          have a1 : 4503599627370496 + (p * 4503599627370496 + K) % 4503599627370496 = K := by omega
          have a2 : (-1074 : Int) + (((p * 4503599627370496 + K) / 4503599627370496 - 1 : Nat) : Int) = (p : Int) - 1074 := by omega
          rw [a1, a2]
      · refine ⟨_, _, rfl, ?_⟩
        have a1 : 4503599627370496 + (p * 4503599627370496 + K) % 4503599627370496 = 4503599627370496 := by omega
        have a2 : (-1074 : Int) + (((p * 4503599627370496 + K) / 4503599627370496 - 1 : Nat) : Int) = (p : Int) - 1074 + (1 : Nat) := by omega
        rw [a1, a2]
        unfold val
        rw [pw_add _ _ (by omega), hK]
        have a3 : 4503599627370496 * (pw (↑p - 1074) * 2 ^ 1) = 2 ^ 53 * pw (↑p - 1074) := by omega
        rw [a3]
  obtain ⟨m, i, h1, h2⟩ := hr
  rw [← h2]
  exact isF_of_read h1

theorem log2_mul_pow (m k : Nat) (h : 0 < m) : (m * 2 ^ k).log2 = m.log2 + k := by
  have h1 : 2 ^ m.log2 ≤ m := Nat.log2_self_le (by omega)
  have h2 : m < 2 ^ (m.log2 + 1) := Nat.lt_log2_self
  have h3 : 0 < 2 ^ k := Nat.two_pow_pos k
  have h4 : 0 < m * 2 ^ k := Nat.mul_pos h h3
  apply Nat.le_antisymm
  · apply Nat.le_of_lt_succ
    rw [Nat.log2_lt (by omega)]
    have : 2 ^ (m.log2 + k).succ = 2 ^ (m.log2 + 1) * 2 ^ k := by rw [← Nat.pow_add]; congr 1; omega
    rw [this]
    exact Nat.mul_lt_mul_of_pos_right h2 h3
  · rw [Nat.le_log2 (by omega), Nat.pow_add]
    exact Nat.mul_le_mul_right _ h1

/-- THE ROUNDING: the word nearest to 'mag * 2^place' is K units of its last place, which is as the exponent says; K lies as it must. -/
theorem nearest_is (s : Bool) (mag : Nat) (place : Int) (hm : 0 < mag) (hE : place + mag.log2 ≤ 1000) :
    ∃ K : Nat, IsF (double.nearest s mag place) (val s K (max (place + mag.log2 - 52) (-1074))) ∧ K ≤ 2 ^ 53 ∧ (-1022 ≤ place + mag.log2 → 2 ^ 52 ≤ K) ∧
      (max (place + mag.log2 - 52) (-1074) ≤ place → K = mag * 2 ^ (place - max (place + mag.log2 - 52) (-1074)).toNat) ∧
      (∀ q, place ≤ max (place + mag.log2 - 52) (-1074) → mag = q * 2 ^ (max (place + mag.log2 - 52) (-1074) - place).toNat → K = q) := by
  have e4 : double.leastPlace = -1074 := by decide
  have e5 : (double.fractionBits : Int) = 52 := rfl
  unfold Format.nearest
  rw [if_neg (by omega), e4, e5]
  dsimp only
  generalize hL : max (place + (mag.log2 : Int) - 52) (-1074) = L
  have h1 : 2 ^ mag.log2 ≤ mag := Nat.log2_self_le (by omega)
  have h2 : mag < 2 ^ (mag.log2 + 1) := Nat.lt_log2_self
  rw [Nat.shiftLeft_eq]
  obtain ⟨c1, c2, c3⟩ := cut_even s (mag * 2 ^ (place - L).toNat) (L - place).toNat
  generalize hK : Toward.even.cut s (mag * 2 ^ (place - L).toNat) (L - place).toNat = K at *
  have up : K ≤ 2 ^ 53 := by
    refine Nat.le_trans c2 ?_
    apply Nat.succ_le_of_lt
    rw [Nat.div_lt_iff_lt_mul (Nat.two_pow_pos _), ← Nat.pow_add]
    refine Nat.lt_of_lt_of_le (Nat.mul_lt_mul_of_pos_right h2 (Nat.two_pow_pos _)) ?_
    rw [← Nat.pow_add]
    exact Nat.pow_le_pow_right (by decide) (by omega)
  have lo : -1022 ≤ place + mag.log2 → 2 ^ 52 ≤ K := by
    intro hh
    refine Nat.le_trans ?_ c1
    rw [Nat.le_div_iff_mul_le (Nat.two_pow_pos _), ← Nat.pow_add]
    refine Nat.le_trans ?_ (Nat.mul_le_mul_right _ h1)
    rw [← Nat.pow_add]
    exact Nat.pow_le_pow_right (by decide) (by omega)
  refine ⟨K, ?_, up, lo, ?_, ?_⟩
  · have hpL : ∃ p : Nat, L = (p : Int) - 1074 := ⟨(L + 1074).toNat, by omega⟩
    obtain ⟨p, hp⟩ := hpL
    have hp2 : (L - -1074).toNat = p := by omega
    rw [hp2, hp]
    refine read_word s p K (by omega) ?_ ?_
    · rcases Nat.lt_or_eq_of_le up with h | h
      · exact .inl h
      · exact .inr ⟨h, by omega⟩
    · by_cases hh : -1022 ≤ place + mag.log2
      · exact .inr (lo hh)
      · left; omega
  · intro hh
    have z : (L - place).toNat = 0 := by omega
    rw [z] at c3
    have := c3 (by simp [Nat.mod_one])
    rw [this]; simp
  · intro q hh hq
    have z : (place - L).toNat = 0 := by omega
    rw [z] at c3
    have hd : mag * 2 ^ 0 = q * 2 ^ (L - place).toNat := by rw [Nat.pow_zero, Nat.mul_one]; exact hq
    rw [hd] at c3
    rw [c3 (Nat.mul_mod_left _ _), Nat.mul_div_cancel _ (Nat.two_pow_pos _)]

/-- A number of units that a float64 has. -/
def Rep (z : Int) : Prop := ∃ (M : Nat) (P : Int), z.natAbs = M * pw P ∧ M < 2 ^ 53 ∧ -1074 ≤ P ∧ P ≤ 900

theorem nearest_zero (s : Bool) (place : Int) : IsF (double.nearest s 0 place) 0 := by
  have h : double.nearest s 0 place = double.word s 0 := by unfold Format.nearest; rw [if_pos rfl]
  rw [h]
  have := read_word s 0 0 (by omega) (.inl (by decide)) (.inl rfl)
  simp [val] at this
  exact this

theorem write_rep (s : Bool) (mag : Nat) (place : Int) (hp : -1200 ≤ place) (h : Rep (val s mag place)) : IsF (double.write (.number s mag place)) (val s mag place) := by
  show IsF (double.nearest s mag place) _
  rcases Nat.eq_zero_or_pos mag with h0 | hm
  · subst h0
    have := nearest_zero s place
    have hv : val s 0 place = 0 := by simp [val]
    rw [hv]; exact this
  · obtain ⟨M, P, hz, hM, hP1, hP2⟩ := h
    rw [val_natAbs] at hz
    have hMp : 0 < M := by
      rcases Nat.eq_zero_or_pos M with h0 | h0
      · subst h0
        have : 0 < mag * pw place := Nat.mul_pos hm (pw_pos _)
        omega
      · exact h0
    have hl : place + mag.log2 = P + M.log2 := by
      have := congrArg Nat.log2 hz
      rw [pw_eq, pw_eq] at this
      rw [log2_mul_pow _ _ hm, log2_mul_pow _ _ hMp] at this
      omega
    have hM2 : M.log2 ≤ 52 := by
      have : M.log2 < 53 := by rw [Nat.log2_lt (by omega)]; exact hM
      omega
    obtain ⟨K, hK, -, -, k1, k2⟩ := nearest_is s mag place hm (by omega)
    generalize hL : max (place + (mag.log2 : Int) - 52) (-1074) = L at *
    have hLP : L ≤ P := by omega
    have hKv : K * pw L = mag * pw place := by
      by_cases hc : L ≤ place
      · rw [k1 hc, pw_split (by omega) hc, Nat.mul_comm (pw L), Nat.mul_assoc]
      · have : mag = M * 2 ^ (P - L).toNat * 2 ^ (L - place).toNat := by
          rw [pw_split (k := P) hp (by omega)] at hz
          have e : (P - place).toNat = (P - L).toNat + (L - place).toNat := by omega
          rw [e, Nat.pow_add] at hz
          have hz' : mag * pw place = M * 2 ^ (P - L).toNat * 2 ^ (L - place).toNat * pw place := by
            rw [hz]; grind
          exact Nat.eq_of_mul_eq_mul_right (pw_pos place) hz'
        rw [k2 _ (by omega) this, hz, pw_split (k := P) (by omega) hLP]
        grind
    have : val s K L = val s mag place := by unfold val; rw [hKv]
    rw [← this]; exact hK

theorem isF_rep {b : Nat} {z : Int} (h : IsF b z) (hz : z.natAbs < pw 100) : Rep z := by
  obtain ⟨s, m, i, -, rfl, hm, h1, h2⟩ := h
  rw [val_natAbs] at hz
  rcases Nat.eq_zero_or_pos m with h0 | h0
  · exact ⟨0, 0, by rw [val_natAbs, h0]; simp, by decide, by omega, by omega⟩
  · refine ⟨m, i, val_natAbs _ _ _, hm, h1, ?_⟩
    by_cases hi : i < 100
    · omega
    · have : pw 100 ≤ pw i := pw_mono (by omega)
      have : 1 * pw i ≤ m * pw i := Nat.mul_le_mul_right _ h0
      omega

theorem rep_mul (v : Int) (k : Int) (hv : v.natAbs < 2 ^ 53) (h1 : -1074 ≤ k) (h2 : k ≤ 900) : Rep (v * (pw k : Int)) :=
  ⟨v.natAbs, k, by rw [Int.natAbs_mul, Int.natAbs_natCast], hv, h1, h2⟩

/-- float64(v) of a number that is not too great. -/
theorem ofInt_is (v : Int) (hv : v.natAbs < 2 ^ 53) : IsF (floatOfInt .f64 v) (v * (pw 0 : Int)) := by
  have hval : val (decide (v < 0)) v.natAbs 0 = v * (pw 0 : Int) := by
    unfold val
    by_cases h : v < 0
    · simp only [h, decide_true, if_true]
      rw [Int.natCast_mul, ← Int.neg_mul]; congr 1; omega
    · simp only [h, decide_false, Bool.false_eq_true, if_false]
      rw [Int.natCast_mul]; congr 1; omega
  have := write_rep (decide (v < 0)) v.natAbs 0 (by omega) (by rw [hval]; exact rep_mul v 0 hv (by omega) (by omega))
  rw [hval] at this
  exact this

/-- 65536.0 and 0.5, and what else the text names. -/
theorem c65536 : double.read 4679240012837945344 = .number false 4503599627370496 (-36) := by decide +kernel

/-- f * 65536, exact. -/
theorem mul_is {b : Nat} {z : Int} (h : IsF b z) (hz : z.natAbs < pw 80) : ∃ r, floatBits .mul .f64 b 4679240012837945344 = some r ∧ IsF r (65536 * z) := by
  have hR : Rep (65536 * z) := by
    obtain ⟨M, P, e, h1, h2, h3⟩ := isF_rep h (Nat.lt_of_lt_of_le hz (pw_mono (by omega)))
    rcases Nat.eq_zero_or_pos M with h0 | h0
    · refine ⟨0, 0, ?_, by decide, by omega, by omega⟩
      subst h0; omega
    · refine ⟨M, P + (16 : Nat), ?_, h1, by omega, ?_⟩
      · rw [pw_add _ _ (by omega), Int.natAbs_mul, e]; grind
      · by_cases hi : P < 80
        · omega
        · have : pw 80 ≤ pw P := pw_mono (by omega)
          have : 1 * pw P ≤ M * pw P := Nat.mul_le_mul_right _ h0
          omega
  obtain ⟨s, m, i, hr, hv, hm, h1, h2⟩ := h
  have hval : val (s ^^ false) (m * 4503599627370496) (i + -36) = 65536 * z := by
    rw [← hv]
    have e : i = (i + -36) + (36 : Nat) := by omega
    have e2 : m * pw i = m * (pw (i + -36) * 2 ^ 36) := by
      rw [← pw_add _ _ (by omega), ← e]
    unfold val
    rw [e2]
    have e3 : m * 4503599627370496 * pw (i + -36) = 65536 * (m * (pw (i + -36) * 2 ^ 36)) := by grind
    rw [e3, Bool.xor_false]
    cases s
    · simp only [Bool.false_eq_true, if_false]; omega
    · simp only [if_true]; omega
  refine ⟨double.write (.number (s ^^ false) (m * 4503599627370496) (i + -36)), ?_, ?_⟩
  · show double.mul b 4679240012837945344 = _
    unfold Format.mul
    rw [hr, c65536]
    rfl
  · have := write_rep (s ^^ false) (m * 4503599627370496) (i + -36) (by omega) (by rw [hval]; exact hR)
    rw [hval] at this
    exact this

/-- x / 65536, exact where the answer is a float's. -/
theorem div_is {b : Nat} {z y : Int} (h : IsF b z) (hz : z = 65536 * y) (hR : Rep y) : ∃ r, floatBits .quo .f64 b 4679240012837945344 = some r ∧ IsF r y := by
  obtain ⟨s, m, i, hr, hv, hm, h1, h2⟩ := h
  have hl : m.log2 ≤ 52 := by
    rcases Nat.eq_zero_or_pos m with h0 | h0
    · subst h0; decide
    · have : m.log2 < 53 := by rw [Nat.log2_lt (by omega)]; exact hm
      omega
  have hq : Datum.quotient 54 (.number s m i) (.number false 4503599627370496 (-36)) = some (.number (s ^^ false) (2 * (m * 2 ^ (54 - m.log2))) (i + 36 - (106 - m.log2 : Nat) - 1)) := by
    have e0 : (4503599627370496 : Nat).log2 = 52 := by decide +kernel
    unfold Datum.quotient
    simp only [Nat.reduceEqDiff, if_false, e0]
    have e1 : 54 + 52 - m.log2 = (54 - m.log2) + 52 := by omega
    have e2 : m <<< (54 + 52 - m.log2) = m * 2 ^ (54 - m.log2) * 4503599627370496 := by
      rw [Nat.shiftLeft_eq, e1, Nat.pow_add, ← Nat.mul_assoc]
    rw [e2, Nat.mul_div_cancel _ (by decide), Nat.mul_mod_left]
    have e3 : (0 != (0 : Nat)).toNat = 0 := rfl
    rw [e3]
    have e4 : i - -36 - ((54 + 52 - m.log2 : Nat) : Int) - 1 = i + 36 - (106 - m.log2 : Nat) - 1 := by omega
    rw [e4]; rfl
  have hval : val (s ^^ false) (2 * (m * 2 ^ (54 - m.log2))) (i + 36 - (106 - m.log2 : Nat) - 1) = y := by
    have hd : 65536 * val (s ^^ false) (2 * (m * 2 ^ (54 - m.log2))) (i + 36 - (106 - m.log2 : Nat) - 1) = z := by
      rw [← hv]
      generalize hk : 54 - m.log2 = k
      have e : i = (i + 36 - (106 - m.log2 : Nat) - 1) + ((17 + k : Nat) : Int) := by omega
      generalize hj : i + 36 - ((106 - m.log2 : Nat) : Int) - 1 = j at *
      have e2 : m * pw i = 65536 * (2 * (m * 2 ^ k) * pw j) := by
        rw [e, pw_add _ _ (by omega), Nat.pow_add]; grind
      unfold val
      rw [e2, Bool.xor_false]
      cases s
      · simp only [Bool.false_eq_true, if_false]; omega
      · simp only [if_true]; omega
    omega
  refine ⟨double.write (.number (s ^^ false) (2 * (m * 2 ^ (54 - m.log2))) (i + 36 - (106 - m.log2 : Nat) - 1)), ?_, ?_⟩
  · show double.div b 4679240012837945344 = _
    unfold Format.div
    rw [hr, c65536]
    have : double.fractionBits + 2 = 54 := rfl
    rw [this, hq]
    rfl
  · have := write_rep (s ^^ false) (2 * (m * 2 ^ (54 - m.log2))) (i + 36 - (106 - m.log2 : Nat) - 1) (by omega) (by rw [hval]; exact hR)
    rw [hval] at this
    exact this

/-- The sum and the difference ahead of the rounding. -/
theorem sum_is {s t : Bool} {m n : Nat} {i j : Int} (hi : -1074 ≤ i) (hj : -1074 ≤ j) :
    ∃ (u : Bool) (mag : Nat) (base : Int), Datum.sum (.number s m i) (.number t n j) = some (.number u mag base) ∧ -1074 ≤ base ∧ val u mag base = val s m i + val t n j := by
  unfold Datum.sum
  dsimp only
  refine ⟨_, _, _, rfl, by omega, ?_⟩
  rw [val_signed s m i (min i j) (by omega) (by omega), val_signed t n j (min i j) (by omega) (by omega), ← Int.add_mul]
  generalize signed s m (i - min i j).toNat + signed t n (j - min i j).toNat = total
  unfold val
  rw [Int.natCast_mul]
  by_cases h0 : total = 0
  · subst h0
    cases s <;> cases t <;> simp
  · rw [if_neg h0]
    by_cases h : total < 0
    · simp only [h, decide_true, if_true]
      rw [← Int.neg_mul]; congr 1; omega
    · simp only [h, decide_false, Bool.false_eq_true, if_false]
      congr 1; omega

theorem val_opp (s : Bool) (m : Nat) (i : Int) : val (!s) m i = - val s m i := by
  unfold val; cases s <;> simp

theorem add_is {a b : Nat} {x y : Int} (ha : IsF a x) (hb : IsF b y) (hR : Rep (x + y)) : ∃ r, floatBits .add .f64 a b = some r ∧ IsF r (x + y) := by
  obtain ⟨s, m, i, ra, rfl, -, hi, -⟩ := ha
  obtain ⟨t, n, j, rb, rfl, -, hj, -⟩ := hb
  obtain ⟨u, mag, base, h1, h2, h3⟩ := sum_is (s := s) (t := t) (m := m) (n := n) hi hj
  refine ⟨double.write (.number u mag base), ?_, ?_⟩
  · show double.add a b = _
    unfold Format.add
    rw [ra, rb, h1]; rfl
  · rw [← h3] at hR ⊢
    exact write_rep u mag base (by omega) hR

theorem sub_as {a b : Nat} {x y : Int} (ha : IsF a x) (hb : IsF b y) :
    ∃ (u : Bool) (mag : Nat) (base : Int), floatBits .sub .f64 a b = some (double.write (.number u mag base)) ∧ -1074 ≤ base ∧ val u mag base = x - y := by
  obtain ⟨s, m, i, ra, rfl, -, hi, -⟩ := ha
  obtain ⟨t, n, j, rb, rfl, -, hj, -⟩ := hb
  obtain ⟨u, mag, base, h1, h2, h3⟩ := sum_is (s := s) (t := !t) (m := m) (n := n) hi hj
  refine ⟨u, mag, base, ?_, h2, ?_⟩
  · show double.sub a b = _
    unfold Format.sub
    rw [ra, rb]
    show (Datum.sum (.number s m i) (.number (!t) n j)).map _ = _
    rw [h1]; rfl
  · rw [h3, val_opp]; omega

theorem sub_is {a b : Nat} {x y : Int} (ha : IsF a x) (hb : IsF b y) (hR : Rep (x - y)) : ∃ r, floatBits .sub .f64 a b = some r ∧ IsF r (x - y) := by
  obtain ⟨u, mag, base, h1, h2, h3⟩ := sub_as ha hb
  refine ⟨_, h1, ?_⟩
  rw [← h3] at hR ⊢
  exact write_rep u mag base (by omega) hR

/-- A difference that is rounded: between two powers of two it stays between them. -/
theorem sub_near {a b : Nat} {x y : Int} (ha : IsF a x) (hb : IsF b y) (hxy : 0 ≤ x - y) (k : Int) (hk : -1000 ≤ k) (hk2 : k ≤ 100) (hd : x - y < (pw (k + 1) : Int)) :
    ∃ r z, floatBits .sub .f64 a b = some r ∧ IsF r z ∧ z ≤ (pw (k + 1) : Int) ∧ ((pw k : Int) ≤ x - y → (pw k : Int) ≤ z) := by
  obtain ⟨u, mag, base, h1, h2, h3⟩ := sub_as ha hb
  rcases Nat.eq_zero_or_pos mag with h0 | hm
  · subst h0
    have hv : val u 0 base = 0 := by simp [val]
    have p1 := pw_pos k
    have p2 := pw_pos (k + 1)
    refine ⟨_, 0, h1, nearest_zero u base, by omega, by omega⟩
  · have hu : u = false := by
      cases u
      · rfl
      · exfalso
        have : 0 < mag * pw base := Nat.mul_pos hm (pw_pos _)
        unfold val at h3
        simp only [if_true] at h3
        omega
    subst hu
    have h3' : ((mag * pw base : Nat) : Int) = x - y := by
      rw [← h3]; unfold val; simp only [Bool.false_eq_true, if_false]
    have g1 : 2 ^ mag.log2 ≤ mag := Nat.log2_self_le (by omega)
    have g2 : mag < 2 ^ (mag.log2 + 1) := Nat.lt_log2_self
    have hE : base + mag.log2 ≤ k := by
      by_cases hc : base + mag.log2 ≤ k
      · exact hc
      · exfalso
        have e1 : pw (k + 1) ≤ pw (base + mag.log2) := pw_mono (by omega)
        rw [pw_add _ _ (by omega)] at e1
        have e2 : pw base * 2 ^ mag.log2 ≤ mag * pw base := by rw [Nat.mul_comm]; exact Nat.mul_le_mul_right _ g1
        omega
    obtain ⟨K, hK, k1, k2, -, -⟩ := nearest_is false mag base hm (by omega)
    generalize hL : max (base + (mag.log2 : Int) - 52) (-1074) = L at *
    refine ⟨_, _, h1, hK, ?_, ?_⟩
    · unfold val
      simp only [Bool.false_eq_true, if_false]
      have e1 : K * pw L ≤ 2 ^ 53 * pw L := Nat.mul_le_mul_right _ k1
      have e2 : pw (L + (53 : Nat)) ≤ pw (k + 1) := pw_mono (by omega)
      rw [pw_add _ _ (by omega)] at e2
      have e3 : pw L * 2 ^ 53 = 2 ^ 53 * pw L := Nat.mul_comm _ _
      exact Int.ofNat_le.2 (by rw [e3] at e2; exact Nat.le_trans e1 e2)
    · intro hge
      have hE2 : k ≤ base + mag.log2 := by
        by_cases hc : k ≤ base + mag.log2
        · exact hc
        · exfalso
          have e1 : pw (base + ((mag.log2 + 1 : Nat) : Int)) ≤ pw k := pw_mono (by omega)
          rw [pw_add _ _ (by omega)] at e1
          have e2 : mag * pw base < pw base * 2 ^ (mag.log2 + 1) := by rw [Nat.mul_comm (pw base)]; exact Nat.mul_lt_mul_of_pos_right g2 (pw_pos _)
          omega
      have k2' := k2 (by omega)
      unfold val
      simp only [Bool.false_eq_true, if_false]
      have e1 : 2 ^ 52 * pw L ≤ K * pw L := Nat.mul_le_mul_right _ k2'
      have e2 : pw k ≤ pw (L + (52 : Nat)) := pw_mono (by omega)
      rw [pw_add _ _ (by omega), Nat.mul_comm] at e2
      exact Int.ofNat_le.2 (Nat.le_trans e2 e1)

theorem cut_zero (s : Bool) (n drop : Nat) : Toward.zero.cut s n drop = n / 2 ^ drop := by
  unfold Toward.cut
  dsimp only
  rw [Nat.shiftLeft_eq, Nat.one_mul]
  by_cases hd : drop ≤ n.log2 + 2
  · rw [Nat.min_eq_left hd]; simp
  · have hlt : n < 2 ^ (n.log2 + 1) := Nat.lt_log2_self
    have h3 : n < 2 ^ drop := Nat.lt_of_lt_of_le hlt (Nat.pow_le_pow_right (by decide) (by omega))
    have h4 : n < 2 ^ (n.log2 + 2) := Nat.lt_of_lt_of_le hlt (Nat.pow_le_pow_right (by decide) (by omega))
    rw [Nat.min_eq_right (by omega), Nat.div_eq_of_lt h3, Nat.div_eq_of_lt h4]; simp

/-- int64(x) of a finite float. -/
theorem toInt_is {b : Nat} {z : Int} (h : IsF b z) (h1 : -9223372036854775808 ≤ z.tdiv (pw 0 : Int)) (h2 : z.tdiv (pw 0 : Int) ≤ 9223372036854775807) : floatToIntVal .f64 b .i64 = some (z.tdiv (pw 0 : Int)) := by
  obtain ⟨s, m, i, hr, rfl, -, hi, -⟩ := h
  have hn : m * 2 ^ i.toNat / 2 ^ (-i).toNat = m * pw i / pw 0 := by
    by_cases hc : 0 ≤ i
    · have e : (-i).toNat = 0 := by omega
      rw [e, pw_split (j := 0) (k := i) (by omega) hc]
      have e2 : (i - 0).toNat = i.toNat := by omega
      rw [e2, Nat.pow_zero, Nat.div_one, Nat.mul_comm (pw 0), ← Nat.mul_assoc, Nat.mul_div_cancel _ (pw_pos 0)]
    · have e : i.toNat = 0 := by omega
      have e2 : (0 - i).toNat = (-i).toNat := by omega
      rw [e, pw_split (j := i) (k := 0) (by omega) (by omega), e2, Nat.pow_zero, Nat.mul_one, Nat.mul_comm m, Nat.mul_div_mul_left _ _ (pw_pos i)]
  have ht : (FloatKind.f64.decode b).toInt .zero = some ((val s m i).tdiv (pw 0 : Int)) := by
    show (double.read b).toInt .zero = _
    rw [hr]
    unfold Datum.toInt Datum.integral
    dsimp only
    rw [cut_zero, Nat.shiftLeft_eq, hn, signed_eq, Nat.pow_zero, Nat.mul_one]
    unfold val
    cases s
    · simp only [Bool.false_eq_true, if_false]; rfl
    · simp only [if_true]; rw [Int.neg_tdiv]; rfl
  unfold floatToIntVal
  rw [ht]
  dsimp only
  rw [if_pos]
  exact ⟨h1, h2⟩

/-- What is left over of a float beyond the whole number below it, where it is less than a half: a float has it. -/
theorem rest_rep {b : Nat} {z : Int} (h : IsF b z) (hd : z % (pw 0 : Int) < (pw (-1) : Int)) : Rep (z % (pw 0 : Int)) := by
  obtain ⟨s, m, i, hr, rfl, hm, h1, h2⟩ := h
  have p0 := pw_pos 0
  have pi := pw_pos i
  have pm := pw_pos (-1)
  by_cases hc : 0 ≤ i
  · have hz : val s m i % (pw 0 : Int) = 0 := by
      apply Int.emod_eq_zero_of_dvd
      rw [val_signed s m i 0 (by omega) hc]
      exact Int.dvd_mul_left _ _
    rw [hz]
    exact ⟨0, 0, by simp, by decide, by omega, by omega⟩
  · have hnn : 0 ≤ val s m i % (pw 0 : Int) := Int.emod_nonneg _ (by omega)
    have hdv : (pw i : Int) ∣ val s m i % (pw 0 : Int) := by
      rw [Int.emod_def]
      refine Int.dvd_sub ?_ ?_
      · unfold val; rw [Int.natCast_mul]
        cases s
        · simp only [Bool.false_eq_true, if_false]; exact Int.dvd_mul_left _ _
        · simp only [if_true]; exact Int.dvd_neg.2 (Int.dvd_mul_left _ _)
      · rw [pw_split (j := i) (k := 0) (by omega) (by omega), Int.natCast_mul, Int.mul_assoc]
        exact Int.dvd_mul_right _ _
    obtain ⟨q, hq⟩ := hdv
    have hq0 : 0 ≤ q := by
      rw [hq] at hnn
      exact Int.nonneg_of_mul_nonneg_right hnn (by omega)
    by_cases hi : -54 ≤ i
    · refine ⟨q.natAbs, i, ?_, ?_, h1, by omega⟩
      · rw [hq, Int.natAbs_mul, Int.natAbs_natCast, Nat.mul_comm]
      · have e1 : pw (-1) ≤ pw (i + (53 : Nat)) := pw_mono (by omega)
        rw [pw_add _ _ (by omega)] at e1
        by_cases hh : q.natAbs < 2 ^ 53
        · exact hh
        · exfalso
          have e2 : pw i * 2 ^ 53 ≤ pw i * q.natAbs := Nat.mul_le_mul_left _ (by omega)
          have e3 : (pw i : Int) * q = ((pw i * q.natAbs : Nat) : Int) := by rw [Int.natCast_mul]; congr 1; omega
          rw [hq, e3] at hd
          omega
    · have hs : m * pw i < pw (-1) := by
        have e1 : pw (i + (53 : Nat)) ≤ pw (-1) := pw_mono (by omega)
        rw [pw_add _ _ (by omega)] at e1
        have e2 : m * pw i < 2 ^ 53 * pw i := Nat.mul_lt_mul_of_pos_right hm pi
        omega
      have e0 : pw 0 = pw (-1) * 2 := by
        have := pw_add (-1) 1 (by omega)
        simpa using this
      cases s
      · have hv : val false m i = ((m * pw i : Nat) : Int) := by unfold val; simp
        have : val false m i % (pw 0 : Int) = ((m * pw i : Nat) : Int) := by
          rw [hv]; exact Int.emod_eq_of_lt (by omega) (by omega)
        rw [this]
        exact ⟨m, i, by omega, hm, h1, by omega⟩
      · have hv : val true m i = -((m * pw i : Nat) : Int) := by unfold val; simp
        rcases Nat.eq_zero_or_pos m with h0 | h0
        · subst h0
          rw [hv]; simp
          exact ⟨0, 0, by simp, by decide, by omega, by omega⟩
        · exfalso
          have hp : 0 < m * pw i := Nat.mul_pos h0 pi
          have : val true m i % (pw 0 : Int) = (pw 0 : Int) - ((m * pw i : Nat) : Int) := by
            rw [hv, ← Int.add_emod_right, Int.emod_eq_of_lt (by omega) (by omega)]; omega
          omega
end Go.Proofs.Ytpgifcgidelmaaa
