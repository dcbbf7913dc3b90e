/- Plain mathematics for the contracts of package num: no Go program in sight. -/
import Derived.WalkKit
import Derived.Laws.MathBits
namespace Go.Proofs.Ytoibbnkpfplmbaa
open Go.RowKit
set_option linter.unusedVariables false

/-- A number fits if it is an int64's value. -/
def Fit (x : Int) : Prop := -9223372036854775808 ≤ x ∧ x ≤ 9223372036854775807
instance (x : Int) : Decidable (Fit x) := inferInstanceAs (Decidable (_ ∧ _))
/-- What a checked operation answers for the exact result x: its number and its error. -/
def rV (x : Int) : Int := if Fit x then x else 0
def rE (x : Int) : Int := if Fit x then 0 else 8
/-- The same for a quotient, rounded down. -/
def qV (a b : Int) : Int := if b = 0 then 0 else rV (a.fdiv b)
def qE (a b : Int) : Int := if b = 0 then 9 else rE (a.fdiv b)
/-- The same for a remainder. -/
def mV (a b : Int) : Int := if b = 0 then 0 else a.fmod b
def mE (_a b : Int) : Int := if b = 0 then 9 else 0

theorem rV_in {x : Int} (h : Fit x) : rV x = x := if_pos h
theorem rE_in {x : Int} (h : Fit x) : rE x = 0 := if_pos h
theorem rV_out {x : Int} (h : ¬ Fit x) : rV x = 0 := if_neg h
theorem rE_out {x : Int} (h : ¬ Fit x) : rE x = 8 := if_neg h
theorem rV_fit (x : Int) : Fit (rV x) := by
  unfold rV
  split
  · assumption
  · unfold Fit; omega

/-! ### floor division -/
theorem fdiv_unique {a b q : Int} (hb : 0 < b) (h1 : q * b ≤ a) (h2 : a < (q + 1) * b) : a.fdiv b = q := by
  rw [Int.fdiv_eq_ediv_of_nonneg a (Int.le_of_lt hb)]
  have e := Int.mul_ediv_add_emod a b
  have m0 := Int.emod_nonneg a (by omega : b ≠ 0)
  have m1 := Int.emod_lt_of_pos a hb
  generalize a / b = x at *
  generalize a % b = r at *
  have h3 : b * x < b * (q + 1) := by grind
  have h4 : b * q < b * (x + 1) := by grind
  have := Int.lt_of_mul_lt_mul_left h3 (by omega)
  have := Int.lt_of_mul_lt_mul_left h4 (by omega)
  omega

theorem fdiv_neg_neg (a b : Int) : (-a).fdiv (-b) = a.fdiv b := by
  exact Int.neg_fdiv_neg a b

/-- Go's quotient and remainder, cut towards nought, made floor's. -/
theorem fdiv_of_tdiv (a b : Int) (hb : b ≠ 0) : a.fdiv b = if a.tmod b ≠ 0 ∧ ((a < 0) ≠ (b < 0)) then a.tdiv b - 1 else a.tdiv b := by
  have key : ∀ x y : Int, 0 < y → x.fdiv y = if x.tmod y ≠ 0 ∧ x < 0 then x.tdiv y - 1 else x.tdiv y := by
    intro x y hy
    have e := Int.mul_tdiv_add_tmod x y
    by_cases hx : 0 ≤ x
    · rw [if_neg (by omega), Int.fdiv_eq_ediv_of_nonneg x (Int.le_of_lt hy), Int.tdiv_eq_ediv_of_nonneg hx]
    · have e2 := Int.tdiv_neg
      have m0 : -y < x.tmod y := by
        have := Int.lt_tmod_of_pos x hy
        omega
      have m1 : x.tmod y ≤ 0 := by
        have h := Int.tmod_nonneg (a := -x) y (by omega)
        rw [Int.neg_tmod] at h
        omega
      generalize x.tdiv y = q at *
      generalize x.tmod y = r at *
      by_cases hr : r = 0
      · rw [if_neg (by omega)]
        apply fdiv_unique hy <;> grind
      · rw [if_pos ⟨hr, by omega⟩]
        apply fdiv_unique hy <;> grind
  rcases Int.lt_or_gt_of_ne hb with h | h
  · rw [← fdiv_neg_neg, key (-a) (-b) (by omega), Int.neg_tdiv_neg, Int.neg_tmod, Int.tmod_neg]
    by_cases hz : a.tmod b = 0
    · rw [if_neg (by omega), if_neg (by simp [hz])]
    · have hne : a ≠ 0 := by rintro rfl; simp at hz
      by_cases ha : a < 0
      · rw [if_neg (by omega), if_neg (by simp [ha, h])]
      · rw [if_pos (by omega), if_pos ⟨hz, by simp [ha, h]⟩]
  · rw [key a b h]
    have hb' : ¬ b < 0 := by omega
    by_cases hz : a.tmod b = 0
    · simp [hz]
    · by_cases ha : a < 0
      · rw [if_pos ⟨hz, ha⟩, if_pos ⟨hz, by simp [ha, hb']⟩]
      · rw [if_neg (by omega), if_neg (by simp [ha, hb'])]

theorem fmod_of_tmod (a b : Int) (hb : b ≠ 0) : a.fmod b = if a.tmod b ≠ 0 ∧ ((a.tmod b < 0) ≠ (b < 0)) then a.tmod b + b else a.tmod b := by
  have e1 := Int.mul_fdiv_add_fmod a b
  have e2 := Int.mul_tdiv_add_tmod a b
  have e3 := fdiv_of_tdiv a b hb
  have hs : a.tmod b ≠ 0 → (a.tmod b < 0 ↔ a < 0) := by
    intro hz
    constructor
    · intro h
      by_cases ha : a < 0
      · exact ha
      · have := Int.tmod_nonneg (a := a) b (by omega); omega
    · intro h
      have h2 := Int.tmod_nonneg (a := -a) b (by omega)
      rw [Int.neg_tmod] at h2
      omega
  by_cases hz : a.tmod b = 0
  · rw [if_neg (by simp [hz])]
    rw [if_neg (by simp [hz])] at e3
    rw [e3] at e1
    omega
  · have hs' := hs hz
    by_cases hc : (a < 0) ≠ (b < 0)
    · rw [if_pos ⟨hz, hc⟩] at e3
      rw [if_pos ⟨hz, by rw [propext hs']; exact hc⟩]
      rw [e3] at e1
      generalize a.tdiv b = q at *
      grind
    · rw [if_neg (fun h => hc h.2)] at e3
      rw [if_neg (fun h => hc (by rw [← propext hs']; exact h.2))]
      rw [e3] at e1
      omega

/-! ### two words -/
def whi (n : Int) : Int := n / 18446744073709551616
def wlo (n : Int) : Int := n % 18446744073709551616
def wideV (n : Int) : Value := .agg #[.int .u64 (whi n), .int .u64 (wlo n)]
/-- n is an absolute value of 128 bits. -/
def Wide (n : Int) : Prop := 0 ≤ n ∧ n < 340282366920938463463374607431768211456
theorem whi_lo {n : Int} (h : Wide n) : 0 ≤ whi n := by unfold Wide at h; unfold whi; omega
theorem whi_hi {n : Int} (h : Wide n) : whi n ≤ 18446744073709551615 := by unfold Wide at h; unfold whi; omega
theorem wlo_lo (n : Int) : 0 ≤ wlo n := by unfold wlo; omega
theorem wlo_hi (n : Int) : wlo n ≤ 18446744073709551615 := by unfold wlo; omega

theorem product_arith (a b : Int) (ha : 0 ≤ a) (ha' : a ≤ 9223372036854775808) (hb : 0 ≤ b) (hb' : b ≤ 9223372036854775808) :
    IntKind.u64.wrap
      (IntKind.u64.wrap
          (IntKind.u64.wrap (a / 4294967296 * (b / 4294967296)) +
            IntKind.u64.wrap
                (IntKind.u64.wrap (a / 4294967296 * bits BinOp.and IntKind.u64 b 4294967295) +
                  IntKind.u64.wrap
                      (bits BinOp.and IntKind.u64 a 4294967295 * bits BinOp.and IntKind.u64 b 4294967295) /
                    4294967296) /
              4294967296) +
        IntKind.u64.wrap
            (IntKind.u64.wrap (bits BinOp.and IntKind.u64 a 4294967295 * (b / 4294967296)) +
              bits BinOp.and IntKind.u64
                (IntKind.u64.wrap
                  (IntKind.u64.wrap (a / 4294967296 * bits BinOp.and IntKind.u64 b 4294967295) +
                    IntKind.u64.wrap
                        (bits BinOp.and IntKind.u64 a 4294967295 * bits BinOp.and IntKind.u64 b 4294967295) /
                      4294967296))
                4294967295) /
          4294967296) = whi (a * b) := by
  have wr : ∀ n, IntKind.u64.wrap n = n % 18446744073709551616 := fun n => by simp [IntKind.wrap, IntKind.bits, IntKind.signed]
  rw [and_low32 a ha (by omega), and_low32 b hb (by omega)]
  simp only [wr]
  rw [and_low32 _ (by omega) (by omega)]
  unfold whi
  have ex : a = a / 4294967296 * 4294967296 + a % 4294967296 := by omega
  have ey : b = b / 4294967296 * 4294967296 + b % 4294967296 := by omega
  generalize hx1 : a / 4294967296 = x1 at *
  generalize hx0 : a % 4294967296 = x0 at *
  generalize hy1 : b / 4294967296 = y1 at *
  generalize hy0 : b % 4294967296 = y0 at *
  have b1 : 0 ≤ x1 ∧ x1 ≤ 4294967295 := by omega
  have b2 : 0 ≤ x0 ∧ x0 ≤ 4294967295 := by omega
  have b3 : 0 ≤ y1 ∧ y1 ≤ 4294967295 := by omega
  have b4 : 0 ≤ y0 ∧ y0 ≤ 4294967295 := by omega
  have pA := prod_bound x1 y1 b1.1 b1.2 b3.1 b3.2
  have pB := prod_bound x1 y0 b1.1 b1.2 b4.1 b4.2
  have pC := prod_bound x0 y0 b2.1 b2.2 b4.1 b4.2
  have pD := prod_bound x0 y1 b2.1 b2.2 b3.1 b3.2
  have hxy : a * b = x1 * y1 * 18446744073709551616 + (x1 * y0 + x0 * y1) * 4294967296 + x0 * y0 := by rw [ex, ey]; exact split_mul x1 x0 y1 y0
  rw [hxy]
  generalize x1 * y1 = A at *
  generalize x1 * y0 = B at *
  generalize x0 * y0 = C at *
  generalize x0 * y1 = D at *
  omega

theorem product_low (a b : Int) : IntKind.u64.wrap (a * b) = wlo (a * b) := by
  simp [IntKind.wrap, IntKind.bits, IntKind.signed, wlo]

theorem wide_product (a b : Int) (ha : 0 ≤ a) (ha' : a ≤ 9223372036854775808) (hb : 0 ≤ b) (hb' : b ≤ 9223372036854775808) : Wide (a * b) ∧ a * b ≤ 85070591730234615865843651857942052864 := by
  have h0 := Int.mul_nonneg ha hb
  have h1 := Int.mul_le_mul ha' hb' hb (by omega : (0 : Int) ≤ 9223372036854775808)
  simp only [show (9223372036854775808 : Int) * 9223372036854775808 = 85070591730234615865843651857942052864 from by decide] at h1
  exact ⟨⟨h0, by omega⟩, h1⟩

/-! ### the long division: what has been divided behind k bits of the low word -/
def dvd (r0 lo : Int) (k : Nat) : Int := r0 * 2 ^ k + lo / 2 ^ (64 - k)
theorem dvd_zero (r0 lo : Int) (h0 : 0 ≤ lo) (h1 : lo ≤ 18446744073709551615) : dvd r0 lo 0 = r0 := by
  unfold dvd
  simp only [Nat.sub_zero, Int.pow_zero, Int.mul_one]
  omega
theorem dvd_end (r0 lo : Int) : dvd r0 lo 64 = r0 * 18446744073709551616 + lo := by
  unfold dvd
  simp
theorem dvd_succ (r0 lo : Int) (k : Nat) (hk : k < 64) : dvd r0 lo (k + 1) = 2 * dvd r0 lo k + lo / 2 ^ (63 - k) % 2 := by
  unfold dvd
  have e : 64 - k = (63 - k) + 1 := by omega
  have e2 : 64 - (k + 1) = 63 - k := by omega
  rw [e2, e, Int.pow_succ, Int.pow_succ]
  have hp : (0 : Int) < 2 ^ (63 - k) := Int.pow_pos (by omega)
  have h3 : lo / (2 ^ (63 - k) * 2) = lo / 2 ^ (63 - k) / 2 := by
    rw [Int.ediv_ediv_of_nonneg (Int.le_of_lt hp)]
  rw [h3]
  generalize lo / 2 ^ (63 - k) = y
  have : r0 * (2 ^ k * 2) = 2 * (r0 * 2 ^ k) := by grind
  rw [this]
  generalize r0 * 2 ^ k = z
  omega

theorem dvd_lt (r0 lo b : Int) (k : Nat) (hk : k ≤ 64) (hr : r0 < b) (h0 : 0 ≤ lo) (h1 : lo ≤ 18446744073709551615) : dvd r0 lo k < b * 2 ^ k := by
  unfold dvd
  have hp : (0 : Int) < 2 ^ (64 - k) := Int.pow_pos (by omega)
  have hq : (0 : Int) < 2 ^ k := Int.pow_pos (by omega)
  have e : (2 : Int) ^ k * 2 ^ (64 - k) = 18446744073709551616 := by
    rw [← Int.pow_add, show k + (64 - k) = 64 from by omega]
    rfl
  have h2 : lo / 2 ^ (64 - k) < 2 ^ k := by
    apply Int.ediv_lt_of_lt_mul hp
    rw [e]
    omega
  have h3 : (r0 + 1) * 2 ^ k ≤ b * 2 ^ k := Int.mul_le_mul_of_nonneg_right (by omega) (Int.le_of_lt hq)
  grind
theorem dvd_nonneg (r0 lo : Int) (k : Nat) (hr : 0 ≤ r0) (h0 : 0 ≤ lo) : 0 ≤ dvd r0 lo k := by
  unfold dvd
  have hp : (0 : Int) < 2 ^ (64 - k) := Int.pow_pos (by omega)
  have hq : (0 : Int) < 2 ^ k := Int.pow_pos (by omega)
  have := Int.mul_nonneg hr (Int.le_of_lt hq)
  have := Int.ediv_nonneg h0 (Int.le_of_lt hp)
  omega
theorem two_pow_63 (k : Nat) (hk : k < 64) : (2 : Int) ^ k ≤ 9223372036854775808 := by
  have h : 2 ^ k ≤ 2 ^ 63 := Nat.pow_le_pow_right (by omega) (show k ≤ 63 by omega)
  have h2 : ((2 ^ k : Nat) : Int) ≤ ((2 ^ 63 : Nat) : Int) := Int.ofNat_le.2 h
  rw [Int.natCast_pow] at h2
  simpa using h2

theorem div_step (X b t R L : Int) (hb : 1 ≤ b) (ht0 : 0 ≤ t) (ht1 : t ≤ 1) (hR : R = X % b) (hL : L = X / b) :
    (b ≤ 2 * R + t → (2 * X + t) / b = 2 * L + 1 ∧ (2 * X + t) % b = 2 * R + t - b) ∧ (2 * R + t < b → (2 * X + t) / b = 2 * L ∧ (2 * X + t) % b = 2 * R + t) := by
  have e := Int.mul_ediv_add_emod X b
  have m0 := Int.emod_nonneg X (by omega : b ≠ 0)
  have m1 := Int.emod_lt_of_pos X (by omega : 0 < b)
  rw [← hR] at e m0 m1
  rw [← hL] at e
  clear hR hL
  constructor
  · intro h
    exact (Int.ediv_emod_unique (by omega : 0 < b)).2 ⟨by grind, by omega, by omega⟩
  · intro h
    exact (Int.ediv_emod_unique (by omega : 0 < b)).2 ⟨by grind, by omega, by omega⟩

/-- 'x<<1 | y&1', as a number. -/
theorem or_bit (x y : Int) (h0 : 0 ≤ x) (h1 : x ≤ 9223372036854775807) (h2 : 0 ≤ y) (h3 : y ≤ 18446744073709551615) :
    bits BinOp.or IntKind.u64 (x * 2) (bits BinOp.and IntKind.u64 y 1) = 2 * x + y % 2 := by
  have e1 : bits BinOp.and IntKind.u64 y 1 = y % 2 := by
    rw [u64_and y 1 h2 (by omega) (by omega) (by omega)]
    show ((y.toNat &&& 1 : Nat) : Int) = _
    rw [nat_mask1]
    omega
  rw [e1, u64_or _ _ (by omega) (by omega) (by omega) (by omega), nat_join 1 _ _ (by omega) (by omega)]
  omega
theorem or_one (x : Int) (h0 : 0 ≤ x) (h1 : x ≤ 9223372036854775807) :
    bits BinOp.or IntKind.u64 (x * 2) 1 = 2 * x + 1 := by
  rw [u64_or _ _ (by omega) (by omega) (by omega) (by omega)]
  show (((x * 2).toNat ||| 1 : Nat) : Int) = _
  rw [nat_join 1 _ _ (by omega) (by omega)]
  omega

/-- One round of the long division. -/
theorem dvd_round (hi lo b R L : Int) (k : Nat) (hk : k < 64) (h0 : 0 ≤ hi) (h2 : 0 ≤ lo) (h3 : lo ≤ 18446744073709551615) (h4 : 1 ≤ b) (h5 : b ≤ 9223372036854775808)
    (hR : R = dvd (hi % b) lo k % b) (hL : L = dvd (hi % b) lo k / b) :
    0 ≤ R ∧ R < b ∧ 0 ≤ L ∧ L ≤ 9223372036854775807 ∧ bits BinOp.or IntKind.u64 (R * 2) (bits BinOp.and IntKind.u64 (lo / 2 ^ (63 - k)) 1) = 2 * R + lo / 2 ^ (63 - k) % 2 ∧
    (b ≤ 2 * R + lo / 2 ^ (63 - k) % 2 → dvd (hi % b) lo (k + 1) / b = 2 * L + 1 ∧ dvd (hi % b) lo (k + 1) % b = 2 * R + lo / 2 ^ (63 - k) % 2 - b) ∧
    (2 * R + lo / 2 ^ (63 - k) % 2 < b → dvd (hi % b) lo (k + 1) / b = 2 * L ∧ dvd (hi % b) lo (k + 1) % b = 2 * R + lo / 2 ^ (63 - k) % 2) := by
  have m0 := Int.emod_nonneg hi (by omega : b ≠ 0)
  have m1 := Int.emod_lt_of_pos hi (by omega : 0 < b)
  have n0 := dvd_nonneg (hi % b) lo k m0 h2
  have n1 := dvd_lt (hi % b) lo b k (by omega) m1 h2 h3
  have st := dvd_succ (hi % b) lo k hk
  have p63 := two_pow_63 k hk
  have hp : (0 : Int) < 2 ^ (63 - k) := Int.pow_pos (by omega)
  have y0 : 0 ≤ lo / 2 ^ (63 - k) := Int.ediv_nonneg h2 (Int.le_of_lt hp)
  have y1 : lo / 2 ^ (63 - k) ≤ lo := Int.ediv_le_self _ h2
  have hL1 : L < 2 ^ k := by
    rw [hL]
    apply Int.ediv_lt_of_lt_mul (by omega)
    grind
  have hL0 : 0 ≤ L := by rw [hL]; exact Int.ediv_nonneg n0 (by omega)
  have hR0 : 0 ≤ R := by rw [hR]; exact Int.emod_nonneg _ (by omega)
  have hR1 : R < b := by rw [hR]; exact Int.emod_lt_of_pos _ (by omega)
  have ds := div_step (dvd (hi % b) lo k) b (lo / 2 ^ (63 - k) % 2) R L h4 (by omega) (by omega) hR hL
  rw [st]
  exact ⟨hR0, hR1, hL0, by omega, or_bit R _ hR0 (by omega) y0 (by omega), ds.1, ds.2⟩

/-- The words of the quotient. -/
theorem dvd_words (hi lo b : Int) (h0 : 0 ≤ hi) (h1 : hi ≤ 18446744073709551615) (h2 : 0 ≤ lo) (h3 : lo ≤ 18446744073709551615) (h4 : 1 ≤ b) :
    whi ((hi * 18446744073709551616 + lo) / b) = hi / b ∧ wlo ((hi * 18446744073709551616 + lo) / b) = dvd (hi % b) lo 64 / b ∧ (hi * 18446744073709551616 + lo) % b = dvd (hi % b) lo 64 % b := by
  have e := Int.mul_ediv_add_emod hi b
  have m0 := Int.emod_nonneg hi (by omega : b ≠ 0)
  have m1 := Int.emod_lt_of_pos hi (by omega : 0 < b)
  have n0 := dvd_nonneg (hi % b) lo 64 m0 h2
  have n1 := dvd_lt (hi % b) lo b 64 (by omega) m1 h2 h3
  have q0 := Int.ediv_nonneg h0 (by omega : 0 ≤ b)
  have eN : hi * 18446744073709551616 + lo = dvd (hi % b) lo 64 + b * (hi / b * 18446744073709551616) := by
    rw [dvd_end]
    generalize hi / b = q at *
    generalize hi % b = r at *
    grind
  have hq : (hi * 18446744073709551616 + lo) / b = hi / b * 18446744073709551616 + dvd (hi % b) lo 64 / b := by
    rw [eN, Int.add_mul_ediv_left _ _ (by omega : b ≠ 0)]
    omega
  have hr : (hi * 18446744073709551616 + lo) % b = dvd (hi % b) lo 64 % b := by
    rw [eN, Int.add_mul_emod_self_left]
  have z0 : 0 ≤ dvd (hi % b) lo 64 / b := Int.ediv_nonneg n0 (by omega)
  have z1 : dvd (hi % b) lo 64 / b < 18446744073709551616 := by
    apply Int.ediv_lt_of_lt_mul (by omega)
    have : (2 : Int) ^ 64 = 18446744073709551616 := rfl
    rw [this] at n1
    grind
  rw [hq]
  refine ⟨?_, ?_, hr⟩
  · unfold whi; omega
  · unfold wlo; omega
theorem dvd_words0 (hi lo b : Int) (h0 : 0 ≤ hi) (h1 : hi ≤ 18446744073709551615) (h2 : 0 ≤ lo) (h3 : lo ≤ 18446744073709551615) (h4 : 1 ≤ b) (hz : hi % b = 0) :
    whi ((hi * 18446744073709551616 + lo) / b) = hi / b ∧ wlo ((hi * 18446744073709551616 + lo) / b) = lo / b ∧ (hi * 18446744073709551616 + lo) % b = lo % b := by
  have h := dvd_words hi lo b h0 h1 h2 h3 h4
  rw [hz, dvd_end] at h
  simpa using h
/-- A size and a sign: the number, or that it doesn't fit. -/
theorem sign_over {n : Int} (h : whi n ≠ 0) (h0 : 0 ≤ n) : rV n = 0 ∧ rE n = 8 ∧ rV (-n) = 0 ∧ rE (-n) = 8 := by
  have h1 : ¬ Fit n := by unfold Fit; unfold whi at h; omega
  have h2 : ¬ Fit (-n) := by unfold Fit; unfold whi at h; omega
  exact ⟨rV_out h1, rE_out h1, rV_out h2, rE_out h2⟩
theorem sign_plus {n : Int} (h : whi n = 0) (h1 : wlo n < 9223372036854775808) : rV n = wlo n ∧ rE n = 0 := by
  have e : wlo n = n := by unfold whi at h; unfold wlo; omega
  rw [e] at h1 ⊢
  have h2 : Fit n := by unfold Fit; unfold whi at h; omega
  exact ⟨rV_in h2, rE_in h2⟩
theorem sign_plus_over {n : Int} (h : whi n = 0) (h1 : 9223372036854775808 ≤ wlo n) : rV n = 0 ∧ rE n = 8 := by
  have e : wlo n = n := by unfold whi at h; unfold wlo; omega
  rw [e] at h1
  have h2 : ¬ Fit n := by unfold Fit; omega
  exact ⟨rV_out h2, rE_out h2⟩
theorem sign_minus {n : Int} (h : whi n = 0) (h1 : wlo n ≤ 9223372036854775808) : rV (-n) = wrap64 (-(wrap64 (wlo n))) ∧ rE (-n) = 0 := by
  have e : wlo n = n := by unfold whi at h; unfold wlo; omega
  rw [e] at h1 ⊢
  have h2 : Fit (-n) := by unfold Fit; unfold whi at h; omega
  refine ⟨(rV_in h2).trans ?_, rE_in h2⟩
  unfold whi at h
  unfold wrap64
  omega
theorem sign_minus_over {n : Int} (h : whi n = 0) (h1 : 9223372036854775808 < wlo n) : rV (-n) = 0 ∧ rE (-n) = 8 := by
  have e : wlo n = n := by unfold whi at h; unfold wlo; omega
  rw [e] at h1
  have h2 : ¬ Fit (-n) := by unfold Fit; omega
  exact ⟨rV_out h2, rE_out h2⟩
theorem words (n : Int) : whi n * 18446744073709551616 + wlo n = n := by unfold whi wlo; omega

end Go.Proofs.Ytoibbnkpfplmbaa
