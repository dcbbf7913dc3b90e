/- Plain mathematics of package rng: words that wrap round, the step and its inverse, the high word of a product, orders. -/
import Derived.Laws.Bits64
import Derived.Laws.Bits64b
namespace Go.Proofs.Ytlpoholdphihfaa

/-- The n-th number of a seed. -/
def z0 (s n : Nat) : Nat := (s + (n + 1) % 18446744073709551616 * 11400714819323198485 % 18446744073709551616) % 18446744073709551616
def mx (k c z : Nat) : Nat := (z ^^^ z / k) * c % 18446744073709551616
def fin3 (z : Nat) : Nat := z ^^^ z / 2147483648
def fin (z : Nat) : Nat := fin3 (mx 134217728 10723151780598845931 (mx 1073741824 13787848793156543929 z))
def atN (s n : Nat) : Nat := fin (z0 s n)

theorem z0_lt (s n : Nat) : z0 s n < 18446744073709551616 := Nat.mod_lt _ (by decide)
theorem mx_lt (k c z : Nat) : mx k c z < 18446744073709551616 := Nat.mod_lt _ (by decide)
theorem xs_lt {z : Nat} (k : Nat) (h : z < 18446744073709551616) : z ^^^ z / k < 18446744073709551616 :=
  Nat.xor_lt_two_pow (n := 64) (by omega) (Nat.lt_of_le_of_lt (Nat.div_le_self _ _) (by omega))
theorem fin3_lt {z : Nat} (h : z < 18446744073709551616) : fin3 z < 18446744073709551616 := by
  unfold fin3
  exact xs_lt 2147483648 h
theorem fin_lt (z : Nat) : fin z < 18446744073709551616 := by
  unfold fin
  exact fin3_lt (mx_lt _ _ _)
theorem atN_lt (s n : Nat) : atN s n < 18446744073709551616 := by
  unfold atN
  exact fin_lt _

theorem xs_inj {x y K : Nat} (k : Nat) (hK : K = 2 ^ k) (hk : 0 < k) (h : x ^^^ x / K = y ^^^ y / K) : x = y := by
  subst hK
  rw [← Nat.shiftRight_eq_div_pow, ← Nat.shiftRight_eq_div_pow] at h
  have h2 : x ^^^ y = (x ^^^ y) >>> k := by
    rw [Nat.shiftRight_xor_distrib]
    have h3 : (x ^^^ (x >>> k)) ^^^ ((x >>> k) ^^^ y) = (y ^^^ (y >>> k)) ^^^ ((x >>> k) ^^^ y) := by rw [h]
    have h4 : (x ^^^ (x >>> k)) ^^^ ((x >>> k) ^^^ y) = x ^^^ y := by
      rw [Nat.xor_assoc, ← Nat.xor_assoc (x >>> k) (x >>> k) y, Nat.xor_self, Nat.zero_xor]
    have h5 : (y ^^^ (y >>> k)) ^^^ ((x >>> k) ^^^ y) = (x >>> k) ^^^ (y >>> k) := by
      rw [Nat.xor_comm (x >>> k) y, Nat.xor_comm y (y >>> k), Nat.xor_assoc, ← Nat.xor_assoc y y (x >>> k), Nat.xor_self, Nat.zero_xor, Nat.xor_comm]
    rw [← h4, h3, h5]
  rw [Nat.shiftRight_eq_div_pow] at h2
  have h6 : x ^^^ y = 0 := by
    rcases Nat.eq_zero_or_pos (x ^^^ y) with h0 | h0
    · exact h0
    · have : (x ^^^ y) / 2 ^ k < x ^^^ y := Nat.div_lt_self h0 (Nat.one_lt_two_pow (by omega))
      omega
  have h7 : (x ^^^ y) ^^^ y = x := by rw [Nat.xor_assoc, Nat.xor_self, Nat.xor_zero]
  rw [h6, Nat.zero_xor] at h7
  exact h7.symm

theorem mul_inj {x y c d : Nat} (hx : x < 18446744073709551616) (hy : y < 18446744073709551616) (hcd : c * d % 18446744073709551616 = 1)
    (h : x * c % 18446744073709551616 = y * c % 18446744073709551616) : x = y := by
  have e : ∀ z, z < 18446744073709551616 → z * c % 18446744073709551616 * d % 18446744073709551616 = z := by
    intro z hz
    rw [Nat.mod_mul_mod, Nat.mul_assoc, ← Nat.mul_mod_mod, hcd, Nat.mul_one, Nat.mod_eq_of_lt hz]
  rw [← e x hx, ← e y hy, h]

theorem mx_inj {x y c K : Nat} (k d : Nat) (hK : K = 2 ^ k) (hk : 0 < k) (hx : x < 18446744073709551616) (hy : y < 18446744073709551616) (hcd : c * d % 18446744073709551616 = 1)
    (h : mx K c x = mx K c y) : x = y := xs_inj k hK hk (mul_inj (xs_lt _ hx) (xs_lt _ hy) hcd h)

theorem add_inj {s A B : Nat} (hA : A < 18446744073709551616) (hB : B < 18446744073709551616) (h : (s + A) % 18446744073709551616 = (s + B) % 18446744073709551616) : A = B := by omega
theorem z0_inj {s n m : Nat} (hn : n < 18446744073709551616) (hm : m < 18446744073709551616) (h : z0 s n = z0 s m) : n = m := by
  unfold z0 at h
  have h1 := add_inj (Nat.mod_lt _ (by decide)) (Nat.mod_lt _ (by decide)) h
  have h2 : (n + 1) % 18446744073709551616 = (m + 1) % 18446744073709551616 := mul_inj (d := 17428512612931826493) (Nat.mod_lt _ (by decide)) (Nat.mod_lt _ (by decide)) (by decide) h1
  clear h h1
  omega

attribute [irreducible] z0 mx
theorem fin3_inj {x y : Nat} (h : fin3 x = fin3 y) : x = y := by
  unfold fin3 at h
  exact xs_inj (K := 2147483648) 31 (by decide) (by decide) h
theorem mx1_inj {x y : Nat} (hx : x < 18446744073709551616) (hy : y < 18446744073709551616) (h : mx 1073741824 13787848793156543929 x = mx 1073741824 13787848793156543929 y) : x = y :=
  mx_inj 30 10871156337175269513 (by decide) (by decide) hx hy (by decide) h
theorem mx2_inj {x y : Nat} (hx : x < 18446744073709551616) (hy : y < 18446744073709551616) (h : mx 134217728 10723151780598845931 x = mx 134217728 10723151780598845931 y) : x = y :=
  mx_inj 27 3573116690164977347 (by decide) (by decide) hx hy (by decide) h
attribute [irreducible] fin3
theorem fin_inj {x y : Nat} (hx : x < 18446744073709551616) (hy : y < 18446744073709551616) (h : fin x = fin y) : x = y :=
  mx1_inj hx hy (mx2_inj (mx_lt _ _ _) (mx_lt _ _ _) (fin3_inj h))
theorem atN_inj {s n m : Nat} (hn : n < 18446744073709551616) (hm : m < 18446744073709551616) (h : atN s n = atN s m) : n = m :=
  z0_inj hn hm (fin_inj (z0_lt s n) (z0_lt s m) h)
attribute [irreducible] atN
theorem atN_same {s n m : Nat} (hn : n < 18446744073709551616) (hm : m < 18446744073709551616) : atN s n = atN s m ↔ n = m := ⟨atN_inj hn hm, fun h => by rw [h]⟩

/-- A number below another one. -/
def belowN (s n m : Nat) : Nat := atN s n * m / 18446744073709551616
theorem belowN_lt {s n m : Nat} (h : 0 < m) : belowN s n m < m := by
  unfold belowN
  have := atN_lt s n
  rw [Nat.div_lt_iff_lt_mul (by decide), Nat.mul_comm]
  exact Nat.mul_lt_mul_of_pos_left this h
theorem belowN_zero (s n : Nat) : belowN s n 0 = 0 := by simp [belowN]

attribute [irreducible] belowN
/-- An order, behind k swaps: the element at c - 1 - j is swapped with the one that the j-th number tells. -/
def swp (p : Nat → Nat) (i j : Nat) : Nat → Nat := fun x => if x = j then p i else if x = i then p j else p x
def place (n i : Nat) : Nat := (n + i) % 18446744073709551616
def ord (s n c : Nat) : Nat → Nat → Nat
  | 0 => fun x => x
  | k + 1 => swp (ord s n c k) (c - 1 - k) (belowN s (place n (c - 1 - k)) (c - 1 - k + 1))

theorem swp_lt {p : Nat → Nat} {c i j : Nat} (hi : i < c) (hj : j < c) (h : ∀ x, x < c → p x < c) : ∀ x, x < c → swp p i j x < c := by
  intro x hx
  unfold swp
  split
  · exact h _ hi
  · split
    · exact h _ hj
    · exact h _ hx
theorem swp_inj {p : Nat → Nat} {c i j : Nat} (hi : i < c) (hj : j < c) (h : ∀ x y, x < c → y < c → p x = p y → x = y) :
    ∀ x y, x < c → y < c → swp p i j x = swp p i j y → x = y := by
  have key : ∀ x, x < c → ∃ x', x' < c ∧ swp p i j x = p x' ∧ ((x = j ∧ x' = i) ∨ (x ≠ j ∧ x = i ∧ x' = j) ∨ (x ≠ j ∧ x ≠ i ∧ x' = x)) := by
    intro x hx
    unfold swp
    by_cases h1 : x = j
    · exact ⟨i, hi, by rw [if_pos h1], by omega⟩
    · by_cases h2 : x = i
      · exact ⟨j, hj, by rw [if_neg h1, if_pos h2], by omega⟩
      · exact ⟨x, hx, by rw [if_neg h1, if_neg h2], by omega⟩
  intro x y hx hy e
  obtain ⟨x', hx', ex, dx⟩ := key x hx
  obtain ⟨y', hy', ey, dy⟩ := key y hy
  rw [ex, ey] at e
  have := h x' y' hx' hy' e
  omega
theorem ord_lt (s n c : Nat) : ∀ k, k < c → ∀ x, x < c → ord s n c k x < c
  | 0, _, x, hx => hx
  | k + 1, hk, x, hx => swp_lt (by omega) (Nat.lt_of_lt_of_le (belowN_lt (by omega)) (by omega)) (ord_lt s n c k (by omega)) x hx
theorem ord_inj (s n c : Nat) : ∀ k, k < c → ∀ x y, x < c → y < c → ord s n c k x = ord s n c k y → x = y
  | 0, _, x, y, _, _, e => e
  | k + 1, hk, x, y, hx, hy, e => swp_inj (by omega) (Nat.lt_of_lt_of_le (belowN_lt (by omega)) (by omega)) (ord_inj s n c k (by omega)) x y hx hy e

/-! The high word of a product, by halves. -/
theorem gprod_bound (x y : Int) (hx : 0 ≤ x) (hx' : x ≤ 4294967295) (hy : 0 ≤ y) (hy' : y ≤ 4294967295) : 0 ≤ x * y ∧ x * y ≤ 18446744065119617025 := by
  refine ⟨Int.mul_nonneg hx hy, ?_⟩
  calc x * y ≤ 4294967295 * 4294967295 := Int.mul_le_mul hx' hy' hy (by decide)
    _ = 18446744065119617025 := by decide
theorem gsplit_mul (x1 x0 y1 y0 : Int) : (x1 * 4294967296 + x0) * (y1 * 4294967296 + y0) = x1 * y1 * 18446744073709551616 + (x1 * y0 + x0 * y1) * 4294967296 + x0 * y0 := by grind
theorem wrU (n : Int) : IntKind.u64.wrap n = n % 18446744073709551616 := by simp [IntKind.wrap, IntKind.bits, IntKind.signed]
theorem gand_low32 (x : Int) (h0 : 0 ≤ x) (h1 : x < 18446744073709551616) : bits BinOp.and IntKind.u64 x 4294967295 = x % 4294967296 := by
  obtain ⟨n, rfl⟩ := Int.eq_ofNat_of_zero_le h0
  have e := bits_and_u64_nat n 4294967295 (by omega) (by decide)
  have m : n &&& 4294967295 = n % 4294967296 := Nat.and_two_pow_sub_one_eq_mod n 32
  rw [m] at e
  exact e.trans (by omega)
theorem high_split (A B C D : Int) (hA : 0 ≤ A ∧ A ≤ 18446744065119617025) (hB : 0 ≤ B ∧ B ≤ 18446744065119617025) (hC : 0 ≤ C ∧ C ≤ 18446744065119617025) (hD : 0 ≤ D ∧ D ≤ 18446744065119617025)
    (hh : (A * 18446744073709551616 + (B + D) * 4294967296 + C) / 18446744073709551616 < 18446744073709551616) :
    ((A % 18446744073709551616 + (B % 18446744073709551616 + C % 18446744073709551616 / 4294967296) % 18446744073709551616 / 4294967296) % 18446744073709551616 +
      (D % 18446744073709551616 + (B % 18446744073709551616 + C % 18446744073709551616 / 4294967296) % 18446744073709551616 % 4294967296) % 18446744073709551616 / 4294967296) % 18446744073709551616 =
      (A * 18446744073709551616 + (B + D) * 4294967296 + C) / 18446744073709551616 := by
  omega
theorem high_form (a b : Nat) (ha : a < 18446744073709551616) (hb : b < 18446744073709551616) :
    (((a : Int) / 4294967296 * ((b : Int) / 4294967296) % 18446744073709551616 + ((a : Int) / 4294967296 * ((b : Int) % 4294967296) % 18446744073709551616 + (a : Int) % 4294967296 * ((b : Int) % 4294967296) % 18446744073709551616 / 4294967296) % 18446744073709551616 / 4294967296) % 18446744073709551616 +
      ((a : Int) % 4294967296 * ((b : Int) / 4294967296) % 18446744073709551616 + ((a : Int) / 4294967296 * ((b : Int) % 4294967296) % 18446744073709551616 + (a : Int) % 4294967296 * ((b : Int) % 4294967296) % 18446744073709551616 / 4294967296) % 18446744073709551616 % 4294967296) % 18446744073709551616 / 4294967296) % 18446744073709551616 =
      ((a * b / 18446744073709551616 : Nat) : Int) := by
  have hlt : ((a * b / 18446744073709551616 : Nat) : Int) < 18446744073709551616 := by
    have : a * b / 18446744073709551616 < 18446744073709551616 := by
      rw [Nat.div_lt_iff_lt_mul (by decide)]
      exact Nat.mul_lt_mul'' ha hb
    omega
  rw [Int.natCast_ediv, Int.natCast_mul] at hlt ⊢
  have ex : (a : Int) = (a : Int) / 4294967296 * 4294967296 + (a : Int) % 4294967296 := by omega
  have ey : (b : Int) = (b : Int) / 4294967296 * 4294967296 + (b : Int) % 4294967296 := by omega
  have b1 : 0 ≤ (a : Int) / 4294967296 ∧ (a : Int) / 4294967296 ≤ 4294967295 := by omega
  have b2 : 0 ≤ (a : Int) % 4294967296 ∧ (a : Int) % 4294967296 ≤ 4294967295 := by omega
  have b3 : 0 ≤ (b : Int) / 4294967296 ∧ (b : Int) / 4294967296 ≤ 4294967295 := by omega
  have b4 : 0 ≤ (b : Int) % 4294967296 ∧ (b : Int) % 4294967296 ≤ 4294967295 := by omega
  generalize (a : Int) / 4294967296 = x1 at *
  generalize (a : Int) % 4294967296 = x0 at *
  generalize (b : Int) / 4294967296 = y1 at *
  generalize (b : Int) % 4294967296 = y0 at *
  have hxy : (a : Int) * (b : Int) = x1 * y1 * 18446744073709551616 + (x1 * y0 + x0 * y1) * 4294967296 + x0 * y0 := by rw [ex, ey]; exact gsplit_mul x1 x0 y1 y0
  rw [hxy] at hlt ⊢
  exact high_split _ _ _ _ (gprod_bound x1 y1 b1.1 b1.2 b3.1 b3.2) (gprod_bound x1 y0 b1.1 b1.2 b4.1 b4.2) (gprod_bound x0 y0 b2.1 b2.2 b4.1 b4.2) (gprod_bound x0 y1 b2.1 b2.2 b3.1 b3.2) hlt
theorem tdivU (x m : Int) : (x % 18446744073709551616).tdiv m = x % 18446744073709551616 / m := Int.tdiv_eq_ediv_of_nonneg (Int.emod_nonneg _ (by decide))
theorem tmodU (x m : Int) : (x % 18446744073709551616).tmod m = x % 18446744073709551616 % m := Int.tmod_eq_emod_of_nonneg (Int.emod_nonneg _ (by decide))
theorem halfU (x : Int) : x % 18446744073709551616 / 4294967296 % 18446744073709551616 = x % 18446744073709551616 / 4294967296 := by omega

end Go.Proofs.Ytlpoholdphihfaa
