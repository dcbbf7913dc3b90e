/- Plain mathematics for the reference's numbers without end: digits to the base 1000, the lowest one first. No Go program in sight. -/
import Derived.WalkKit
namespace Go.Proofs.YtckeplbmkjoiaaaDoor
open Go.RowKit
set_option linter.unusedVariables false

/-- A digit, 0 behind the end. -/
def dn (ds : List Nat) (i : Nat) : Nat := ds.getD i 0
/-- The number of all digits. -/
def val : List Nat → Nat
  | [] => 0
  | d :: t => d + 1000 * val t
/-- The number of the first k digits. -/
def valTo (ds : List Nat) : Nat → Nat
  | 0 => 0
  | k + 1 => valTo ds k + dn ds k * 1000 ^ k
/-- Each digit is one. -/
def Dok (ds : List Nat) : Prop := ∀ i, dn ds i < 1000
/-- No noughts at the end. -/
def Canon (ds : List Nat) : Prop := ∀ n, ds.length = n + 1 → dn ds n ≠ 0

theorem dn_past {ds : List Nat} {i : Nat} (h : ds.length ≤ i) : dn ds i = 0 := by
  unfold dn
  simp [List.getD, List.getElem?_eq_none h]
theorem dn_cons_zero (d : Nat) (t : List Nat) : dn (d :: t) 0 = d := rfl
theorem dn_cons_succ (d : Nat) (t : List Nat) (i : Nat) : dn (d :: t) (i + 1) = dn t i := rfl
theorem dn_drop (ds : List Nat) (k i : Nat) : dn (ds.drop k) i = dn ds (k + i) := by
  unfold dn
  simp [List.getD, List.getElem?_drop]
theorem dn_append_lt (ds es : List Nat) (i : Nat) (h : i < ds.length) : dn (ds ++ es) i = dn ds i := by
  unfold dn
  simp [List.getD, List.getElem?_append_left h]
theorem dn_append_at (ds : List Nat) (d : Nat) : dn (ds ++ [d]) ds.length = d := by
  unfold dn
  simp
theorem dn_take_lt (ds : List Nat) (n i : Nat) (h : i < n) : dn (ds.take n) i = dn ds i := by
  unfold dn
  simp [List.getD, h]

theorem val_drop (ds : List Nat) (k : Nat) : val (ds.drop k) = dn ds k + 1000 * val (ds.drop (k + 1)) := by
  induction ds generalizing k with
  | nil => simp [val, dn]
  | cons d t ih =>
    cases k with
    | zero => simp [val, dn_cons_zero]
    | succ k => simpa [dn_cons_succ] using ih k
theorem val_split (ds : List Nat) (k : Nat) : val ds = valTo ds k + 1000 ^ k * val (ds.drop k) := by
  induction k with
  | zero => simp [valTo]
  | succ k ih =>
    rw [ih, val_drop, valTo, Nat.pow_succ]
    grind
theorem val_to {ds : List Nat} {k : Nat} (h : ds.length ≤ k) : valTo ds k = val ds := by
  have := val_split ds k
  rw [List.drop_eq_nil_of_le h] at this
  simp [val] at this
  omega
theorem valTo_lt {ds : List Nat} (h : Dok ds) (k : Nat) : valTo ds k < 1000 ^ k := by
  induction k with
  | zero => simp [valTo]
  | succ k ih =>
    have hd := h k
    rw [valTo, Nat.pow_succ]
    have : dn ds k * 1000 ^ k ≤ 999 * 1000 ^ k := Nat.mul_le_mul_right _ (by omega)
    omega
theorem valTo_le (ds : List Nat) (k : Nat) : valTo ds k ≤ val ds := by
  have := val_split ds k
  omega
theorem val_lt {ds : List Nat} (h : Dok ds) : val ds < 1000 ^ ds.length := by
  have := valTo_lt h ds.length
  rwa [val_to (Nat.le_refl _)] at this
theorem valTo_append (ds es : List Nat) (k : Nat) (h : k ≤ ds.length) : valTo (ds ++ es) k = valTo ds k := by
  induction k with
  | zero => rfl
  | succ k ih => rw [valTo, valTo, ih (by omega), dn_append_lt _ _ _ (by omega)]
theorem val_snoc (ds : List Nat) (d : Nat) : val (ds ++ [d]) = val ds + d * 1000 ^ ds.length := by
  have h := val_to (ds := ds ++ [d]) (k := ds.length + 1) (by simp)
  rw [valTo, valTo_append _ _ _ (Nat.le_refl _), dn_append_at, val_to (Nat.le_refl _)] at h
  omega
theorem dok_nil : Dok [] := fun i => by simp [dn]
theorem dok_snoc {ds : List Nat} {d : Nat} (h : Dok ds) (hd : d < 1000) : Dok (ds ++ [d]) := by
  intro i
  rcases Nat.lt_trichotomy i ds.length with hi | hi | hi
  · rw [dn_append_lt _ _ _ hi]; exact h i
  · subst hi; rw [dn_append_at]; exact hd
  · rw [dn_past (by simp; omega)]; omega
theorem dok_take {ds : List Nat} (h : Dok ds) (n : Nat) : Dok (ds.take n) := by
  intro i
  by_cases hi : i < n
  · rw [dn_take_lt _ _ _ hi]; exact h i
  · rw [dn_past (by simp; omega)]; omega
theorem val_zeros (n : Nat) : val (List.replicate n 0) = 0 := by
  induction n with
  | zero => rfl
  | succ n ih => simp [List.replicate_succ, val, ih]
theorem val_append (ds es : List Nat) : val (ds ++ es) = val ds + 1000 ^ ds.length * val es := by
  induction ds with
  | nil => simp [val]
  | cons d t ih =>
    simp only [List.cons_append, val, ih, List.length_cons, Nat.pow_succ]
    grind

/-- Trim: what is cut off is noughts. -/
theorem val_take {ds : List Nat} {n : Nat} (hn : n ≤ ds.length) (h : ∀ i, n ≤ i → dn ds i = 0) : val (ds.take n) = val ds := by
  have e : ∀ k, valTo ds (n + k) = valTo ds n := by
    intro k
    induction k with
    | zero => rfl
    | succ k ih => rw [← Nat.add_assoc, valTo, ih, h _ (by omega)]; omega
  have e1 := e (ds.length - n)
  rw [show n + (ds.length - n) = ds.length by omega, val_to (Nat.le_refl _)] at e1
  have e2 : valTo (ds.take n) n = valTo ds n := by
    have : ∀ k, k ≤ n → valTo (ds.take n) k = valTo ds k := by
      intro k
      induction k with
      | zero => intro _; rfl
      | succ k ih => intro hk; rw [valTo, valTo, ih (by omega), dn_take_lt _ _ _ (by omega)]
    exact this n (Nat.le_refl _)
  rw [← val_to (ds := ds.take n) (k := n) (by simp; omega), e2, e1]
theorem canon_take {ds : List Nat} {n : Nat} (hn : n ≤ ds.length) (h : n = 0 ∨ dn ds (n - 1) ≠ 0) : Canon (ds.take n) := by
  intro m hm
  have hl : (ds.take n).length = n := by simp; omega
  rw [hl] at hm
  rcases h with h | h
  · omega
  · rw [dn_take_lt _ _ _ (by omega)]
    rw [show n - 1 = m by omega] at h
    exact h
theorem canon_nil : Canon [] := fun n h => by simp at h
theorem canon_zero {ds : List Nat} (h : Canon ds) : val ds = 0 ↔ ds = [] := by
  constructor
  · intro hv
    rcases hl : ds.length with _ | n
    · exact List.eq_nil_of_length_eq_zero hl
    · exfalso
      apply h n hl
      have h1 := val_split ds n
      rw [val_drop] at h1
      have hp : 0 < 1000 ^ n := Nat.pow_pos (by omega)
      rcases Nat.eq_zero_or_pos (dn ds n) with h2 | h2
      · exact h2
      · exfalso
        have : 1000 ^ n * 1 ≤ 1000 ^ n * (dn ds n + 1000 * val (ds.drop (n + 1))) := Nat.mul_le_mul_left _ (by omega)
        omega
  · rintro rfl
    rfl
/-- A number's digits are no more than its size asks. -/
theorem canon_len {ds : List Nat} {m : Nat} (h : Canon ds) (hv : val ds < 1000 ^ m) : ds.length ≤ m := by
  rcases hl : ds.length with _ | n
  · omega
  · have h0 := h n hl
    have h1 := val_split ds n
    rw [val_drop] at h1
    have : 1000 ^ n * 1 ≤ 1000 ^ n * (dn ds n + 1000 * val (ds.drop (n + 1))) := Nat.mul_le_mul_left _ (by omega)
    have h2 : 1000 ^ n < 1000 ^ m := by omega
    have := (Nat.pow_lt_pow_iff_right (a := 1000) (by omega)).1 h2
    omega

/-! ### sizes -/
theorem sizes_step {a b : List Nat} (ha : Dok a) (hb : Dok b) (i : Nat) (h : val (a.drop (i + 1)) = val (b.drop (i + 1))) :
    (dn a i < dn b i → val a < val b) ∧ (dn b i < dn a i → val b < val a) ∧ (dn a i = dn b i → val (a.drop i) = val (b.drop i)) := by
  have a1 := val_split a i
  have b1 := val_split b i
  have a2 := val_drop a i
  have b2 := val_drop b i
  have a3 := valTo_lt ha i
  have b3 := valTo_lt hb i
  refine ⟨fun hl => ?_, fun hl => ?_, fun he => by omega⟩
  · have : 1000 ^ i * (val (a.drop i) + 1) ≤ 1000 ^ i * val (b.drop i) := Nat.mul_le_mul_left _ (by omega)
    grind
  · have : 1000 ^ i * (val (b.drop i) + 1) ≤ 1000 ^ i * val (a.drop i) := Nat.mul_le_mul_left _ (by omega)
    grind

/-! ### plus -/
theorem plus_step {o a b c k x : Nat} {d : Nat} (hp : x = 1000 ^ k) (h : o + c * x = a + b) (s da db : Nat) (hs : s = da + db + c) :
    (o + s % 1000 * x) + s / 1000 * (x * 1000) = (a + da * x) + (b + db * x) := by
  have e : s = s % 1000 + 1000 * (s / 1000) := (Nat.mod_add_div s 1000).symm
  generalize s % 1000 = r at *
  generalize s / 1000 = q at *
  subst hs
  grind

/-! ### minus -/
theorem minus_end {o va vb br x : Nat} (ho : o < x) (hab : vb ≤ va) (hbr : br ≤ 1) (h : o + vb = va + br * x) : o = va - vb ∧ br = 0 := by
  rcases Nat.lt_or_ge br 1 with h1 | h1
  · have : br = 0 := by omega
    subst this
    simp at h
    omega
  · have : br = 1 := by omega
    subst this
    omega
theorem canon_len_le {a b : List Nat} (ha : Dok a) (hb : Canon b) (h : val b ≤ val a) : b.length ≤ a.length :=
  canon_len hb (Nat.lt_of_le_of_lt h (val_lt ha))

end Go.Proofs.YtckeplbmkjoiaaaDoor
