/- Plain: numbers as bytes, the lowest first. -/
namespace Go.Proofs.Ytpgifcgidelmaaa
set_option linter.unusedVariables false

/-- The first k bytes of v, the lowest first. -/
def le : Nat → Nat → List Nat
  | 0, _ => []
  | k + 1, v => v % 256 :: le k (v / 256)
theorem le_length : ∀ k v, (le k v).length = k
  | 0, _ => rfl
  | k + 1, v => by simp [le, le_length k]
theorem le_end : ∀ k v, le (k + 1) v = le k v ++ [v / 256 ^ k % 256]
  | 0, v => by simp [le]
  | k + 1, v => by
    have h := le_end k (v / 256)
    rw [le, h]
    have e : v / 256 / 256 ^ k = v / 256 ^ (k + 1) := by rw [Nat.div_div_eq_div_mul, Nat.pow_succ, Nat.mul_comm]
    rw [e]
    rfl
theorem le_lt : ∀ k v, ∀ b ∈ le k v, b < 256
  | 0, _, b, h => by simp [le] at h
  | k + 1, v, b, h => by
    simp only [le, List.mem_cons] at h
    rcases h with rfl | h
    · omega
    · exact le_lt k _ b h
/-- The number of the first k of these bytes. -/
def num (p : Nat → Nat) (at_ : Nat) : Nat → Nat
  | 0 => 0
  | k + 1 => p at_ + 256 * num p (at_ + 1) k
theorem num_lt (p : Nat → Nat) (hp : ∀ i, p i < 256) : ∀ k a, num p a k < 256 ^ k
  | 0, _ => by simp [num]
  | k + 1, a => by
    have := num_lt p hp k (a + 1)
    have := hp a
    rw [num, Nat.pow_succ]
    omega
theorem num_end (p : Nat → Nat) : ∀ k a, num p a (k + 1) = num p a k + 256 ^ k * p (a + k)
  | 0, a => by simp [num]
  | k + 1, a => by
    rw [num, num_end p k (a + 1), num]
    have e : a + 1 + k = a + (k + 1) := by omega
    rw [e, Nat.pow_succ]
    grind
theorem num_congr {p q : Nat → Nat} : ∀ k a b, (∀ i, i < k → p (a + i) = q (b + i)) → num p a k = num q b k
  | 0, _, _, _ => rfl
  | k + 1, a, b, h => by
    rw [num, num, num_congr k (a + 1) (b + 1) (fun i hi => by have := h (i + 1) (by omega); rw [Nat.add_assoc, Nat.add_assoc, Nat.add_comm 1 i]; exact this)]
    have := h 0 (by omega)
    simp only [Nat.add_zero] at this
    rw [this]
/-- Bytes of a number are read back. -/
theorem num_le : ∀ k v a (p : Nat → Nat), v < 256 ^ k → (∀ i, i < k → p (a + i) = (le k v).getD i 0) → num p a k = v
  | 0, v, a, p, hv, _ => by simp [num] at *; omega
  | k + 1, v, a, p, hv, h => by
    have h0 := h 0 (by omega)
    simp [le] at h0
    have ih := num_le k (v / 256) (a + 1) p (by rw [Nat.pow_succ] at hv; omega) (fun i hi => by
      have := h (i + 1) (by omega)
      rw [Nat.add_assoc, Nat.add_comm 1 i, this]
      simp [le])
    rw [num, ih, h0]
    omega
end Go.Proofs.Ytpgifcgidelmaaa
