/- What Decode answers, and contracts of the reader's book. -/
import Derived.Test.YtpgifcgidelmaaaKg5
namespace Go.Proofs.Ytpgifcgidelmaaa
open Go.RowKit
set_option linter.unusedVariables false

theorem Chk.same {n m : Nat} {K U : Nat → Nat → Int} {e a e' a' : Int} (h : Chk n m K U e a) (h' : Chk n m K U e' a') : e = e' ∧ a = a' := by
  have tri : ∀ {P : Nat → Bool} {i j : Nat}, (∀ k, k < i → P k = true) → P i = false → (∀ k, k < j → P k = true) → P j = false → i = j := by
    intro P i j h1 h2 h3 h4
    rcases Nat.lt_trichotomy i j with q | q | q
    · have := h3 i q; rw [h2] at this; cases this
    · exact q
    · have := h1 j q; rw [h4] at this; cases this
  have no : ∀ {P : Nat → Bool} {i n : Nat}, (∀ k, k < n → P k = true) → i < n → P i = false → False := by
    intro P i n h1 h2 h3
    have := h1 i h2; rw [h3] at this; cases this
  cases h with
  | count q =>
    cases h' with
    | count q' => exact ⟨rfl, rfl⟩
    | kind i h1 h2 h3 => omega
    | weapon i h1 h2 h3 => omega
    | fine h1 h2 h3 => omega
  | kind i h1 h2 h3 h4 h5 h6 =>
    cases h' with
    | count q' => omega
    | kind j k1 k2 k3 k4 k5 k6 =>
      obtain rfl := tri (P := fun j => okK (K j) m) h5 h6 k5 k6
      exact ⟨rfl, rfl⟩
    | weapon j k1 k2 k3 k4 => exact (no (P := fun j => okK (K j) m) k4 h4 h6).elim
    | fine k1 k2 k3 k4 => exact (no (P := fun j => okK (K j) m) k4 h4 h6).elim
  | weapon i h1 h2 h3 h4 h5 h6 h7 =>
    cases h' with
    | count q' => omega
    | kind j k1 k2 k3 k4 k5 k6 => exact (no (P := fun j => okK (K j) m) h4 k4 k6).elim
    | weapon j k1 k2 k3 k4 k5 k6 k7 =>
      obtain rfl := tri (P := fun j => okW (U j)) h6 h7 k6 k7
      exact ⟨rfl, rfl⟩
    | fine k1 k2 k3 k4 k5 => exact (no (P := fun j => okW (U j)) k5 h5 h7).elim
  | fine h1 h2 h3 h4 h5 =>
    cases h' with
    | count q' => omega
    | kind j k1 k2 k3 k4 k5 k6 => exact (no (P := fun j => okK (K j) m) h4 k4 k6).elim
    | weapon j k1 k2 k3 k4 k5 k6 k7 => exact (no (P := fun j => okW (U j)) h5 k5 k7).elim
    | fine => exact ⟨rfl, rfl⟩

/-- Where the kinds and the weapons of the bytes begin; what they are. -/
def kq (i : Nat) : Nat := 2 + 35 * i
def wq (p : Nat → Nat) (i : Nat) : Nat := 2 + 35 * p 0 + 14 * i
noncomputable def dK (p : Nat → Nat) (i : Nat) : Nat → Int := dk p (kq i)
noncomputable def dU (p : Nat → Nat) (i : Nat) : Nat → Int := dw p (wq p i)
def dF (p : Nat → Nat) (i : Nat) : Bool := du p (wq p i)
noncomputable def kE (p : Nat → Nat) (i : Nat) : Int := ofE (num p (kq i + 27) 8)
def wB (p : Nat → Nat) (i : Nat) : Nat := num p (wq p i + 5) 1
noncomputable def wE (p : Nat → Nat) (i : Nat) : Int := ofE (num p (wq p i + 6) 8)
/-- What Decode answers: an error's number, and where. -/
inductive Dec (p : Nat → Nat) (N : Nat) : Int → Int → Prop
  | short : N < 2 → Dec p N 2 N
  | few : 2 ≤ N → N < need p → Dec p N 2 N
  | many : 2 ≤ N → need p < N → Dec p N 7 (need p : Nat)
  | kind (i : Nat) : 2 ≤ N → N = need p → i < p 0 → (∀ j, j < i → kE p j = 0) → kE p i ≠ 0 → Dec p N (kE p i) ((kq i + 27 : Nat) : Int)
  | under (i : Nat) : 2 ≤ N → N = need p → (∀ j, j < p 0 → kE p j = 0) → i < p 1 → (∀ j, j < i → wB p j ≤ 1 ∧ wE p j = 0) → 1 < wB p i → Dec p N 3 ((wq p i + 5 : Nat) : Int)
  | speed (i : Nat) : 2 ≤ N → N = need p → (∀ j, j < p 0 → kE p j = 0) → i < p 1 → (∀ j, j < i → wB p j ≤ 1 ∧ wE p j = 0) → wB p i ≤ 1 → wE p i ≠ 0 → Dec p N (wE p i) ((wq p i + 6 : Nat) : Int)
  | check (e a : Int) : 2 ≤ N → N = need p → (∀ j, j < p 0 → kE p j = 0) → (∀ j, j < p 1 → wB p j ≤ 1 ∧ wE p j = 0) → Chk (p 0) (p 1) (dK p) (dU p) e a → Dec p N e a
theorem Dec.same {p : Nat → Nat} {N : Nat} {e a e' a' : Int} (h : Dec p N e a) (h' : Dec p N e' a') : e = e' ∧ a = a' := by
  cases h with
  | short h1 =>
    cases h' with
    | short => exact ⟨rfl, rfl⟩
    | few k1 => omega
    | many k1 => omega
    | kind i k1 => omega
    | under i k1 => omega
    | speed i k1 => omega
    | check _ _ k1 => omega
  | few h1 h2 =>
    cases h' with
    | short => omega
    | few k1 => exact ⟨rfl, rfl⟩
    | many k1 => omega
    | kind i k1 => omega
    | under i k1 => omega
    | speed i k1 => omega
    | check _ _ k1 => omega
  | many h1 h2 =>
    cases h' with
    | short => omega
    | few k1 => omega
    | many k1 => exact ⟨rfl, rfl⟩
    | kind i k1 => omega
    | under i k1 => omega
    | speed i k1 => omega
    | check _ _ k1 => omega
  | kind i h1 h2 h3 h4 h5 =>
    cases h' with
    | short => omega
    | few k1 => omega
    | many k1 => omega
    | kind j k1 k2 k3 k4 k5 =>
      rcases Nat.lt_trichotomy i j with q | q | q
      · exact absurd (k4 i q) h5
      · subst q; exact ⟨rfl, rfl⟩
      · exact absurd (h4 j q) k5
    | under j k1 k2 k3 => exact absurd (k3 i h3) h5
    | speed j k1 k2 k3 => exact absurd (k3 i h3) h5
    | check _ _ k1 k2 k3 => exact absurd (k3 i h3) h5
  | under i h1 h2 h3 h4 h5 h6 =>
    cases h' with
    | short => omega
    | few k1 => omega
    | many k1 => omega
    | kind j k1 k2 k3 k4 k5 => exact absurd (h3 j k3) k5
    | under j k1 k2 k3 k4 k5 k6 =>
      rcases Nat.lt_trichotomy i j with q | q | q
      · have := (k5 i q).1; omega
      · subst q; exact ⟨rfl, rfl⟩
      · have := (h5 j q).1; omega
    | speed j k1 k2 k3 k4 k5 k6 k7 =>
      rcases Nat.lt_trichotomy i j with q | q | q
      · have := (k5 i q).1; omega
      · subst q; omega
      · exact absurd (h5 j q).2 k7
    | check _ _ k1 k2 k3 k4 => have := (k4 i h4).1; omega
  | speed i h1 h2 h3 h4 h5 h6 h7 =>
    cases h' with
    | short => omega
    | few k1 => omega
    | many k1 => omega
    | kind j k1 k2 k3 k4 k5 => exact absurd (h3 j k3) k5
    | under j k1 k2 k3 k4 k5 k6 =>
      rcases Nat.lt_trichotomy i j with q | q | q
      · exact absurd (k5 i q).2 h7
      · subst q; omega
      · have := (h5 j q).1; omega
    | speed j k1 k2 k3 k4 k5 k6 k7 =>
      rcases Nat.lt_trichotomy i j with q | q | q
      · exact absurd (k5 i q).2 h7
      · subst q; exact ⟨rfl, rfl⟩
      · exact absurd (h5 j q).2 k7
    | check _ _ k1 k2 k3 k4 => exact absurd (k4 i h4).2 h7
  | check e a h1 h2 h3 h4 h5 =>
    cases h' with
    | short => omega
    | few k1 => omega
    | many k1 => omega
    | kind j k1 k2 k3 k4 k5 => exact absurd (h3 j k3) k5
    | under j k1 k2 k3 k4 k5 k6 => have := (h4 j k4).1; omega
    | speed j k1 k2 k3 k4 k5 k6 k7 => exact absurd (h4 j k4).2 k7
    | check e a k1 k2 k3 k4 k5 => exact h5.same k5

/-! ### The frame of book -/
theorem grown_own {w W W' : World} {row r : Option Nat} (h : w.grownBy W row) (k : W.grownBy W' r) (hr : ∀ b, r = some b → w.heap.size ≤ b) : w.grownBy W' row :=
  ⟨k.os.trans h.os, k.tape.trans h.tape, k.output.trans h.output, Nat.le_trans h.size k.size, fun b hb hne => (k.block b (Nat.lt_of_lt_of_le hb h.size) (fun e => by have := hr b e.symm; omega)).trans (h.block b hb hne)⟩
theorem rows_differ {X : World} {b1 b2 s1 s2 n1 n2 : Nat} {e1 e2 : TypeId} {v1 v2 : Value} {x1 x2 : List Value} (h1 : X.ownsRow b1 e1 s1 v1 n1 x1) (h2 : X.ownsRow b2 e2 s2 v2 n2 x2) (hne : e1 ≠ e2) : v1.ownBlock = none ∨ v1.ownBlock ≠ v2.ownBlock := by
  rcases h1.2 with ⟨rfl, _⟩ | ⟨g, cap, cur, rfl, _, hg, _⟩
  · exact .inl rfl
  · refine .inr fun e => ?_
    rcases h2.2 with ⟨rfl, _⟩ | ⟨g', cap', cur', rfl, _, hg', _⟩
    · simp [Value.ownBlock] at e
    · simp [Value.ownBlock] at e
      subst e
      rw [hg] at hg'
      injection hg' with hg'
      injection hg' with _ q
      exact hne q
end Go.Proofs.Ytpgifcgidelmaaa
