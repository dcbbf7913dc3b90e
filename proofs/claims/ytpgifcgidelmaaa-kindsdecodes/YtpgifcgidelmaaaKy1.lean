/- Plain: what is encoded is decoded as it was. -/
import Derived.Test.YtpgifcgidelmaaaKg8
namespace Go.Proofs.Ytpgifcgidelmaaa
open Go.RowKit
set_option linter.unusedVariables false

/-- These bytes lie at a. -/
def At (p : Nat → Nat) (a : Nat) (l : List Nat) : Prop := ∀ i, i < l.length → p (a + i) = l.getD i 0
theorem At.left {p : Nat → Nat} {a : Nat} {l m : List Nat} (h : At p a (l ++ m)) : At p a l := by
  intro i hi
  rw [h i (by rw [List.length_append]; omega)]
  simp [List.getD, List.getElem?_append_left hi]
theorem At.right {p : Nat → Nat} {a b : Nat} {l m : List Nat} (h : At p a (l ++ m)) (hb : a + l.length = b) : At p b m := by
  intro i hi
  have := h (l.length + i) (by rw [List.length_append]; omega)
  rw [← Nat.add_assoc, hb] at this
  rw [this]
  simp [List.getD, List.getElem?_append_right (Nat.le_add_right _ _)]
theorem At.num {p : Nat → Nat} {a s v : Nat} (h : At p a (le s v)) (hv : v < 256 ^ s) : num p a s = v :=
  num_le s v a p hv (fun i hi => h i (by rw [le_length]; exact hi))
theorem flds_at {p : Nat → Nat} {a s : Nat} {z : Nat → Int} : ∀ {n i : Nat}, At p a (flds s z n) → i < n → At p (a + i * s) (le s (z i).toNat)
  | 0, i, _, hi => absurd hi (Nat.not_lt_zero _)
  | n + 1, i, h, hi => by
    rw [flds] at h
    by_cases e : i = n
    · subst e
      exact h.right (by rw [flds_length])
    · exact flds_at h.left (by omega)
theorem kbys_at {p : Nat → Nat} {K : Nat → Nat → Int} {a : Nat} : ∀ {n i : Nat}, At p a (kbys K n) → i < n → At p (a + 35 * i) (kby (K i))
  | 0, i, _, hi => absurd hi (Nat.not_lt_zero _)
  | n + 1, i, h, hi => by
    rw [kbys] at h
    by_cases e : i = n
    · subst e
      exact h.right (by rw [kbys_length])
    · exact kbys_at h.left (by omega)
theorem wbys_at {p : Nat → Nat} {U : Nat → Nat → Int} {F : Nat → Bool} {a : Nat} : ∀ {n i : Nat}, At p a (wbys U F n) → i < n → At p (a + 14 * i) (wby (U i) (F i))
  | 0, i, _, hi => absurd hi (Nat.not_lt_zero _)
  | n + 1, i, h, hi => by
    rw [wbys] at h
    by_cases e : i = n
    · subst e
      exact h.right (by rw [wbys_length])
    · exact wbys_at h.left (by omega)
/-- A number that went to a float comes back. -/
theorem spd_back (v : Int) (h1 : -70368744177664 ≤ v) (h2 : v < 70368744177664) : ofV (spd v) = v ∧ ofE (spd v) = 0 := by
  have hr := (spd_in v h1 h2).1
  have pe : pw 0 = pw (-16) * 65536 := pw_at (-16) 0 16 (by decide) (by decide)
  have p := pw_pos (-16)
  have hx : 65536 * fval (spd v) = v * (pw 0 : Int) := by rw [fval_eq hr, pe, Int.natCast_mul]; grind
  have hf : fl (spd v) = v := by unfold fl; rw [hx, Int.mul_ediv_cancel _ (by omega)]
  have hs := (isF_size hr).1
  have hok : OfOk (spd v) := ⟨hs, by omega, by omega⟩
  unfold ofV ofE
  rw [if_pos hok, if_pos hok, if_neg (by omega), hf]
  exact ⟨rfl, rfl⟩
theorem int_num {p : Nat → Nat} {a s : Nat} {x : Int} (h : At p a (le s x.toNat)) (h0 : 0 ≤ x) (hv : x < ((256 ^ s : Nat) : Int)) : ((num p a s : Nat) : Int) = x := by
  rw [h.num (by omega)]
  omega
theorem lst2 (a b c : Int) (l : List Int) : lst (a :: b :: c :: l) 2 = c := rfl
theorem dk_two (p : Nat → Nat) (q : Nat) : dk p q 2 = ofV (num p (q + 27) 8) := lst2 _ _ _ _
theorem dw_two (p : Nat → Nat) (q : Nat) : dw p q 2 = ofV (num p (q + 6) 8) := lst2 _ _ _ _
theorem kind_back {p : Nat → Nat} {q : Nat} {f : Nat → Int} {m : Int} (h : At p q (kby f)) (ho : okK f m = true) (hm : m ≤ 16) : (∀ j, j < 20 → dk p q j = f j) ∧ ofE (num p (q + 27) 8) = 0 := by
  obtain ⟨⟨s0, s1⟩, hj⟩ := okK_bd ho hm
  have hb := okK_byte ho hm
  unfold kby at h
  have h0 := h.left
  have r1 := h.right (b := q + 1) (by rw [flds_length])
  have h1 := r1.left
  have r2 := r1.right (b := q + 17) (by rw [flds_length])
  have h2 := r2.left
  have h3 := r2.right (b := q + 27) (by rw [flds_length])
  have hn : num p (q + 27) 8 = spd (f 2) := h3.num (spd_in (f 2) (by omega) (by omega)).2.1
  obtain ⟨b0, b1⟩ := spd_back (f 2) (by omega) (by omega)
  refine ⟨fun j hj20 => ?_, by rw [hn]; exact b1⟩
  have z0 := int_num (flds_at h0 (i := 0) (by decide)) (hb 0 (by decide) (by decide) (by decide) (by decide) (by decide) (by decide) (by decide) (by decide) (by decide) (by decide)).1 (by have := hb 0 (by decide) (by decide) (by decide) (by decide) (by decide) (by decide) (by decide) (by decide) (by decide) (by decide); show f 0 < _; simp; omega)
  have z1 := int_num (flds_at h1 (i := 0) (by decide)) (hj 1 (by decide) (by decide)).1 (by have := hj 1 (by decide) (by decide); show f 1 < _; simp; omega)
  have z3 := int_num (flds_at h1 (i := 1) (by decide)) (hj 3 (by decide) (by decide)).1 (by have := hj 3 (by decide) (by decide); show f 3 < _; simp; omega)
  have z8 := int_num (flds_at h1 (i := 2) (by decide)) (hj 8 (by decide) (by decide)).1 (by have := hj 8 (by decide) (by decide); show f 8 < _; simp; omega)
  have z9 := int_num (flds_at h1 (i := 3) (by decide)) (hj 9 (by decide) (by decide)).1 (by have := hj 9 (by decide) (by decide); show f 9 < _; simp; omega)
  have z10 := int_num (flds_at h1 (i := 4) (by decide)) (hj 10 (by decide) (by decide)).1 (by have := hj 10 (by decide) (by decide); show f 10 < _; simp; omega)
  have z14 := int_num (flds_at h1 (i := 5) (by decide)) (hj 14 (by decide) (by decide)).1 (by have := hj 14 (by decide) (by decide); show f 14 < _; simp; omega)
  have z15 := int_num (flds_at h1 (i := 6) (by decide)) (hj 15 (by decide) (by decide)).1 (by have := hj 15 (by decide) (by decide); show f 15 < _; simp; omega)
  have z19 := int_num (flds_at h1 (i := 7) (by decide)) (hj 19 (by decide) (by decide)).1 (by have := hj 19 (by decide) (by decide); show f 19 < _; simp; omega)
  have z4 := int_num (flds_at h2 (i := 0) (by decide)) (hb 4 (by decide) (by decide) (by decide) (by decide) (by decide) (by decide) (by decide) (by decide) (by decide) (by decide)).1 (by have := hb 4 (by decide) (by decide) (by decide) (by decide) (by decide) (by decide) (by decide) (by decide) (by decide) (by decide); show f 4 < _; simp; omega)
  have z5 := int_num (flds_at h2 (i := 1) (by decide)) (hb 5 (by decide) (by decide) (by decide) (by decide) (by decide) (by decide) (by decide) (by decide) (by decide) (by decide)).1 (by have := hb 5 (by decide) (by decide) (by decide) (by decide) (by decide) (by decide) (by decide) (by decide) (by decide) (by decide); show f 5 < _; simp; omega)
  have z6 := int_num (flds_at h2 (i := 2) (by decide)) (hb 6 (by decide) (by decide) (by decide) (by decide) (by decide) (by decide) (by decide) (by decide) (by decide) (by decide)).1 (by have := hb 6 (by decide) (by decide) (by decide) (by decide) (by decide) (by decide) (by decide) (by decide) (by decide) (by decide); show f 6 < _; simp; omega)
  have z7 := int_num (flds_at h2 (i := 3) (by decide)) (hb 7 (by decide) (by decide) (by decide) (by decide) (by decide) (by decide) (by decide) (by decide) (by decide) (by decide)).1 (by have := hb 7 (by decide) (by decide) (by decide) (by decide) (by decide) (by decide) (by decide) (by decide) (by decide) (by decide); show f 7 < _; simp; omega)
  have z11 := int_num (flds_at h2 (i := 4) (by decide)) (hb 11 (by decide) (by decide) (by decide) (by decide) (by decide) (by decide) (by decide) (by decide) (by decide) (by decide)).1 (by have := hb 11 (by decide) (by decide) (by decide) (by decide) (by decide) (by decide) (by decide) (by decide) (by decide) (by decide); show f 11 < _; simp; omega)
  have z12 := int_num (flds_at h2 (i := 5) (by decide)) (hb 12 (by decide) (by decide) (by decide) (by decide) (by decide) (by decide) (by decide) (by decide) (by decide) (by decide)).1 (by have := hb 12 (by decide) (by decide) (by decide) (by decide) (by decide) (by decide) (by decide) (by decide) (by decide) (by decide); show f 12 < _; simp; omega)
  have z13 := int_num (flds_at h2 (i := 6) (by decide)) (hb 13 (by decide) (by decide) (by decide) (by decide) (by decide) (by decide) (by decide) (by decide) (by decide) (by decide)).1 (by have := hb 13 (by decide) (by decide) (by decide) (by decide) (by decide) (by decide) (by decide) (by decide) (by decide) (by decide); show f 13 < _; simp; omega)
  have z16 := int_num (flds_at h2 (i := 7) (by decide)) (hb 16 (by decide) (by decide) (by decide) (by decide) (by decide) (by decide) (by decide) (by decide) (by decide) (by decide)).1 (by have := hb 16 (by decide) (by decide) (by decide) (by decide) (by decide) (by decide) (by decide) (by decide) (by decide) (by decide); show f 16 < _; simp; omega)
  have z17 := int_num (flds_at h2 (i := 8) (by decide)) (hb 17 (by decide) (by decide) (by decide) (by decide) (by decide) (by decide) (by decide) (by decide) (by decide) (by decide)).1 (by have := hb 17 (by decide) (by decide) (by decide) (by decide) (by decide) (by decide) (by decide) (by decide) (by decide) (by decide); show f 17 < _; simp; omega)
  have z18 := int_num (flds_at h2 (i := 9) (by decide)) (hb 18 (by decide) (by decide) (by decide) (by decide) (by decide) (by decide) (by decide) (by decide) (by decide) (by decide)).1 (by have := hb 18 (by decide) (by decide) (by decide) (by decide) (by decide) (by decide) (by decide) (by decide) (by decide) (by decide); show f 18 < _; simp; omega)
  have : j = 0 ∨ j = 1 ∨ j = 2 ∨ j = 3 ∨ j = 4 ∨ j = 5 ∨ j = 6 ∨ j = 7 ∨ j = 8 ∨ j = 9 ∨ j = 10 ∨ j = 11 ∨ j = 12 ∨ j = 13 ∨ j = 14 ∨ j = 15 ∨ j = 16 ∨ j = 17 ∨ j = 18 ∨ j = 19 := by omega
  rcases this with rfl | rfl | rfl | rfl | rfl | rfl | rfl | rfl | rfl | rfl | rfl | rfl | rfl | rfl | rfl | rfl | rfl | rfl | rfl | rfl
  · exact z0
  · exact z1
  · rw [dk_two, hn]
    exact b0
  · exact z3
  · exact z4
  · exact z5
  · exact z6
  · exact z7
  · exact z8
  · exact z9
  · exact z10
  · exact z11
  · exact z12
  · exact z13
  · exact z14
  · exact z15
  · exact z16
  · exact z17
  · exact z18
  · exact z19
theorem weapon_back {p : Nat → Nat} {q : Nat} {f : Nat → Int} {b : Bool} (h : At p q (wby f b)) (ho : okW f = true) : (∀ j, j < 5 → dw p q j = f j) ∧ du p q = b ∧ num p (q + 5) 1 ≤ 1 ∧ ofE (num p (q + 6) 8) = 0 := by
  obtain ⟨e0, e1, e2, e3, e4, e5, e6, e7, e8, e9⟩ := okW_bd ho
  unfold wby at h
  have h0 := h.left
  have r1 := h.right (b := q + 2) (by rw [flds_length])
  have h1 := r1.left
  have h3 := r1.right (b := q + 6) (by rw [flds_length])
  have hn : num p (q + 6) 8 = spd (f 2) := h3.num (spd_in (f 2) (by omega) (by omega)).2.1
  obtain ⟨b0, b1⟩ := spd_back (f 2) (by omega) (by omega)
  have z1 := int_num (flds_at h0 (i := 0) (by decide)) (show 0 ≤ f 1 by omega) (by show f 1 < _; simp; omega)
  have z0 := int_num (flds_at h1 (i := 0) (by decide)) (show 0 ≤ f 0 by omega) (by show f 0 < _; simp; omega)
  have z3 := int_num (flds_at h1 (i := 1) (by decide)) (show 0 ≤ f 3 by omega) (by show f 3 < _; simp; omega)
  have z4 := int_num (flds_at h1 (i := 2) (by decide)) (show 0 ≤ f 4 by omega) (by show f 4 < _; simp; omega)
  have z5 : num p (q + 5) 1 = if b then 1 else 0 := by
    have := flds_at h1 (i := 3) (by decide)
    have h5 : At p (q + 5) (le 1 (if b then 1 else 0)) := by
      cases b
      · exact this
      · exact this
    exact h5.num (by cases b <;> decide)
  refine ⟨fun j hj => ?_, ?_, ?_, by rw [hn]; exact b1⟩
  · have : j = 0 ∨ j = 1 ∨ j = 2 ∨ j = 3 ∨ j = 4 := by omega
    rcases this with rfl | rfl | rfl | rfl | rfl
    · exact z0
    · exact z1
    · rw [dw_two, hn]
      exact b0
    · exact z3
    · exact z4
  · unfold du
    rw [z5]
    cases b <;> rfl
  · rw [z5]
    cases b <;> decide
theorem okK_congr {f f' : Nat → Int} {m : Int} (h : ∀ j, j < 20 → f j = f' j) : okK f m = okK f' m := by
  rw [okK_ref, okK_ref]
  unfold rA rB rC rD
  rw [h 0 (by decide), h 1 (by decide), h 2 (by decide), h 3 (by decide), h 4 (by decide), h 5 (by decide), h 6 (by decide), h 7 (by decide), h 8 (by decide), h 9 (by decide), h 10 (by decide), h 11 (by decide), h 12 (by decide), h 13 (by decide), h 14 (by decide), h 15 (by decide), h 16 (by decide), h 17 (by decide), h 18 (by decide), h 19 (by decide)]
theorem okW_congr {f f' : Nat → Int} (h : ∀ j, j < 5 → f j = f' j) : okW f = okW f' := by
  rw [okW_ref, okW_ref]
  rw [h 0 (by decide), h 1 (by decide), h 2 (by decide), h 3 (by decide), h 4 (by decide)]
/-- The bytes of a book that may be are that book's. -/
theorem book_back {n m : Nat} {K U : Nat → Nat → Int} {F : Nat → Bool} {p : Nat → Nat} (h : Chk n m K U 0 0) (hp : At p 0 (bby K U F n m)) :
    p 0 = n ∧ p 1 = m ∧ Dec p (bby K U F n m).length 0 0 ∧ (∀ i, i < n → ∀ j, j < 20 → dK p i j = K i j) ∧ (∀ i, i < m → (∀ j, j < 5 → dU p i j = U i j) ∧ dF p i = F i) := by
  obtain ⟨n1, n2, m2, hk, hw⟩ : 1 ≤ n ∧ n ≤ 16 ∧ m ≤ 16 ∧ (∀ j, j < n → okK (K j) m = true) ∧ ∀ j, j < m → okW (U j) = true := by
    cases h with
    | fine a b c d e => exact ⟨a, b, c, d, e⟩
  have hlen := bby_length K U F n m
  unfold bby at hp
  have h0 := hp.left
  have r1 := hp.right (b := 2) (by rw [flds_length])
  have hK := r1.left
  have hW := r1.right (b := 2 + 35 * n) (by rw [kbys_length])
  have q0 : num p 0 1 = n := by
    have := int_num (flds_at h0 (i := 0) (by decide)) (show (0 : Int) ≤ (n : Int) by omega) (by show (n : Int) < _; simp; omega)
    exact Int.ofNat.inj this
  have q1 : num p 1 1 = m := by
    have := int_num (flds_at h0 (i := 1) (by decide)) (show (0 : Int) ≤ (m : Int) by omega) (by show (m : Int) < _; simp; omega)
    exact Int.ofNat.inj this
  rw [num_one] at q0 q1
  have bk : ∀ i, i < n → (∀ j, j < 20 → dK p i j = K i j) ∧ kE p i = 0 := fun i hi => by
    have := kind_back (kbys_at hK hi) (hk i hi) (by omega)
    exact this
  have bw : ∀ i, i < m → (∀ j, j < 5 → dU p i j = U i j) ∧ dF p i = F i ∧ wB p i ≤ 1 ∧ wE p i = 0 := fun i hi => by
    have := weapon_back (wbys_at hW hi) (hw i hi)
    unfold dU dF wB wE wq
    rw [q0]
    exact this
  refine ⟨q0, q1, ?_, fun i hi => (bk i hi).1, fun i hi => ⟨(bw i hi).1, (bw i hi).2.1⟩⟩
  refine .check 0 0 (by omega) (by rw [hlen]; unfold need; rw [q0, q1]) (fun j hj => (bk j (by omega)).2) (fun j hj => (bw j (by omega)).2.2) ?_
  rw [q0, q1]
  exact .fine n1 n2 m2 (fun j hj => by rw [okK_congr (bk j hj).1]; exact hk j hj) (fun j hj => by rw [okW_congr (bw j hj).1]; exact hw j hj)
end Go.Proofs.Ytpgifcgidelmaaa
