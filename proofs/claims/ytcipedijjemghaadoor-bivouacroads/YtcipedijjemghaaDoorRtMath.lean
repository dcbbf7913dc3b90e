/- Stage 13's plain mathematics: lands, steps, walks, costs, paths. -/
import Derived.Test.YtcipedijjemghaaDoorGrMath
namespace Go.Proofs.YtcipedijjemghaaDoor
set_option linter.unusedVariables false

/-- Is there a cell (i, j), and is it open? -/
def opL (W H : Int) (O : Nat → Bool) (i j : Int) : Bool := decide (0 ≤ i ∧ i < W ∧ 0 ≤ j ∧ j < H) && O (W * j + i).toNat
def dI (s : Nat) : Int := if s = 0 ∨ s = 1 ∨ s = 7 then 1 else if s = 3 ∨ s = 4 ∨ s = 5 then -1 else 0
def dJ (s : Nat) : Int := if s = 1 ∨ s = 2 ∨ s = 3 then 1 else if s = 5 ∨ s = 6 ∨ s = 7 then -1 else 0
def prc (s : Nat) : Int := 2 + (s : Int) % 2
/-- Does step s go from (i, j)? -/
def mayL (W H : Int) (O : Nat → Bool) (i j : Int) (s : Nat) : Bool :=
  opL W H O i j && opL W H O (i + dI s) (j + dJ s) && (decide (s % 2 = 0) || (opL W H O (i + dI s) j && opL W H O i (j + dJ s)))
/-- Where to step s goes; -1: nowhere. -/
def goL (W H : Int) (O : Nat → Bool) (k : Int) (s : Nat) : Int :=
  if mayL W H O (k % W) (k / W) s = true then W * (k / W + dJ s) + k % W + dI s else -1
theorem prc_bd (s : Nat) : 2 ≤ prc s ∧ prc s ≤ 3 := by unfold prc; omega
theorem dI_bd (s : Nat) : -1 ≤ dI s ∧ dI s ≤ 1 := by unfold dI; split <;> (try split) <;> omega
theorem dJ_bd (s : Nat) : -1 ≤ dJ s ∧ dJ s ≤ 1 := by unfold dJ; split <;> (try split) <;> omega
theorem opL_iff {W H : Int} {O : Nat → Bool} {i j : Int} : opL W H O i j = true ↔ (0 ≤ i ∧ i < W ∧ 0 ≤ j ∧ j < H) ∧ O (W * j + i).toNat = true := by simp [opL]

/-- A cell's column and row. -/
theorem cell_of {W i j : Int} (h0 : 0 ≤ i) (h1 : i < W) : (W * j + i) % W = i ∧ (W * j + i) / W = j := by
  refine ⟨?_, ?_⟩
  · rw [Int.add_comm, Int.add_mul_emod_self_left]; exact Int.emod_eq_of_lt h0 h1
  · rw [Int.add_comm, Int.add_mul_ediv_left _ _ (by omega), Int.ediv_eq_zero_of_lt h0 h1]; omega
theorem cell_at {W : Int} (k : Int) : W * (k / W) + k % W = k := Int.mul_ediv_add_emod k W
theorem cell_rng {W H i j : Int} (h0 : 0 ≤ i) (h1 : i < W) (j0 : 0 ≤ j) (j1 : j < H) : 0 ≤ W * j + i ∧ W * j + i < W * H := by
  have a := Int.mul_nonneg (show 0 ≤ W by omega) j0
  have b := Int.mul_le_mul_of_nonneg_left (show j + 1 ≤ H by omega) (show 0 ≤ W by omega)
  rw [Int.mul_add] at b
  omega
/-- An open cell, by its number. -/
def isL (W H : Int) (O : Nat → Bool) (k : Int) : Prop := 0 ≤ k ∧ k < W * H ∧ O k.toNat = true
theorem isL_at {W H : Int} {O : Nat → Bool} {i j : Int} (h : opL W H O i j = true) : isL W H O (W * j + i) := by
  obtain ⟨⟨a, b, c, d⟩, e⟩ := opL_iff.1 h
  exact ⟨(cell_rng a b c d).1, (cell_rng a b c d).2, e⟩
theorem op_of {W H : Int} {O : Nat → Bool} {k : Int} (hW : 1 ≤ W) (h : isL W H O k) : opL W H O (k % W) (k / W) = true := by
  obtain ⟨h0, h1, h2⟩ := h
  refine opL_iff.2 ⟨⟨Int.emod_nonneg _ (by omega), Int.emod_lt_of_pos _ (by omega), Int.ediv_nonneg h0 (by omega), Int.ediv_lt_of_lt_mul (by omega) (by rw [Int.mul_comm]; exact h1)⟩, ?_⟩
  rw [cell_at]; exact h2
theorem may_of {W H : Int} {O : Nat → Bool} {i j : Int} {s : Nat} (h : mayL W H O i j s = true) : opL W H O i j = true ∧ opL W H O (i + dI s) (j + dJ s) = true ∧ (s % 2 = 0 ∨ opL W H O (i + dI s) j = true ∧ opL W H O i (j + dJ s) = true) := by
  simpa [mayL, and_assoc] using h
theorem go_open {W H : Int} {O : Nat → Bool} {k : Int} {s : Nat} (h : 0 ≤ goL W H O k s) : opL W H O (k % W) (k / W) = true ∧ mayL W H O (k % W) (k / W) s = true ∧ goL W H O k s = W * (k / W + dJ s) + (k % W + dI s) := by
  unfold goL at h ⊢
  split at h
  · rename_i hm
    rw [if_pos hm]
    exact ⟨(may_of hm).1, hm, by omega⟩
  · omega
theorem go_is {W H : Int} {O : Nat → Bool} {k : Int} {s : Nat} (h : 0 ≤ goL W H O k s) : isL W H O k ∧ isL W H O (goL W H O k s) := by
  obtain ⟨h1, h2, h3⟩ := go_open h
  have a := isL_at h1
  rw [cell_at] at a
  refine ⟨a, ?_⟩
  rw [h3]
  exact isL_at (may_of h2).2.1
theorem go_neg {W H : Int} {O : Nat → Bool} {k : Int} {s : Nat} (h : ¬ 0 ≤ goL W H O k s) : goL W H O k s = -1 := by
  unfold goL at h ⊢
  split
  · rename_i hm
    rw [if_pos hm] at h
    have := (isL_at (may_of hm).2.1).1
    omega
  · rfl
/-- The step back. -/
def opp (s : Nat) : Nat := (s + 4) % 8
theorem opp_lt (s : Nat) : opp s < 8 := Nat.mod_lt _ (by decide)
theorem opp_all {s : Nat} (hs : s < 8) : dI (opp s) = -dI s ∧ dJ (opp s) = -dJ s ∧ prc (opp s) = prc s ∧ (opp s % 2 = 0 ↔ s % 2 = 0) := by
  have : s = 0 ∨ s = 1 ∨ s = 2 ∨ s = 3 ∨ s = 4 ∨ s = 5 ∨ s = 6 ∨ s = 7 := by omega
  rcases this with rfl | rfl | rfl | rfl | rfl | rfl | rfl | rfl <;> decide
theorem go_back {W H : Int} {O : Nat → Bool} {k : Int} {s : Nat} (hs : s < 8) (h : 0 ≤ goL W H O k s) : goL W H O (goL W H O k s) (opp s) = k := by
  obtain ⟨h1, h2, h3⟩ := go_open h
  obtain ⟨m1, m2, m3⟩ := may_of h2
  obtain ⟨q1, q2⟩ := opL_iff.1 m2
  obtain ⟨e1, e2⟩ := cell_of (j := k / W + dJ s) q1.1 q1.2.1
  obtain ⟨o1, o2, o3, o4⟩ := opp_all hs
  rw [h3]
  generalize hn : W * (k / W + dJ s) + (k % W + dI s) = n at *
  unfold goL
  rw [e1, e2, o1, o2]
  have b1 : k % W + dI s + -dI s = k % W := by omega
  have b2 : k / W + dJ s + -dJ s = k / W := by omega
  have hm : mayL W H O (k % W + dI s) (k / W + dJ s) (opp s) = true := by
    unfold mayL
    rw [o1, o2, b1, b2, m1, m2]
    rcases m3 with m3 | ⟨m3, m4⟩
    · simp [o4.2 m3]
    · simp [m3, m4]
  rw [if_pos hm, b2]
  have := cell_at (W := W) k
  omega

/-- A walk from k to b, and what it costs. -/
inductive Wk (W H : Int) (O : Nat → Bool) (b : Int) : Int → Int → Prop
  | here : isL W H O b → Wk W H O b b 0
  | step {k n c : Int} (s : Nat) : s < 8 → goL W H O k s = n → 0 ≤ n → Wk W H O b n c → Wk W H O b k (c + prc s)
section
variable {W H : Int} {O : Nat → Bool}
theorem Wk.nonneg {b k c : Int} (h : Wk W H O b k c) : 0 ≤ c := by
  induction h with
  | here => omega
  | step s _ _ _ _ ih => have := prc_bd s; omega
theorem Wk.ends {b k c : Int} (h : Wk W H O b k c) : isL W H O k ∧ isL W H O b := by
  induction h with
  | here h => exact ⟨h, h⟩
  | step s _ e h0 _ ih => subst e; exact ⟨(go_is h0).1, ih.2⟩
theorem Wk.trans {a b k c d : Int} (h : Wk W H O a k c) (h2 : Wk W H O b a d) : Wk W H O b k (c + d) := by
  induction h with
  | here => rw [Int.zero_add]; exact h2
  | step s hs e h0 _ ih =>
    have := Wk.step s hs e h0 ih
    rwa [Int.add_right_comm] at this
theorem Wk.one {k n : Int} (s : Nat) (hs : s < 8) (e : goL W H O k s = n) (h0 : 0 ≤ n) : Wk W H O n k (prc s) := by
  have := Wk.step s hs e h0 (Wk.here (by rw [← e] at h0 ⊢; exact (go_is h0).2))
  rwa [Int.zero_add] at this
theorem Wk.symm {b k c : Int} (h : Wk W H O b k c) : Wk W H O k b c := by
  induction h with
  | here h => exact .here h
  | step s hs e h0 _ ih =>
    subst e
    refine ih.trans ?_
    have := Wk.one (W := W) (H := H) (O := O) (opp s) (opp_lt s) (go_back hs h0) (go_is h0).1.1
    rwa [(opp_all hs).2.2.1] at this
theorem Wk.mono {O' : Nat → Bool} (ho : ∀ i, O i = true → O' i = true) {b k c : Int} (h : Wk W H O b k c) : Wk W H O' b k c := by
  induction h with
  | here h => exact .here ⟨h.1, h.2.1, ho _ h.2.2⟩
  | @step k1 n1 c1 s hs e h0 _ ih =>
    refine .step s hs ?_ h0 ih
    subst e
    obtain ⟨h1, h2, h3⟩ := go_open h0
    rw [h3]
    have hop : ∀ i j, opL W H O i j = true → opL W H O' i j = true := fun i j q => opL_iff.2 ⟨(opL_iff.1 q).1, ho _ (opL_iff.1 q).2⟩
    obtain ⟨m1, m2, m3⟩ := may_of h2
    have hm : mayL W H O' (k1 % W) (k1 / W) s = true := by
      unfold mayL
      rw [hop _ _ m1, hop _ _ m2]
      rcases m3 with m3 | ⟨m3, m4⟩
      · simp [m3]
      · simp [hop _ _ m3, hop _ _ m4]
    unfold goL
    rw [if_pos hm]
    omega

/-- The cost: the least. -/
def IsC (W H : Int) (O : Nat → Bool) (b k c : Int) : Prop := Wk W H O b k c ∧ ∀ c', Wk W H O b k c' → c ≤ c'
theorem IsC.same {b k c d : Int} (h : IsC W H O b k c) (h2 : IsC W H O b k d) : c = d := by
  have := h.2 _ h2.1
  have := h2.2 _ h.1
  omega
theorem IsC.ex {b k c : Int} (h : Wk W H O b k c) : ∃ d, IsC W H O b k d := by
  have key : ∀ m : Nat, ∀ c : Int, c.toNat < m → Wk W H O b k c → ∃ d, IsC W H O b k d := by
    intro m
    induction m with
    | zero => intro c hc; omega
    | succ m ih =>
      intro c hc hw
      by_cases hl : ∀ c', Wk W H O b k c' → c ≤ c'
      · exact ⟨c, hw, hl⟩
      · obtain ⟨c', hc'⟩ := Classical.not_forall.1 hl
        obtain ⟨h1, h2⟩ := Classical.not_imp.1 hc'
        have := h1.nonneg
        exact ih c' (by omega) h1
  exact key (c.toNat + 1) c (by omega) h
open Classical in
/-- The cost from k to b; -1: there is none. -/
noncomputable def cst (W H : Int) (O : Nat → Bool) (b k : Int) : Int := if h : ∃ c, IsC W H O b k c then Classical.choose h else -1
theorem cst_is {b k c : Int} (h : IsC W H O b k c) : cst W H O b k = c := by
  unfold cst
  rw [dif_pos ⟨c, h⟩]
  exact (Classical.choose_spec (⟨c, h⟩ : ∃ c, IsC W H O b k c)).same h
theorem cst_none {b k : Int} (h : ∀ c, ¬ Wk W H O b k c) : cst W H O b k = -1 := by
  unfold cst
  rw [dif_neg]
  rintro ⟨c, hc⟩
  exact h c hc.1
theorem cst_of {b k c : Int} (h : Wk W H O b k c) : IsC W H O b k (cst W H O b k) ∧ 0 ≤ cst W H O b k ∧ cst W H O b k ≤ c := by
  obtain ⟨d, hd⟩ := IsC.ex h
  rw [cst_is hd]
  exact ⟨hd, hd.1.nonneg, hd.2 _ h⟩
theorem cst_or (b k : Int) : (cst W H O b k = -1 ∧ ∀ c, ¬ Wk W H O b k c) ∨ (0 ≤ cst W H O b k ∧ IsC W H O b k (cst W H O b k)) := by
  by_cases h : ∃ c, Wk W H O b k c
  · obtain ⟨c, hc⟩ := h
    exact .inr ⟨(cst_of hc).2.1, (cst_of hc).1⟩
  · have : ∀ c, ¬ Wk W H O b k c := fun c hc => h ⟨c, hc⟩
    exact .inl ⟨cst_none this, this⟩
theorem cst_wk {b k : Int} (h : 0 ≤ cst W H O b k) : Wk W H O b k (cst W H O b k) := by
  rcases cst_or (W := W) (H := H) (O := O) b k with ⟨e, _⟩ | ⟨_, e⟩
  · omega
  · exact e.1
theorem cst_symm (a b : Int) : cst W H O a b = cst W H O b a := by
  rcases cst_or (W := W) (H := H) (O := O) b a with ⟨e, h⟩ | ⟨_, h⟩
  · rw [e]; exact cst_none fun c hc => h c hc.symm
  · exact cst_is ⟨h.1.symm, fun c hc => h.2 c hc.symm⟩
theorem cst_tri {a b m : Int} (h1 : 0 ≤ cst W H O m a) (h2 : 0 ≤ cst W H O b m) : 0 ≤ cst W H O b a ∧ cst W H O b a ≤ cst W H O m a + cst W H O b m := by
  have := cst_of ((cst_wk h1).trans (cst_wk h2))
  exact ⟨this.2.1, this.2.2⟩
theorem cst_step {b k : Int} {s : Nat} (hs : s < 8) (h0 : 0 ≤ goL W H O k s) (h1 : 0 ≤ cst W H O b (goL W H O k s)) : 0 ≤ cst W H O b k ∧ cst W H O b k ≤ cst W H O b (goL W H O k s) + prc s := by
  have := cst_of (Wk.step s hs rfl h0 (cst_wk h1))
  exact ⟨this.2.1, this.2.2⟩
theorem cst_here {b : Int} (h : isL W H O b) : cst W H O b b = 0 := by
  have h1 := cst_of (Wk.here h)
  omega
theorem cst_zero {b k : Int} (h : cst W H O b k = 0) : k = b := by
  have hw := cst_wk (W := W) (H := H) (O := O) (b := b) (k := k) (by omega)
  rw [h] at hw
  generalize hz : (0 : Int) = z at hw
  cases hw with
  | here => rfl
  | step s _ _ _ hw =>
    have := hw.nonneg
    have := prc_bd s
    omega

/-- Does step s lead on, by these costs? -/
def wrk (W H : Int) (O : Nat → Bool) (d : Int → Int) (k : Int) (s : Nat) : Prop := 0 ≤ goL W H O k s ∧ 0 ≤ d (goL W H O k s) ∧ d (goL W H O k s) + prc s = d k
/-- n is the cell behind k. -/
def IsNx (W H : Int) (O : Nat → Bool) (d : Int → Int) (k n : Int) : Prop := ∃ s, s < 8 ∧ wrk W H O d k s ∧ (∀ t, t < s → ¬ wrk W H O d k t) ∧ goL W H O k s = n
theorem IsNx.same {d : Int → Int} {k n m : Int} (h : IsNx W H O d k n) (h2 : IsNx W H O d k m) : n = m := by
  obtain ⟨s, _, hs, hl, rfl⟩ := h
  obtain ⟨t, _, ht, hl2, rfl⟩ := h2
  rcases Nat.lt_trichotomy s t with h | rfl | h
  · exact absurd hs (hl2 s h)
  · rfl
  · exact absurd ht (hl t h)
/-- Each cell but the last has one behind it. -/
theorem nx_ex {b k : Int} (h : 0 < cst W H O b k) : ∃ s, s < 8 ∧ wrk W H O (cst W H O b) k s := by
  have hw := cst_wk (W := W) (H := H) (O := O) (b := b) (k := k) (by omega)
  generalize hz : cst W H O b k = z at hw
  cases hw with
  | here => omega
  | step s hs e h0 hw =>
    subst e
    rename_i c
    obtain ⟨h1, h2, h3⟩ := cst_of hw
    have := cst_step (b := b) hs h0 h2
    exact ⟨s, hs, h0, h2, by omega⟩
theorem least_of {p : Nat → Prop} {s : Nat} (h : p s) : ∃ t, t ≤ s ∧ p t ∧ ∀ u, u < t → ¬ p u := by
  induction s using Nat.strongRecOn with
  | _ s ih =>
    by_cases hl : ∀ u, u < s → ¬ p u
    · exact ⟨s, Nat.le_refl _, h, hl⟩
    · obtain ⟨u, hu⟩ := Classical.not_forall.1 hl
      obtain ⟨h1, h2⟩ := Classical.not_imp.1 hu
      obtain ⟨t, a, b, c⟩ := ih u h1 (Classical.not_not.1 h2)
      exact ⟨t, by omega, b, c⟩
theorem nx_is {b k : Int} (h : 0 < cst W H O b k) : ∃ n, IsNx W H O (cst W H O b) k n := by
  obtain ⟨s, hs, hw⟩ := nx_ex h
  obtain ⟨t, h1, h2, h3⟩ := least_of hw
  exact ⟨_, t, by omega, h2, h3, rfl⟩
/-- The path from k to b, by these costs. -/
inductive Pth (W H : Int) (O : Nat → Bool) (d : Int → Int) (b : Int) : Int → List Int → Prop
  | last : Pth W H O d b b [b]
  | more {k n : Int} {l : List Int} : 0 < d k → IsNx W H O d k n → Pth W H O d b n l → Pth W H O d b k (k :: l)
end
end Go.Proofs.YtcipedijjemghaaDoor
