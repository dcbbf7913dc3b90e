/- Stage 13's plain mathematics: how costs fall while they spread. -/
import Derived.Test.YtcipedijjemghaaDoorRtMath
namespace Go.Proofs.YtcipedijjemghaaDoor
set_option linter.unusedVariables false

/-- How many of the first n have a cost. -/
def cnS (F : Nat → Int) : Nat → Nat
  | 0 => 0
  | n + 1 => cnS F n + (if F n = 1048576 then 0 else 1)
theorem cnS_congr {F G : Nat → Int} : ∀ {n : Nat}, (∀ i, i < n → F i = G i) → cnS F n = cnS G n
  | 0, _ => rfl
  | n + 1, h => by unfold cnS; rw [cnS_congr (n := n) (fun i hi => h i (by omega)), h n (by omega)]
theorem cnS_le (F : Nat → Int) : ∀ n, cnS F n ≤ n
  | 0 => Nat.le_refl _
  | n + 1 => by have := cnS_le F n; unfold cnS; split <;> omega
theorem cnS_upd {F : Nat → Int} {m : Nat} {v : Int} (hv : v ≠ 1048576) : ∀ {n : Nat}, m < n → cnS (upd F m v) n = cnS F n + (if F m = 1048576 then 1 else 0)
  | n + 1, h => by
    unfold cnS
    by_cases e : m = n
    · subst e
      rw [cnS_congr (F := upd F m v) (G := F) (fun i hi => upd_other F m v (by omega)), upd_same, if_neg hv]
      split <;> rfl
    · rw [cnS_upd hv (show m < n by omega), upd_other F m v (by omega)]
      omega
theorem cnS_pos {F : Nat → Int} : ∀ {n m : Nat}, m < n → F m ≠ 1048576 → 1 ≤ cnS F n
  | n + 1, m, h, hm => by
    unfold cnS
    by_cases e : m = n
    · subst e
      rw [if_neg hm]; omega
    · have := cnS_pos (n := n) (m := m) (by omega) hm
      omega
theorem sumR_upd_le {R : Nat → Int} {m : Nat} {v : Int} (h0 : 0 ≤ v) (hv : v < R m) {n : Nat} (h : m < n) : sumR (upd R m v) n + 1 ≤ sumR R n := sumR_upd h0 hv h
theorem sumR_le {R : Nat → Int} {M : Nat} : ∀ {n : Nat}, (∀ i, i < n → R i ≤ (M : Int)) → sumR R n ≤ n * M
  | 0, _ => by simp [sumR]
  | n + 1, h => by
    have h1 := sumR_le (R := R) (n := n) (fun i hi => h i (by omega))
    have h2 := h n (by omega)
    unfold sumR
    rw [Nat.add_mul]
    omega

section
variable (W H : Int) (O : Nat → Bool) (N : Nat) (b : Nat)
/-- Costs that are those of walks. -/
structure Wj (F : Nat → Int) : Prop where
  lt : b < N
  zero : F b = 0
  walk : ∀ k, k < N → F k = 1048576 ∨ (Wk W H O b k (F k) ∧ F k ≤ 3 * (cnS F N : Int) - 3)
/-- From k no step of the first s leads to a cell whose cost could be less. -/
def Rlx (F : Nat → Int) (k : Nat) (s : Nat) : Prop := ∀ t, t < 8 → t < s → ∀ m : Nat, m < N → goL W H O k t = (m : Int) → F m ≤ F k + prc t
end
section
variable {W H : Int} {O : Nat → Bool} {N : Nat} {b : Nat}
theorem Wj.bd {F : Nat → Int} (h : Wj W H O N b F) (hN : N ≤ 4096) {k : Nat} (hk : k < N) : 0 ≤ F k ∧ F k ≤ 1048576 ∧ (F k ≠ 1048576 → F k ≤ 12285 ∧ isL W H O k) := by
  have := cnS_le F N
  rcases h.walk k hk with e | ⟨e, e2⟩
  · refine ⟨by omega, by omega, fun h => absurd e h⟩
  · have := e.nonneg
    exact ⟨this, by omega, fun _ => ⟨by omega, e.ends.1⟩⟩
theorem Wj.start (hb : b < N) (ho : isL W H O b) : Wj W H O N b (upd (fun _ => 1048576) b 0) := by
  have h1 : 1 ≤ cnS (upd (fun _ => 1048576) b 0) N := cnS_pos hb (by rw [upd_same]; decide)
  refine ⟨hb, upd_same _ _ _, fun k hk => ?_⟩
  by_cases e : k = b
  · subst e
    rw [upd_same]
    exact .inr ⟨Wk.here ho, by omega⟩
  · exact .inl (upd_other _ _ _ e)
/-- One cost more falls: that of k, by the step s from k to m. -/
theorem Wj.fall {F : Nat → Int} (h : Wj W H O N b F) (hN : N ≤ 4096) {k m s : Nat} (hs : s < 8) (hk : k < N) (hm : m < N) (e : goL W H O k s = (m : Int)) (hf : F m ≠ 1048576) (hl : F m + prc s < F k) : Wj W H O N b (upd F k (F m + prc s)) := by
  obtain ⟨m0, m1, m2⟩ := h.bd hN hm
  obtain ⟨k0, k1, k2⟩ := h.bd hN hk
  have hp := prc_bd s
  have hne : k ≠ b := by rintro rfl; have := h.zero; omega
  have hc := cnS_upd (F := F) (m := k) (v := F m + prc s) (by omega) hk
  refine ⟨h.lt, (upd_other _ _ _ (Ne.symm hne)).trans h.zero, fun j hj => ?_⟩
  by_cases ej : j = k
  · subst ej
    rw [upd_same]
    obtain ⟨q1, q2⟩ := (h.walk m hm).resolve_left hf
    refine .inr ⟨Wk.step s hs e (by omega) q1, ?_⟩
    rw [hc]
    split
    · push_cast; omega
    · rename_i hx
      have := ((h.walk j hk).resolve_left hx).2
      push_cast; omega
  · rw [upd_other _ _ _ ej]
    rcases h.walk j hj with q | ⟨q1, q2⟩
    · exact .inl q
    · refine .inr ⟨q1, ?_⟩
      rw [hc]; push_cast; omega
/-- No walk of a cost of at most M costs less than what is held, once whatever is held below M leads on. -/
theorem Wj.low {F : Nat → Int} (h : Wj W H O N b F) (hN : N ≤ 4096) (hA : (N : Int) = W * H) {M : Int} (hr : ∀ k, k < N → F k ≠ 1048576 → F k < M → Rlx W H O N F k 8) {k c : Int} (hw : Wk W H O b k c) : c ≤ M → c < 1048576 → F k.toNat ≤ c := by
  induction hw with
  | here hb => intro _ _; rw [show ((b : Int)).toNat = b by omega, h.zero]; omega
  | @step k n c s hs e h0 hw ih =>
    intro hc hc2
    have hp := prc_bd s
    have hi := ih (by omega) (by omega)
    obtain ⟨i1, i2⟩ := go_is (by rw [e]; exact h0)
    rw [e] at i2
    have hn : n.toNat < N := by have := i2.2.1; omega
    have hk : k.toNat < N := by have := i1.2.1; have := i1.1; omega
    have ek : ((k.toNat : Nat) : Int) = k := by have := i1.1; omega
    have en : ((n.toNat : Nat) : Int) = n := by omega
    have hb2 := go_back hs (by rw [e]; exact h0)
    rw [e] at hb2
    have := hr n.toNat hn (by omega) (by omega) (opp s) (opp_lt s) (opp_lt s) k.toNat hk (by rw [en, hb2, ek])
    rw [(opp_all hs).2.2.1] at this
    omega
/-- Where all leads on, whoever has a walk has a cost. -/
theorem Wj.far {F : Nat → Int} (h : Wj W H O N b F) (hN : N ≤ 4096) (hA : (N : Int) = W * H) (hr : ∀ k, k < N → F k ≠ 1048576 → Rlx W H O N F k 8) {k c : Int} (hw : Wk W H O b k c) : F k.toNat ≠ 1048576 ∧ F k.toNat ≤ c := by
  induction hw with
  | here hb => rw [show ((b : Int)).toNat = b by omega, h.zero]; omega
  | @step k n c s hs e h0 hw ih =>
    have hp := prc_bd s
    obtain ⟨i1, i2⟩ := go_is (by rw [e]; exact h0)
    rw [e] at i2
    have hn : n.toNat < N := by have := i2.2.1; omega
    have hk : k.toNat < N := by have := i1.2.1; have := i1.1; omega
    have ek : ((k.toNat : Nat) : Int) = k := by have := i1.1; omega
    have en : ((n.toNat : Nat) : Int) = n := by omega
    have hb2 := go_back hs (by rw [e]; exact h0)
    rw [e] at hb2
    have := hr n.toNat hn ih.1 (opp s) (opp_lt s) (opp_lt s) k.toNat hk (by rw [en, hb2, ek])
    rw [(opp_all hs).2.2.1] at this
    have := ((h.bd hN hn).2.2 ih.1).1
    omega
end
/-- What the program holds for a cost. -/
def fin13 (z : Int) : Int := if z = -1 then 1048576 else z
section
variable (W H : Int) (O : Nat → Bool) (N : Nat) (b : Nat) (u : Int)
/-- The costs are right: of all cells, or, where u has a cost, of those that cost no more than u; and none is too small. -/
def Exa (F : Nat → Int) : Prop := ∀ k : Nat, k < N →
  (cst W H O b k = -1 → F k = 1048576) ∧
  (0 ≤ cst W H O b k → (F k = 1048576 ∨ cst W H O b k ≤ F k ∧ F k ≤ 12285) ∧ (u < 0 ∨ cst W H O b u = -1 ∨ cst W H O b k ≤ cst W H O b u → F k = cst W H O b k ∧ F k ≤ 12285))
/-- Costs that are spreading: what waits, the cell that is being visited, and the step that is next. -/
structure Dj (F : Nat → Int) (l : List (Int × Int)) (c : Int) (s : Nat) : Prop where
  wj : Wj W H O N b F
  todo : ∀ k : Nat, k < N → F k ≠ 1048576 → ((k : Int), F k) ∈ l ∨ ((k : Int) ≠ u ∧ Rlx W H O N F k (if (k : Int) = c then s else 8))
  ent : ∀ e ∈ l, 0 ≤ e.1 ∧ e.1 < N ∧ F e.1.toNat ≤ e.2 ∧ e.2 ≤ 12285
end
section
variable {W H : Int} {O : Nat → Bool} {N : Nat} {b : Nat} {u : Int}
theorem Wj.none {F : Nat → Int} (h : Wj W H O N b F) {k : Nat} (hk : k < N) (hd : cst W H O b k = -1) : F k = 1048576 := by
  rcases h.walk k hk with e | ⟨e, _⟩
  · exact e
  · have := cst_of e
    omega
theorem Wj.ge {F : Nat → Int} (h : Wj W H O N b F) (hN : N ≤ 4096) {k : Nat} (hk : k < N) : F k = 1048576 ∨ cst W H O b k ≤ F k ∧ F k ≤ 12285 := by
  rcases h.walk k hk with e | ⟨e, _⟩
  · exact .inl e
  · by_cases hf : F k = 1048576
    · exact .inl hf
    · exact .inr ⟨(cst_of e).2.2, ((h.bd hN hk).2.2 hf).1⟩
/-- All leads on. -/
theorem Wj.exact {F : Nat → Int} (h : Wj W H O N b F) (hN : N ≤ 4096) (hA : (N : Int) = W * H) (hr : ∀ k, k < N → F k ≠ 1048576 → Rlx W H O N F k 8) {k : Nat} (hk : k < N) : F k = fin13 (cst W H O b k) ∧ cst W H O b k ≤ 12285 := by
  unfold fin13
  rcases cst_or (W := W) (H := H) (O := O) b k with ⟨e, _⟩ | ⟨e, hc⟩
  · rw [if_pos e]
    exact ⟨h.none hk e, by omega⟩
  · rw [if_neg (by omega)]
    have h1 := h.far hN hA hr hc.1
    simp only [Int.toNat_natCast] at h1
    have h2 := (h.bd hN hk).2.2 h1.1
    have h3 := (h.ge hN hk).resolve_left h1.1
    exact ⟨by omega, by omega⟩
theorem Wj.exa {F : Nat → Int} (h : Wj W H O N b F) (hN : N ≤ 4096) (hA : (N : Int) = W * H) (hr : ∀ k, k < N → F k ≠ 1048576 → Rlx W H O N F k 8) : Exa W H O N b u F := by
  intro k hk
  obtain ⟨h1, h2⟩ := h.exact hN hA hr hk
  unfold fin13 at h1
  refine ⟨fun e => by rw [if_pos e] at h1; exact h1, fun e => ?_⟩
  rw [if_neg (by omega)] at h1
  exact ⟨.inr ⟨by omega, by omega⟩, fun _ => ⟨h1, by omega⟩⟩
theorem Dj.start (hb : b < N) (ho : isL W H O b) : Dj W H O N b u (upd (fun _ => 1048576) b 0) [((b : Int), 0)] (-1) 0 := by
  refine ⟨Wj.start hb ho, fun k hk hf => ?_, fun e he => ?_⟩
  · by_cases e : k = b
    · subst e; rw [upd_same]; exact .inl (by simp)
    · rw [upd_other _ _ _ e] at hf; exact absurd rfl hf
  · rw [List.mem_singleton] at he
    subst he
    refine ⟨by simp, by simpa using hb, ?_, by simp⟩
    rw [Int.toNat_natCast, upd_same]; exact Int.le_refl _
/-- What is taken was cheaper in between. -/
theorem Dj.stale {F : Nat → Int} {l l' : List (Int × Int)} {c x : Int} (h : Dj W H O N b u F l (-1) 0) (hl : ∀ e, e ∈ l ↔ e = (c, x) ∨ e ∈ l') (hx : x ≠ F c.toNat) : Dj W H O N b u F l' (-1) 0 := by
  refine ⟨h.wj, fun k hk hf => ?_, fun e he => h.ent e ((hl e).2 (.inr he))⟩
  rcases h.todo k hk hf with q | q
  · rcases (hl _).1 q with q | q
    · injection q with q1 q2
      subst q1 q2
      exact absurd rfl hx
    · exact .inl q
  · exact .inr q
/-- It is to be visited. -/
theorem Dj.begin {F : Nat → Int} {l l' : List (Int × Int)} {c x : Int} (h : Dj W H O N b u F l (-1) 0) (hl : ∀ e, e ∈ l ↔ e = (c, x) ∨ e ∈ l') (hu : c ≠ u) : Dj W H O N b u F l' c 0 := by
  refine ⟨h.wj, fun k hk hf => ?_, fun e he => h.ent e ((hl e).2 (.inr he))⟩
  by_cases e : (k : Int) = c
  · rw [if_pos e]
    refine .inr ⟨by rw [e]; exact hu, fun t _ ht => absurd ht (by omega)⟩
  · rw [if_neg e]
    rcases h.todo k hk hf with q | q
    · rcases (hl _).1 q with q | q
      · injection q with q1 q2
        exact absurd q1 e
      · exact .inl q
    · rw [if_neg (by omega)] at q
      exact .inr q
theorem Dj.ended {F : Nat → Int} {l : List (Int × Int)} {c : Int} (h : Dj W H O N b u F l c 8) : Dj W H O N b u F l (-1) 0 := by
  refine ⟨h.wj, fun k hk hf => ?_, h.ent⟩
  rcases h.todo k hk hf with q | q
  · exact .inl q
  · rw [if_neg (by omega)]
    refine .inr ⟨q.1, ?_⟩
    have := q.2
    split at this <;> exact this
/-- A step that goes nowhere, or to a cell that costs no more. -/
theorem Dj.skip {F : Nat → Int} {l : List (Int × Int)} {c s : Nat} (h : Dj W H O N b u F l c s) (hs : ∀ m : Nat, m < N → goL W H O c s = (m : Int) → F m ≤ F c + prc s) : Dj W H O N b u F l c (s + 1) := by
  refine ⟨h.wj, fun k hk hf => ?_, h.ent⟩
  rcases h.todo k hk hf with q | ⟨q1, q2⟩
  · exact .inl q
  · refine .inr ⟨q1, ?_⟩
    by_cases e : (k : Int) = (c : Int)
    · rw [if_pos e] at q2 ⊢
      have e' : k = c := by omega
      subst e'
      intro t ht8 ht m hm hg
      by_cases et : t = s
      · subst et; exact hs m hm hg
      · exact q2 t ht8 (by omega) m hm hg
    · rw [if_neg e] at q2 ⊢; exact q2
/-- A step to a cell that costs less by it. -/
theorem Dj.go {F : Nat → Int} {l l' : List (Int × Int)} {c s m : Nat} (h : Dj W H O N b u F l c s) (hN : N ≤ 4096) (hs : s < 8) (hc : c < N) (hm : m < N) (hf : F c ≠ 1048576) (e : goL W H O c s = (m : Int)) (hlt : F c + prc s < F m)
    (hl : ∀ e, e ∈ l' ↔ e = ((m : Int), F c + prc s) ∨ e ∈ l) : Dj W H O N b u (upd F m (F c + prc s)) l' c (s + 1) ∧ upd F m (F c + prc s) c = F c := by
  have hp := prc_bd s
  have hb2 := go_back hs (by rw [e]; omega)
  rw [e] at hb2
  obtain ⟨o1, o2, o3, o4⟩ := opp_all hs
  have hw := h.wj.fall hN (opp_lt s) hm hc hb2 hf (by rw [o3]; exact hlt)
  rw [o3] at hw
  have hne : c ≠ m := by rintro rfl; omega
  obtain ⟨c0, c1, c2⟩ := h.wj.bd hN hc
  have c3 := (hw.bd hN hm).2.2 (by rw [upd_same]; have := (c2 hf).1; omega)
  rw [upd_same] at c3
  have hle : ∀ j, upd F m (F c + prc s) j ≤ F j := by
    intro j
    by_cases ej : j = m
    · subst ej; rw [upd_same]; omega
    · rw [upd_other _ _ _ ej]; omega
  refine ⟨⟨hw, fun k hk hf2 => ?_, fun e2 he => ?_⟩, upd_other _ _ _ hne⟩
  · by_cases ek : k = m
    · subst ek
      rw [upd_same]
      exact .inl ((hl _).2 (.inl rfl))
    · rw [upd_other _ _ _ ek] at hf2 ⊢
      rcases h.todo k hk hf2 with q | ⟨q1, q2⟩
      · exact .inl ((hl _).2 (.inr q))
      · refine .inr ⟨q1, ?_⟩
        intro t ht8 ht j hj hg
        have hj2 := hle j
        rw [upd_other _ _ _ ek]
        by_cases ec : (k : Int) = (c : Int)
        · have ec' : k = c := by omega
          subst ec'
          rw [if_pos rfl] at q2 ht
          by_cases et : t = s
          · subst et
            have : j = m := by omega
            subst this
            rw [upd_same]; omega
          · have := q2 t ht8 (by omega) j hj hg
            omega
        · rw [if_neg ec] at q2 ht
          have := q2 t ht8 ht j hj hg
          omega
  · rcases (hl e2).1 he with rfl | q
    · refine ⟨by simp, by simpa using hm, ?_, c3.1⟩
      rw [Int.toNat_natCast, upd_same]; exact Int.le_refl _
    · obtain ⟨a1, a2, a3, a4⟩ := h.ent e2 q
      exact ⟨a1, a2, Int.le_trans (hle _) a3, a4⟩
/-- Nothing waits. -/
theorem Dj.done {F : Nat → Int} (h : Dj W H O N b u F [] (-1) 0) (hN : N ≤ 4096) (hA : (N : Int) = W * H) : Exa W H O N b u F := by
  refine h.wj.exa hN hA fun k hk hf => ?_
  rcases h.todo k hk hf with q | ⟨_, q⟩
  · simp at q
  · rw [if_neg (by omega)] at q; exact q
/-- The cell that is sought is taken, ahead of all that waits. -/
theorem Dj.found {F : Nat → Int} {l : List (Int × Int)} {x : Int} {v : Nat} (h : Dj W H O N b v F l (-1) 0) (hN : N ≤ 4096) (hA : (N : Int) = W * H) (he : ((v : Int), x) ∈ l) (hl : ∀ e ∈ l, x ≤ e.2) : Exa W H O N b v F := by
  obtain ⟨-, hv, hx, hx2⟩ := h.ent _ he
  simp only [Int.toNat_natCast] at hx hv
  have hv : v < N := by omega
  have hfv : F v ≠ 1048576 := by omega
  have hin : ((v : Int), F v) ∈ l := (h.todo v hv hfv).resolve_right fun q => q.1 rfl
  have hxe : F v = x := by have := hl _ hin; simp only at this; omega
  have hr : ∀ k, k < N → F k ≠ 1048576 → F k < F v → Rlx W H O N F k 8 := by
    intro k hk hf hlt
    rcases h.todo k hk hf with q | ⟨_, q⟩
    · have := hl _ q
      simp only at this
      omega
    · rw [if_neg (by omega)] at q; exact q
  have low : ∀ k : Nat, ∀ c, Wk W H O b k c → c ≤ F v → F k ≤ c := fun k c hw hc => by
    have := h.wj.low hN hA hr hw hc (by omega)
    rwa [Int.toNat_natCast] at this
  have wv := ((h.wj.walk v hv).resolve_left hfv).1
  obtain ⟨d1, d2, d3⟩ := cst_of wv
  have ev : F v = cst W H O b v := by
    have := low v _ d1.1 d3
    omega
  intro k hk
  refine ⟨fun e => h.wj.none hk e, fun e => ⟨h.wj.ge hN hk, fun hq => ?_⟩⟩
  have hle : cst W H O b k ≤ cst W H O b v := by omega
  have := low k _ (cst_wk e) (by omega)
  have := h.wj.ge hN hk
  omega
end
end Go.Proofs.YtcipedijjemghaaDoor
