/- Plain: things on cells, who stands where, how they settle. -/
namespace Go.Proofs.Ytoibbnkpfplmbaa
set_option linter.unusedVariables false

/-- Who stands on a cell first, of so many; -1: nobody. -/
def onZ (P : Nat → Int) : Nat → Int → Int
  | 0, _ => -1
  | n + 1, c => if 0 ≤ onZ P n c then onZ P n c else if P n = c then (n : Int) else -1
theorem onZ_cases (P : Nat → Int) (c : Int) : ∀ n, (onZ P n c = -1 ∧ ∀ k, k < n → P k ≠ c) ∨ (∃ k, k < n ∧ onZ P n c = (k : Int) ∧ P k = c ∧ ∀ j, j < k → P j ≠ c)
  | 0 => .inl ⟨rfl, fun k hk => absurd hk (by omega)⟩
  | n + 1 => by
    rcases onZ_cases P c n with ⟨h1, h2⟩ | ⟨k, h1, h2, h3, h4⟩
    · by_cases hc : P n = c
      · right
        refine ⟨n, by omega, ?_, hc, h2⟩
        unfold onZ
        rw [h1, if_neg (by omega), if_pos hc]
      · left
        refine ⟨?_, fun k hk => ?_⟩
        · unfold onZ
          rw [h1, if_neg (by omega), if_neg hc]
        · rcases Nat.lt_or_ge k n with hlt | hge
          · exact h2 k hlt
          · obtain rfl : k = n := by omega
            exact hc
    · right
      refine ⟨k, by omega, ?_, h3, h4⟩
      unfold onZ
      rw [h2, if_pos (by omega)]
theorem onZ_no {P : Nat → Int} {n : Nat} {c : Int} (h : ∀ k, k < n → P k ≠ c) : onZ P n c = -1 := by
  rcases onZ_cases P c n with ⟨h1, _⟩ | ⟨k, h1, h2, h3, _⟩
  · exact h1
  · exact absurd h3 (h k h1)
theorem onZ_is {P : Nat → Int} {n k : Nat} {c : Int} (hk : k < n) (hc : P k = c) (h : ∀ j, j < k → P j ≠ c) : onZ P n c = (k : Int) := by
  rcases onZ_cases P c n with ⟨_, h2⟩ | ⟨m, h1, h2, h3, h4⟩
  · exact absurd hc (h2 k hk)
  · rw [h2]
    rcases Nat.lt_trichotomy m k with q | q | q
    · exact absurd h3 (h m q)
    · rw [q]
    · exact absurd hc (h4 k q)
theorem onZ_neg {P : Nat → Int} {n : Nat} {c : Int} (h : onZ P n c < 0) : ∀ k, k < n → P k ≠ c := by
  rcases onZ_cases P c n with ⟨_, h2⟩ | ⟨m, h1, h2, h3, h4⟩
  · exact h2
  · omega
theorem onZ_pos {P : Nat → Int} {n : Nat} {c : Int} (h : 0 ≤ onZ P n c) : ∃ k, k < n ∧ onZ P n c = (k : Int) ∧ P k = c := by
  rcases onZ_cases P c n with ⟨h1, h2⟩ | ⟨m, h1, h2, h3, h4⟩
  · omega
  · exact ⟨m, h1, h2, h3⟩
theorem onZ_lt {P : Nat → Int} {n : Nat} {c : Int} : -1 ≤ onZ P n c ∧ onZ P n c < n ∨ n = 0 := by
  rcases onZ_cases P c n with ⟨h1, h2⟩ | ⟨m, h1, h2, h3, h4⟩
  · omega
  · omega
theorem onZ_congr {P Q : Nat → Int} {n : Nat} (c : Int) (h : ∀ k, k < n → P k = Q k) : onZ P n c = onZ Q n c := by
  rcases onZ_cases P c n with ⟨h1, h2⟩ | ⟨m, h1, h2, h3, h4⟩
  · rw [h1, onZ_no fun k hk => by rw [← h k hk]; exact h2 k hk]
  · rw [h2, onZ_is h1 (by rw [← h m h1]; exact h3) fun j hj => by rw [← h j (by omega)]; exact h4 j hj]

/-- No two on one cell. -/
def Apt (P : Nat → Int) (n : Nat) : Prop := ∀ i j, i < n → j < n → i ≠ j → 0 ≤ P i → P i ≠ P j
theorem Apt.on {P : Nat → Int} {n i : Nat} (h : Apt P n) (hi : i < n) (h0 : 0 ≤ P i) : onZ P n (P i) = (i : Int) :=
  onZ_is hi rfl fun j hj e => h i j hi (by omega) (by omega) h0 e.symm
theorem apt_of {P : Nat → Int} {n : Nat} (h : ∀ i, i < n → 0 ≤ P i → onZ P n (P i) = (i : Int)) : Apt P n := fun i j hi hj hne h0 e => by
  have h1 := h i hi h0
  have h2 := h j hj (by omega)
  rw [e] at h1
  omega

/-- One more. -/
def cwU {α : Type} (f : Nat → α) (i : Nat) (v : α) : Nat → α := fun j => if j = i then v else f j
theorem cwU_same {α : Type} (f : Nat → α) (i : Nat) (v : α) : cwU f i v i = v := by simp [cwU]
theorem cwU_other {α : Type} (f : Nat → α) {i j : Nat} (v : α) (h : j ≠ i) : cwU f i v j = f j := by simp [cwU, h]

/-! ### The map of those that are on cells, while it is made -/
/-- Who stands on a cell last. -/
def laZ (P : Nat → Int) : Nat → Int → Int
  | 0, _ => -1
  | n + 1, c => if P n = c then (n : Int) else laZ P n c
theorem laZ_cases (P : Nat → Int) (c : Int) : ∀ n, (laZ P n c = -1 ∧ ∀ k, k < n → P k ≠ c) ∨ (∃ k, k < n ∧ laZ P n c = (k : Int) ∧ P k = c)
  | 0 => .inl ⟨rfl, fun k hk => absurd hk (by omega)⟩
  | n + 1 => by
    unfold laZ
    by_cases hc : P n = c
    · right
      exact ⟨n, by omega, by rw [if_pos hc], hc⟩
    · rw [if_neg hc]
      rcases laZ_cases P c n with ⟨h1, h2⟩ | ⟨k, h1, h2, h3⟩
      · refine .inl ⟨h1, fun k hk => ?_⟩
        rcases Nat.lt_or_ge k n with hlt | hge
        · exact h2 k hlt
        · obtain rfl : k = n := by omega
          exact hc
      · exact .inr ⟨k, by omega, h2, h3⟩
theorem laZ_on {P : Nat → Int} {n : Nat} (h : Apt P n) {c : Int} (hc : 0 ≤ c) : laZ P n c = onZ P n c := by
  rcases laZ_cases P c n with ⟨h1, h2⟩ | ⟨k, h1, h2, h3⟩
  · rw [h1, onZ_no h2]
  · subst h3
    rw [h2, h.on h1 hc]
/-- On how many cells somebody stands. -/
def dsZ (P : Nat → Int) : Nat → Nat
  | 0 => 0
  | n + 1 => dsZ P n + if 0 ≤ P n ∧ laZ P n (P n) < 0 then 1 else 0
/-- How many are on cells. -/
def prZ (P : Nat → Int) : Nat → Nat
  | 0 => 0
  | n + 1 => prZ P n + if 0 ≤ P n then 1 else 0
theorem prZ_le (P : Nat → Int) : ∀ n, prZ P n ≤ n
  | 0 => Nat.le_refl _
  | n + 1 => by have := prZ_le P n; unfold prZ; split <;> omega
theorem dsZ_le (P : Nat → Int) : ∀ n, dsZ P n ≤ prZ P n
  | 0 => Nat.le_refl _
  | n + 1 => by
    have := dsZ_le P n
    unfold dsZ prZ
    by_cases h : 0 ≤ P n
    · rw [if_pos h]; split <;> omega
    · rw [if_neg h, if_neg (fun q => h q.1)]; omega
theorem ds_eq (P : Nat → Int) : ∀ n, dsZ P n = prZ P n ↔ Apt P n
  | 0 => ⟨fun _ i j hi => absurd hi (by omega), fun _ => rfl⟩
  | n + 1 => by
    have hle := dsZ_le P n
    have ih := ds_eq P n
    constructor
    · intro h
      unfold dsZ prZ at h
      have h1 : dsZ P n = prZ P n := by
        by_cases h0 : 0 ≤ P n
        · rw [if_pos h0] at h
          split at h <;> omega
        · rw [if_neg h0, if_neg (fun q => h0 q.1)] at h; omega
      have ha := ih.1 h1
      have hn : 0 ≤ P n → ∀ k, k < n → P k ≠ P n := fun h0 => by
        rw [if_pos h0] at h
        by_cases hl : laZ P n (P n) < 0
        · rcases laZ_cases P (P n) n with ⟨_, q⟩ | ⟨k, _, q, _⟩
          · exact q
          · omega
        · rw [if_neg (fun q => hl q.2)] at h; omega
      intro i j hi hj hne h0 e
      rcases Nat.lt_or_ge i n with hin | hin <;> rcases Nat.lt_or_ge j n with hjn | hjn
      · exact ha i j hin hjn hne h0 e
      · obtain rfl : j = n := by omega
        exact hn (by omega) i hin e
      · obtain rfl : i = n := by omega
        exact hn h0 j hjn e.symm
      · omega
    · intro ha
      have h1 := ih.2 fun i j hi hj => ha i j (by omega) (by omega)
      unfold dsZ prZ
      rw [h1]
      by_cases h0 : 0 ≤ P n
      · have hl : laZ P n (P n) < 0 := by
          rcases laZ_cases P (P n) n with ⟨q, _⟩ | ⟨k, hk, q, hq⟩
          · omega
          · exact absurd hq (fun e => ha n k (by omega) (by omega) (by omega) h0 e.symm)
        rw [if_pos h0, if_pos ⟨h0, hl⟩]
      · rw [if_neg h0, if_neg (fun q => h0 q.1)]
theorem apt_iff {P : Nat → Int} {n : Nat} : Apt P n ↔ ∀ i, i < n → 0 ≤ P i → onZ P n (P i) = (i : Int) := ⟨fun h i hi h0 => h.on hi h0, apt_of⟩

/-! ### Check -/
def rgZ (cells : Int) (P : Nat → Int) (n : Nat) : Prop := ∀ i, i < n → -1 ≤ P i ∧ P i < cells
open Classical in
/-- Check's error. -/
noncomputable def chZ (cells : Int) (no n m : Nat) (P Wi : Nat → Int) : Int :=
  if cells < 1 ∨ 4096 < cells ∨ (no : Int) ≠ cells ∨ 64 < n ∨ m ≠ n then 1 else if ¬ (rgZ cells P n ∧ rgZ cells Wi n) then 4 else if ¬ Apt P n then 5 else 0
/-- What may be. -/
structure Okc (cells : Int) (no n m : Nat) (P Wi : Nat → Int) : Prop where
  lo : 1 ≤ cells
  hi : cells ≤ 4096
  len : (no : Int) = cells
  few : n ≤ 64
  wl : m = n
  rp : rgZ cells P n
  rw : rgZ cells Wi n
  apt : Apt P n
theorem chZ_or (cells : Int) (no n m : Nat) (P Wi : Nat → Int) : (chZ cells no n m P Wi = 0 ∧ Okc cells no n m P Wi) ∨ chZ cells no n m P Wi = 1 ∨ chZ cells no n m P Wi = 4 ∨ chZ cells no n m P Wi = 5 := by
  unfold chZ
  split
  · exact .inr (.inl rfl)
  · split
    · exact .inr (.inr (.inl rfl))
    · split
      · exact .inr (.inr (.inr rfl))
      · rename_i h1 h2 h3
        have h2 := Classical.not_not.1 h2
        exact .inl ⟨rfl, by omega, by omega, by omega, by omega, by omega, h2.1, h2.2, Classical.not_not.1 h3⟩
theorem chZ_ok {cells : Int} {no n m : Nat} {P Wi : Nat → Int} (h : Okc cells no n m P Wi) : chZ cells no n m P Wi = 0 := by
  unfold chZ
  have := h.lo; have := h.hi; have := h.len; have := h.few; have := h.wl
  rw [if_neg (by omega), if_neg (fun q => q ⟨h.rp, h.rw⟩), if_neg (fun q => q h.apt)]

/-! ### To settle -/
/-- Where all are, and who has gone. -/
structure St where
  P : Nat → Int
  G : Nat → Bool
section
variable (n : Nat) (O : Nat → Bool) (Wi : Nat → Int)
def canS (P : Nat → Int) (i : Nat) : Bool := decide (0 ≤ P i) && decide (0 ≤ Wi i) && O (Wi i).toNat && decide (onZ P n (Wi i) < 0)
def stpS (s : St) (i : Nat) : St := if canS n O Wi s.P i = true then ⟨cwU s.P i (Wi i), cwU s.G i true⟩ else s
def rkS (s : St) : Nat → St
  | 0 => s
  | k + 1 => stpS n O Wi (rkS s k) k
def rrS (s : St) : Nat → St
  | 0 => s
  | r + 1 => rkS n O Wi (rrS s r) n
def finS (s : St) : St := rrS n O Wi s (n + 1)
def gsS (s : St) : Nat → Bool
  | 0 => false
  | k + 1 => gsS s k || canS n O Wi (rkS n O Wi s k).P k
end
def s0S (P : Nat → Int) : St := ⟨P, fun _ => false⟩
section
variable {n : Nat} {O : Nat → Bool} {Wi : Nat → Int}
theorem canS_iff {P : Nat → Int} {i : Nat} : canS n O Wi P i = true ↔ 0 ≤ P i ∧ 0 ≤ Wi i ∧ O (Wi i).toNat = true ∧ onZ P n (Wi i) < 0 := by
  simp [canS, and_assoc]
structure Inv (n : Nat) (O : Nat → Bool) (Wi P0 : Nat → Int) (s : St) : Prop where
  gone : ∀ i, i < n → s.G i = true → s.P i = Wi i ∧ 0 ≤ Wi i ∧ O (Wi i).toNat = true ∧ 0 ≤ P0 i
  stay : ∀ i, i < n → s.G i = false → s.P i = P0 i
  apt : Apt s.P n
theorem inv_s0 {P : Nat → Int} (h : Apt P n) : Inv n O Wi P (s0S P) := ⟨fun i _ h => by simp [s0S] at h, fun i _ _ => rfl, h⟩
theorem Inv.fresh {P0 : Nat → Int} {s : St} (h : Inv n O Wi P0 s) {i : Nat} (hi : i < n) (hc : canS n O Wi s.P i = true) : s.G i = false := by
  cases hg : s.G i with
  | false => rfl
  | true =>
    obtain ⟨_, _, _, h4⟩ := canS_iff.1 hc
    exact absurd (h.gone i hi hg).1 (onZ_neg h4 i hi)
theorem Inv.stp {P0 : Nat → Int} {s : St} (h : Inv n O Wi P0 s) {i : Nat} (hi : i < n) : Inv n O Wi P0 (stpS n O Wi s i) := by
  unfold stpS
  split
  · rename_i hc
    have hf := h.fresh hi hc
    obtain ⟨h1, h2, h3, h4⟩ := canS_iff.1 hc
    have hno := onZ_neg h4
    have hp0 : 0 ≤ P0 i := by rw [← h.stay i hi hf]; exact h1
    refine ⟨fun j hj hg => ?_, fun j hj hg => ?_, fun j k hj hk hne h0 => ?_⟩
    · by_cases e : j = i
      · subst e
        exact ⟨cwU_same _ _ _, h2, h3, hp0⟩
      · simp only [cwU_other _ _ e] at hg ⊢
        exact h.gone j hj hg
    · by_cases e : j = i
      · subst e
        simp [cwU] at hg
      · simp only [cwU_other _ _ e] at hg ⊢
        exact h.stay j hj hg
    · by_cases e : j = i
      · subst e
        simp only [cwU_same, cwU_other _ _ (Ne.symm hne)]
        exact fun q => hno k hk q.symm
      · simp only [cwU_other _ _ e] at h0 ⊢
        by_cases e2 : k = i
        · subst e2
          simp only [cwU_same]
          exact hno j hj
        · simp only [cwU_other _ _ e2]
          exact h.apt j k hj hk hne h0
  · exact h
theorem Inv.rk {P0 : Nat → Int} {s : St} (h : Inv n O Wi P0 s) : ∀ k, k ≤ n → Inv n O Wi P0 (rkS n O Wi s k)
  | 0, _ => h
  | k + 1, hk => (Inv.rk h k (by omega)).stp (by omega)
theorem Inv.rr {P0 : Nat → Int} {s : St} (h : Inv n O Wi P0 s) : ∀ r, Inv n O Wi P0 (rrS n O Wi s r)
  | 0 => h
  | r + 1 => (Inv.rr h r).rk n (Nat.le_refl _)
def cnG (G : Nat → Bool) : Nat → Nat
  | 0 => 0
  | m + 1 => cnG G m + if G m = true then 1 else 0
theorem cnG_le (G : Nat → Bool) : ∀ m, cnG G m ≤ m
  | 0 => Nat.le_refl _
  | m + 1 => by have := cnG_le G m; unfold cnG; split <;> omega
theorem cnG_far {G : Nat → Bool} {i : Nat} : ∀ m, m ≤ i → cnG (cwU G i true) m = cnG G m
  | 0, _ => rfl
  | m + 1, h => by
    unfold cnG
    rw [cnG_far m (by omega), cwU_other _ _ (by omega)]
theorem cnG_upd {G : Nat → Bool} {i : Nat} (hf : G i = false) : ∀ m, i < m → cnG (cwU G i true) m = cnG G m + 1
  | 0, h => by omega
  | m + 1, h => by
    unfold cnG
    by_cases e : m = i
    · subst e
      rw [cnG_far m (Nat.le_refl _), cwU_same, hf]
      simp
    · rw [cnG_upd hf m (by omega), cwU_other _ _ e]
      omega
theorem cn_stp {P0 : Nat → Int} {s : St} (h : Inv n O Wi P0 s) {i : Nat} (hi : i < n) : cnG (stpS n O Wi s i).G n = cnG s.G n + if canS n O Wi s.P i = true then 1 else 0 := by
  unfold stpS
  split
  · rename_i hc
    exact cnG_upd (h.fresh hi hc) n hi
  · rfl
theorem cn_rk {P0 : Nat → Int} {s : St} (h : Inv n O Wi P0 s) : ∀ k, k ≤ n → cnG s.G n + (if gsS n O Wi s k = true then 1 else 0) ≤ cnG (rkS n O Wi s k).G n
  | 0, _ => by simp [gsS, rkS]
  | k + 1, hk => by
    have ih := cn_rk h k (by omega)
    have h2 := cn_stp (h.rk k (by omega)) (show k < n by omega)
    have e : rkS n O Wi s (k + 1) = stpS n O Wi (rkS n O Wi s k) k := rfl
    rw [e, h2]
    unfold gsS
    cases hg : gsS n O Wi s k <;> cases hc : canS n O Wi (rkS n O Wi s k).P k <;> simp [hg] at ih ⊢ <;> omega
def Done (n : Nat) (O : Nat → Bool) (Wi : Nat → Int) (P : Nat → Int) : Prop := ∀ j, j < n → canS n O Wi P j = false
theorem gs_no {s : St} : ∀ k, gsS n O Wi s k = false → rkS n O Wi s k = s ∧ ∀ j, j < k → canS n O Wi s.P j = false
  | 0, _ => ⟨rfl, fun j hj => absurd hj (by omega)⟩
  | k + 1, h => by
    unfold gsS at h
    rw [Bool.or_eq_false_iff] at h
    obtain ⟨h1, h2⟩ := gs_no k h.1
    have hc := h.2
    rw [h1] at hc
    refine ⟨?_, fun j hj => ?_⟩
    · have e : rkS n O Wi s (k + 1) = stpS n O Wi (rkS n O Wi s k) k := rfl
      rw [e, h1]
      unfold stpS
      rw [if_neg (by rw [hc]; simp)]
    · rcases Nat.lt_or_ge j k with q | q
      · exact h2 j q
      · obtain rfl : j = k := by omega
        exact hc
theorem done_rk {s : St} (h : Done n O Wi s.P) : ∀ k, k ≤ n → rkS n O Wi s k = s
  | 0, _ => rfl
  | k + 1, hk => by
    have e : rkS n O Wi s (k + 1) = stpS n O Wi (rkS n O Wi s k) k := rfl
    rw [e, done_rk h k (by omega)]
    unfold stpS
    rw [if_neg (by rw [h k (by omega)]; simp)]
theorem done_rr {s : St} {r : Nat} (h : Done n O Wi (rrS n O Wi s r).P) : ∀ d, rrS n O Wi s (r + d) = rrS n O Wi s r
  | 0 => rfl
  | d + 1 => by
    have e : rrS n O Wi s (r + (d + 1)) = rkS n O Wi (rrS n O Wi s (r + d)) n := rfl
    rw [e, done_rr h d, done_rk h n (Nat.le_refl _)]
theorem rr_cn {P0 : Nat → Int} {s : St} (h : Inv n O Wi P0 s) : ∀ r, (∃ q, q < r ∧ Done n O Wi (rrS n O Wi s q).P) ∨ r ≤ cnG (rrS n O Wi s r).G n
  | 0 => .inr (Nat.zero_le _)
  | r + 1 => by
    rcases rr_cn h r with ⟨q, hq, hd⟩ | hr
    · exact .inl ⟨q, by omega, hd⟩
    · cases hg : gsS n O Wi (rrS n O Wi s r) n with
      | false => exact .inl ⟨r, by omega, (gs_no n hg).2⟩
      | true =>
        right
        have := cn_rk (h.rr r) n (Nat.le_refl _)
        rw [hg] at this
        simp at this
        have e : rrS n O Wi s (r + 1) = rkS n O Wi (rrS n O Wi s r) n := rfl
        rw [e]
        omega
theorem fin_at {P0 : Nat → Int} {s : St} (h : Inv n O Wi P0 s) {r : Nat} (hd : Done n O Wi (rrS n O Wi s r).P) : rrS n O Wi s r = finS n O Wi s := by
  have hex : ∃ q, q < n + 1 ∧ Done n O Wi (rrS n O Wi s q).P := by
    rcases rr_cn h (n + 1) with q | q
    · exact q
    · have := cnG_le (rrS n O Wi s (n + 1)).G n
      omega
  obtain ⟨q, hq, hdq⟩ := hex
  have e1 : finS n O Wi s = rrS n O Wi s q := by
    have := done_rr hdq (n + 1 - q)
    rw [show q + (n + 1 - q) = n + 1 by omega] at this
    exact this
  rw [e1]
  rcases Nat.le_total r q with hl | hl
  · have := done_rr hd (q - r)
    rw [show r + (q - r) = q by omega] at this
    exact this.symm
  · have := done_rr hdq (r - q)
    rwa [show q + (r - q) = r by omega] at this
theorem fin_done {P0 : Nat → Int} {s : St} (h : Inv n O Wi P0 s) : Done n O Wi (finS n O Wi s).P := by
  rcases rr_cn h (n + 1) with ⟨q, hq, hd⟩ | q
  · rw [← fin_at h hd]
    exact hd
  · have := cnG_le (rrS n O Wi s (n + 1)).G n
    omega
theorem fin_inv {P0 : Nat → Int} {s : St} (h : Inv n O Wi P0 s) : Inv n O Wi P0 (finS n O Wi s) := h.rr _
/-- Who moves: who stands where then. -/
theorem on_move {P : Nat → Int} {i : Nat} {t : Int} (h : Apt P n) (hi : i < n) (h0 : 0 ≤ P i) (ht : onZ P n t < 0) {c : Int} (hc : 0 ≤ c) :
    onZ (cwU P i t) n c = if c = t then (i : Int) else if c = P i then -1 else onZ P n c := by
  have hno := onZ_neg ht
  by_cases e : c = t
  · subst e
    rw [if_pos rfl]
    exact onZ_is hi (cwU_same _ _ _) fun j hj => by rw [cwU_other _ _ (by omega)]; exact hno j (by omega)
  · rw [if_neg e]
    by_cases e2 : c = P i
    · subst e2
      rw [if_pos rfl]
      refine onZ_no fun k hk => ?_
      by_cases e3 : k = i
      · subst e3; rw [cwU_same]; exact fun q => e q.symm
      · rw [cwU_other _ _ e3]; exact fun q => h i k hi hk (Ne.symm e3) h0 q.symm
    · rw [if_neg e2]
      rcases onZ_cases P c n with ⟨h1, h2⟩ | ⟨m, h1, h2, h3, h4⟩
      · rw [h1]
        refine onZ_no fun k hk => ?_
        by_cases e3 : k = i
        · subst e3; rw [cwU_same]; exact fun q => e q.symm
        · rw [cwU_other _ _ e3]; exact h2 k hk
      · have hmi : m ≠ i := fun q => e2 (by rw [← h3, q])
        rw [h2]
        refine onZ_is h1 (by rw [cwU_other _ _ hmi]; exact h3) fun j hj => ?_
        by_cases e3 : j = i
        · subst e3; rw [cwU_same]; exact fun q => e q.symm
        · rw [cwU_other _ _ e3]; exact h4 j hj
end

/-! ### Who is held -/
/-- Is the k-th held, and by whom? -/
def hdZ (n : Nat) (O : Nat → Bool) (Wi P : Nat → Int) (k : Nat) : List Int :=
  if 0 ≤ P k ∧ 0 ≤ Wi k ∧ P k ≠ Wi k then [if O (Wi k).toNat = true then onZ P n (Wi k) else -1] else []
def hlZ (n : Nat) (O : Nat → Bool) (Wi P : Nat → Int) : Nat → List Int
  | 0 => []
  | k + 1 => hlZ n O Wi P k ++ hdZ n O Wi P k
theorem hdZ_len (n : Nat) (O : Nat → Bool) (Wi P : Nat → Int) (k : Nat) : (hdZ n O Wi P k).length ≤ 1 := by unfold hdZ; split <;> simp
theorem hlZ_len (n : Nat) (O : Nat → Bool) (Wi P : Nat → Int) : ∀ k, (hlZ n O Wi P k).length ≤ k
  | 0 => Nat.le_refl _
  | k + 1 => by
    have h1 := hlZ_len n O Wi P k
    have h2 := hdZ_len n O Wi P k
    unfold hlZ
    rw [List.length_append]
    omega
theorem hd_on {n : Nat} {O : Nat → Bool} {Wi P : Nat → Int} (h : Done n O Wi P) {k : Nat} (hk : k < n) (h1 : 0 ≤ P k) (h2 : 0 ≤ Wi k) (h3 : O (Wi k).toNat = true) : 0 ≤ onZ P n (Wi k) := by
  rcases Int.lt_or_le (onZ P n (Wi k)) 0 with q | q
  · have := h k hk
    rw [canS_iff.2 ⟨h1, h2, h3, q⟩] at this
    cases this
  · exact q
end Go.Proofs.Ytoibbnkpfplmbaa
