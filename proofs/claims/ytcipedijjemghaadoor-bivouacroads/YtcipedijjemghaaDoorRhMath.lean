/- Stage 13's plain mathematics: a heap in a list. -/
import Derived.KernelRfl
namespace Go.Proofs.YtcipedijjemghaaDoor
set_option linter.unusedVariables false

/-- What lies at place k. -/
def at13 (l : List (Int × Int)) (k : Nat) : Int × Int := l.getD k (0, 0)
def ky (l : List (Int × Int)) (k : Nat) : Int := (at13 l k).2
theorem at13_some {l : List (Int × Int)} {k : Nat} (h : k < l.length) : l[k]? = some (at13 l k) := by simp [at13, List.getD, h]
theorem at13_mem {l : List (Int × Int)} {k : Nat} (h : k < l.length) : at13 l k ∈ l := List.mem_of_getElem? (at13_some h)
theorem mem_at13 {l : List (Int × Int)} {e : Int × Int} : e ∈ l ↔ ∃ k, k < l.length ∧ at13 l k = e := by
  constructor
  · intro h
    obtain ⟨k, hk, rfl⟩ := List.getElem_of_mem h
    exact ⟨k, hk, by simp [at13, List.getD, hk]⟩
  · rintro ⟨k, hk, rfl⟩; exact at13_mem hk
theorem at13_set (l : List (Int × Int)) (i : Nat) (e : Int × Int) (k : Nat) (h : i < l.length) : at13 (l.set i e) k = if k = i then e else at13 l k := by
  unfold at13
  rw [List.getD_eq_getElem?_getD, List.getD_eq_getElem?_getD, List.getElem?_set]
  by_cases e1 : i = k
  · subst e1; simp [h]
  · rw [if_neg e1, if_neg (Ne.symm e1)]
/-- Two change places. -/
def sw (l : List (Int × Int)) (i j : Nat) : List (Int × Int) := (l.set i (at13 l j)).set j (at13 l i)
theorem sw_len (l : List (Int × Int)) (i j : Nat) : (sw l i j).length = l.length := by simp [sw]
theorem at13_sw (l : List (Int × Int)) (i j k : Nat) (hi : i < l.length) (hj : j < l.length) : at13 (sw l i j) k = if k = j then at13 l i else if k = i then at13 l j else at13 l k := by
  unfold sw
  rw [at13_set _ _ _ _ (by simpa using hj), at13_set _ _ _ _ hi]
theorem ky_sw (l : List (Int × Int)) (i j k : Nat) (hi : i < l.length) (hj : j < l.length) : ky (sw l i j) k = if k = j then ky l i else if k = i then ky l j else ky l k := by
  unfold ky
  rw [at13_sw l i j k hi hj]
  split
  · rfl
  · split <;> rfl
theorem mem_sw {l : List (Int × Int)} {i j : Nat} (hi : i < l.length) (hj : j < l.length) {e : Int × Int} : e ∈ sw l i j ↔ e ∈ l := by
  rw [mem_at13, mem_at13, sw_len]
  constructor
  · rintro ⟨k, hk, rfl⟩
    rw [at13_sw l i j k hi hj]
    split
    · exact ⟨i, hi, rfl⟩
    · split
      · exact ⟨j, hj, rfl⟩
      · exact ⟨k, hk, rfl⟩
  · rintro ⟨k, hk, rfl⟩
    by_cases e1 : k = i
    · subst e1
      exact ⟨j, hj, by rw [at13_sw l k j j hi hj, if_pos rfl]⟩
    · by_cases e2 : k = j
      · subst e2
        refine ⟨i, hi, ?_⟩
        rw [at13_sw l i k i hi hj, if_neg (Ne.symm e1), if_pos rfl]
      · refine ⟨k, hk, ?_⟩
        rw [at13_sw l i j k hi hj, if_neg e2, if_neg e1]

/-- Nothing is ahead of what is above it. -/
def Hpo (l : List (Int × Int)) : Prop := ∀ k, 0 < k → k < l.length → ky l ((k - 1) / 2) ≤ ky l k
theorem Hpo.nil : Hpo [] := fun k _ h => by simp at h
theorem Hpo.root {l : List (Int × Int)} (h : Hpo l) : ∀ k, k < l.length → ky l 0 ≤ ky l k := by
  intro k
  induction k using Nat.strongRecOn with
  | _ k ih =>
    intro hk
    by_cases h0 : k = 0
    · subst h0; exact Int.le_refl _
    · have h1 := h k (by omega) hk
      have h2 := ih ((k - 1) / 2) (by omega) (by omega)
      omega
theorem Hpo.least {l : List (Int × Int)} (h : Hpo l) {e : Int × Int} (he : e ∈ l) : (at13 l 0).2 ≤ e.2 := by
  obtain ⟨k, hk, rfl⟩ := mem_at13.1 he
  exact h.root k hk
/-- But at m. -/
def Upo (l : List (Int × Int)) (m : Nat) : Prop := m < l.length ∧ (∀ k, 0 < k → k < l.length → k ≠ m → ky l ((k - 1) / 2) ≤ ky l k) ∧ ∀ k, 0 < k → k < l.length → (k - 1) / 2 = m → 0 < m → ky l ((m - 1) / 2) ≤ ky l k
theorem Upo.start {l : List (Int × Int)} (h : Hpo l) (x : Int × Int) : Upo (l ++ [x]) l.length := by
  have hl : ∀ k, k < l.length → ky (l ++ [x]) k = ky l k := by
    intro k hk
    unfold ky at13
    rw [List.getD_eq_getElem?_getD, List.getElem?_append_left hk, List.getD_eq_getElem?_getD]
  refine ⟨by simp, fun k h0 hk hne => ?_, fun k h0 hk e hm => ?_⟩
  · have : k < l.length := by simp at hk; omega
    rw [hl _ (by omega), hl _ this]
    exact h k h0 this
  · simp at hk; omega
theorem Upo.swap {l : List (Int × Int)} {m : Nat} (h : Upo l m) (h0 : 0 < m) (hlt : ky l m < ky l ((m - 1) / 2)) : Upo (sw l m ((m - 1) / 2)) ((m - 1) / 2) := by
  obtain ⟨h1, h2, h3⟩ := h
  have hp : (m - 1) / 2 < l.length := by omega
  refine ⟨by rw [sw_len]; exact hp, fun k k0 hk hne => ?_, fun k k0 hk e hm => ?_⟩
  · rw [sw_len] at hk
    rw [ky_sw _ _ _ _ h1 hp, ky_sw _ _ _ _ h1 hp]
    by_cases ek : k = m
    · subst ek
      rw [if_pos rfl, if_neg hne, if_pos rfl]; omega
    · rw [if_neg hne, if_neg ek]
      have hk2 := h2 k k0 hk ek
      by_cases e1 : (k - 1) / 2 = (m - 1) / 2
      · rw [if_pos e1]; rw [e1] at hk2; omega
      · rw [if_neg e1]
        by_cases e2 : (k - 1) / 2 = m
        · rw [if_pos e2]; exact h3 k k0 hk e2 h0
        · rw [if_neg e2]; exact hk2
  · rw [sw_len] at hk
    have hpp := h2 ((m - 1) / 2) hm hp (by omega)
    rw [ky_sw _ _ _ _ h1 hp, ky_sw _ _ _ _ h1 hp, if_neg (by omega), if_neg (by omega), if_neg (by omega)]
    by_cases ek : k = m
    · rw [if_pos ek]; exact hpp
    · rw [if_neg ek]
      have := h2 k k0 hk ek
      rw [e] at this
      omega
theorem Upo.stop {l : List (Int × Int)} {m : Nat} (h : Upo l m) (hs : m = 0 ∨ ¬ ky l m < ky l ((m - 1) / 2)) : Hpo l := by
  intro k k0 hk
  by_cases e : k = m
  · subst e
    rcases hs with hs | hs <;> omega
  · exact h.2.1 k k0 hk e
/-- But right below m. -/
def Dno (l : List (Int × Int)) (m : Nat) : Prop := (∀ k, 0 < k → k < l.length → (k - 1) / 2 ≠ m → ky l ((k - 1) / 2) ≤ ky l k) ∧ ∀ k, 0 < k → k < l.length → (k - 1) / 2 = m → 0 < m → ky l ((m - 1) / 2) ≤ ky l k
/-- The first one of those right below. -/
def Kid (l : List (Int × Int)) (m c : Nat) : Prop := 0 < c ∧ c < l.length ∧ (c - 1) / 2 = m ∧ ∀ k, 0 < k → k < l.length → (k - 1) / 2 = m → ky l c ≤ ky l k
theorem Dno.swap {l : List (Int × Int)} {m c : Nat} (h : Dno l m) (hc : Kid l m c) (hlt : ky l c < ky l m) : Dno (sw l c m) c := by
  obtain ⟨h2, h3⟩ := h
  obtain ⟨c0, c1, c2, c3⟩ := hc
  have hm : m < l.length := by omega
  refine ⟨fun k k0 hk hne => ?_, fun k k0 hk e hc0 => ?_⟩
  · rw [sw_len] at hk
    rw [ky_sw _ _ _ _ c1 hm, ky_sw _ _ _ _ c1 hm]
    by_cases e1 : (k - 1) / 2 = m
    · rw [if_pos e1]
      have : k ≠ m := by omega
      rw [if_neg this]
      by_cases e2 : k = c
      · rw [if_pos e2]; omega
      · rw [if_neg e2]; exact c3 k k0 hk e1
    · rw [if_neg e1, if_neg hne]
      by_cases e2 : k = m
      · rw [if_pos e2]
        subst e2
        exact h3 c c0 c1 c2 k0
      · rw [if_neg e2]
        by_cases e3 : k = c
        · subst e3; exact absurd c2 e1
        · rw [if_neg e3]; exact h2 k k0 hk e1
  · rw [sw_len] at hk
    rw [ky_sw _ _ _ _ c1 hm, ky_sw _ _ _ _ c1 hm, c2, if_pos rfl, if_neg (by omega), if_neg (by omega)]
    have := h2 k k0 hk (by omega)
    rw [e] at this
    exact this
theorem Dno.stop {l : List (Int × Int)} {m c : Nat} (h : Dno l m) (hc : Kid l m c) (hlt : ¬ ky l c < ky l m) : Hpo l := by
  intro k k0 hk
  by_cases e : (k - 1) / 2 = m
  · have := hc.2.2.2 k k0 hk e
    rw [e]; omega
  · exact h.1 k k0 hk e
theorem Dno.leaf {l : List (Int × Int)} {m : Nat} (h : Dno l m) (hm : l.length ≤ 2 * m + 1) : Hpo l := fun k k0 hk => h.1 k k0 hk (by omega)
theorem kid_left {l : List (Int × Int)} {m : Nat} (h : 2 * m + 1 < l.length) (hr : ¬ (2 * m + 2 < l.length ∧ ky l (2 * m + 2) < ky l (2 * m + 1))) : Kid l m (2 * m + 1) := by
  refine ⟨by omega, h, by omega, fun k k0 hk e => ?_⟩
  have : k = 2 * m + 1 ∨ k = 2 * m + 2 := by omega
  rcases this with rfl | rfl
  · exact Int.le_refl _
  · omega
theorem kid_right {l : List (Int × Int)} {m : Nat} (h : 2 * m + 2 < l.length) (hr : ky l (2 * m + 2) < ky l (2 * m + 1)) : Kid l m (2 * m + 2) := by
  refine ⟨by omega, h, by omega, fun k k0 hk e => ?_⟩
  have : k = 2 * m + 1 ∨ k = 2 * m + 2 := by omega
  rcases this with rfl | rfl <;> omega
/-- The last one comes to the top. -/
def tk (l : List (Int × Int)) : List (Int × Int) := (l.set 0 (at13 l (l.length - 1))).take (l.length - 1)
theorem tk_len (l : List (Int × Int)) : (tk l).length = l.length - 1 := by simp [tk]
theorem at13_tk {l : List (Int × Int)} {k : Nat} (h : k < l.length - 1) : at13 (tk l) k = if k = 0 then at13 l (l.length - 1) else at13 l k := by
  have : at13 (tk l) k = at13 (l.set 0 (at13 l (l.length - 1))) k := by
    unfold tk at13
    simp only [List.getD_eq_getElem?_getD]
    rw [List.getElem?_take_of_lt h]
  rw [this, at13_set _ _ _ _ (by omega)]
theorem Dno.start {l : List (Int × Int)} (h : Hpo l) : Dno (tk l) 0 := by
  refine ⟨fun k k0 hk hne => ?_, fun k k0 hk e hm => absurd hm (by omega)⟩
  rw [tk_len] at hk
  unfold ky
  rw [at13_tk hk, at13_tk (k := (k - 1) / 2) (by omega), if_neg hne, if_neg (show ¬ k = 0 by omega)]
  exact h k k0 (by omega)
theorem mem_tk {l : List (Int × Int)} (h : 0 < l.length) {e : Int × Int} : e ∈ l ↔ e = at13 l 0 ∨ e ∈ tk l := by
  rw [mem_at13, mem_at13, tk_len]
  constructor
  · rintro ⟨k, hk, rfl⟩
    by_cases k0 : k = 0
    · subst k0; exact .inl rfl
    · by_cases kl : k = l.length - 1
      · exact .inr ⟨0, by omega, by rw [at13_tk (by omega), if_pos rfl, kl]⟩
      · exact .inr ⟨k, by omega, by rw [at13_tk (by omega), if_neg k0]⟩
  · rintro (rfl | ⟨k, hk, rfl⟩)
    · exact ⟨0, h, rfl⟩
    · rw [at13_tk hk]
      split
      · exact ⟨l.length - 1, by omega, rfl⟩
      · exact ⟨k, by omega, rfl⟩
end Go.Proofs.YtcipedijjemghaaDoor
