/- Stage 11's mathematics: an arena's cells; when two arenas are the same; which are valid; the numbers. -/
import Derived.Test.YtghbbedekmdpoaaKd1
namespace Go.Proofs.Ytghbbedekmdpoaa
open Go.RowKit
set_option linter.unusedVariables false

def setI (T : Nat → Int) (p : Nat) (v : Int) : Nat → Int := fun i => if i = p then v else T i
def setB (L : Nat → Bool) (p : Nat) (v : Bool) : Nat → Bool := fun i => if i = p then v else L i
theorem setI_same (T : Nat → Int) (p : Nat) (v : Int) : setI T p v p = v := by simp [setI]
theorem setB_same (L : Nat → Bool) (p : Nat) (v : Bool) : setB L p v p = v := by simp [setB]
theorem setI_other (T : Nat → Int) (p : Nat) (v : Int) {i : Nat} (h : i ≠ p) : setI T p v i = T i := by simp [setI, h]
theorem setB_other (L : Nat → Bool) (p : Nat) (v : Bool) {i : Nat} (h : i ≠ p) : setB L p v i = L i := by simp [setB, h]

def arT (T : Nat → Int) : List Value := (List.range 64).map fun i => .int .i64 (T i)
def arL (L : Nat → Bool) : List Value := (List.range 64).map fun i => .bool (L i)
/-- An arena's cells: how often each place was taken; whether it is Live. -/
def ar (T : Nat → Int) (L : Nat → Bool) : Array Value := (arT T ++ arL L).toArray
theorem arT_len (T : Nat → Int) : (arT T).length = 64 := by simp [arT]
theorem arL_len (L : Nat → Bool) : (arL L).length = 64 := by simp [arL]
theorem arT_at (T : Nat → Int) {i : Nat} (h : i < 64) : (arT T)[i]? = some (.int .i64 (T i)) := by simp [arT, h]
theorem arL_at (L : Nat → Bool) {i : Nat} (h : i < 64) : (arL L)[i]? = some (.bool (L i)) := by simp [arL, h]
theorem ar_size (T : Nat → Int) (L : Nat → Bool) : (ar T L).size = 128 := by simp [ar, arT_len, arL_len]
theorem ar_t (T : Nat → Int) (L : Nat → Bool) {i : Nat} (h : i < 64) : (ar T L)[i]? = some (.int .i64 (T i)) := by
  simp only [ar, List.getElem?_toArray]
  rw [List.getElem?_append_left (by rw [arT_len]; exact h)]
  exact arT_at T h
theorem ar_l (T : Nat → Int) (L : Nat → Bool) {i : Nat} (h : i < 64) : (ar T L)[64 + i]? = some (.bool (L i)) := by
  simp only [ar, List.getElem?_toArray]
  rw [List.getElem?_append_right (by rw [arT_len]; omega), arT_len, Nat.add_sub_cancel_left]
  exact arL_at L h
theorem ar_one (T : Nat → Int) (L : Nat → Bool) : (ar T L).all (·.oneCell') = true := by
  rw [Array.all_eq_true']
  intro v hv
  simp only [ar, List.mem_toArray, List.mem_append, arT, arL, List.mem_map] at hv
  rcases hv with ⟨i, _, rfl⟩ | ⟨i, _, rfl⟩ <;> rfl
theorem ar_ext {A : Array Value} {T : Nat → Int} {L : Nat → Bool} (hs : A.size = 128) (h1 : ∀ i, i < 64 → A[i]? = some (.int .i64 (T i))) (h2 : ∀ i, i < 64 → A[64 + i]? = some (.bool (L i))) : A = ar T L := by
  apply Array.ext_getElem?
  intro i
  by_cases h : i < 64
  · rw [h1 i h, ar_t T L h]
  · by_cases k : i < 128
    · have e : i = 64 + (i - 64) := by omega
      rw [e, h2 (i - 64) (by omega), ar_l T L (by omega)]
    · rw [Array.getElem?_eq_none (by omega), Array.getElem?_eq_none (by rw [ar_size]; omega)]
theorem ar_congr {T T' : Nat → Int} {L L' : Nat → Bool} (h1 : ∀ i, i < 64 → T i = T' i) (h2 : ∀ i, i < 64 → L i = L' i) : ar T L = ar T' L' :=
  ar_ext (ar_size T L) (fun i hi => by rw [ar_t T L hi, h1 i hi]) (fun i hi => by rw [ar_l T L hi, h2 i hi])
theorem ar_setT (T : Nat → Int) (L : Nat → Bool) {p : Nat} (v : Int) (hp : p < 64) : (ar T L).setIfInBounds p (.int .i64 v) = ar (setI T p v) L := by
  refine ar_ext (by simp [ar_size]) (fun i hi => ?_) (fun i hi => ?_)
  · by_cases h : i = p
    · subst h
      rw [Array.getElem?_setIfInBounds_self_of_lt (by rw [ar_size]; omega), setI_same]
    · rw [Array.getElem?_setIfInBounds_ne (fun e => h e.symm), ar_t T L hi, setI_other T p v h]
  · rw [Array.getElem?_setIfInBounds_ne (by omega), ar_l T L hi]
theorem ar_setL (T : Nat → Int) (L : Nat → Bool) {p : Nat} (v : Bool) (hp : p < 64) : (ar T L).setIfInBounds (64 + p) (.bool v) = ar T (setB L p v) := by
  refine ar_ext (by simp [ar_size]) (fun i hi => ?_) (fun i hi => ?_)
  · rw [Array.getElem?_setIfInBounds_ne (by omega), ar_t T L hi]
  · by_cases h : i = p
    · subst h
      rw [Array.getElem?_setIfInBounds_self_of_lt (by rw [ar_size]; omega), setB_same]
    · rw [Array.getElem?_setIfInBounds_ne (by omega), ar_l T L hi, setB_other L p v h]

/-- Are two arenas the same? -/
def eqA (T : Nat → Int) (L : Nat → Bool) (T' : Nat → Int) (L' : Nat → Bool) : Bool := (List.range 64).all (fun i => T i == T' i) && (List.range 64).all (fun i => L i == L' i)
theorem eqA_iff (T : Nat → Int) (L : Nat → Bool) (T' : Nat → Int) (L' : Nat → Bool) : eqA T L T' L' = true ↔ (∀ i, i < 64 → T i = T' i) ∧ ∀ i, i < 64 → L i = L' i := by simp [eqA]
theorem eqA_self (T : Nat → Int) (L : Nat → Bool) : eqA T L T L = true := (eqA_iff _ _ _ _).2 ⟨fun _ _ => rfl, fun _ _ => rfl⟩
theorem eqA_no {T T' : Nat → Int} {L L' : Nat → Bool} {i : Nat} (hi : i < 64) (h : L i ≠ L' i) : eqA T L T' L' = false := by
  cases e : eqA T L T' L'
  · rfl
  · exact absurd (((eqA_iff _ _ _ _).1 e).2 i hi) h

/-- A place's cells may be. -/
def okP (t : Int) (l : Bool) : Bool := decide ((0 : Int) ≤ t) && (decide (t ≤ 1048576) && (!l || decide ((1 : Int) ≤ t)))
/-- The first k places may be. -/
def okN (T : Nat → Int) (L : Nat → Bool) (k : Nat) : Bool := (List.range k).all fun i => okP (T i) (L i)
/-- An arena is valid. -/
def okA (T : Nat → Int) (L : Nat → Bool) : Bool := okN T L 64
theorem okN_zero (T : Nat → Int) (L : Nat → Bool) : okN T L 0 = true := rfl
theorem okN_succ (T : Nat → Int) (L : Nat → Bool) (k : Nat) : okN T L (k + 1) = (okN T L k && okP (T k) (L k)) := by simp [okN, List.range_succ]
theorem okN_iff (T : Nat → Int) (L : Nat → Bool) (k : Nat) : okN T L k = true ↔ ∀ i, i < k → okP (T i) (L i) = true := by simp [okN]
theorem okP_iff (t : Int) (l : Bool) : okP t l = true ↔ 0 ≤ t ∧ t ≤ 1048576 ∧ (l = true → 1 ≤ t) := by cases l <;> simp [okP]
theorem okA_at {T : Nat → Int} {L : Nat → Bool} (h : okA T L = true) {i : Nat} (hi : i < 64) : 0 ≤ T i ∧ T i ≤ 1048576 ∧ (L i = true → 1 ≤ T i) := (okP_iff _ _).1 ((okN_iff _ _ _).1 h i hi)
theorem okA_no {T : Nat → Int} {L : Nat → Bool} {k : Nat} (hk : k < 64) (h : okP (T k) (L k) = false) : okA T L = false := by
  cases e : okA T L
  · rfl
  · rw [(okN_iff _ _ _).1 e k hk] at h; cases h

/-- The number that a place was given last. -/
def las (T : Nat → Int) (p : Nat) : Int := 64 * (T p - 1) + p
/-- A number's place. -/
def plc (id : Int) : Nat := (id % 64).toNat
theorem plc_lt (id : Int) : plc id < 64 := by unfold plc; omega
theorem plc_cast (id : Int) : ((plc id : Nat) : Int) = id % 64 := by unfold plc; omega
theorem plc_las (T : Nat → Int) {p : Nat} (hp : p < 64) : plc (las T p) = p := by unfold plc las; omega

/-- A place may be taken. -/
def may1 (T : Nat → Int) (L : Nat → Bool) (p : Nat) : Bool := !L p && decide (T p < 1048576)
/-- p is the least place that may be taken; 64: there is none. -/
def Room (T : Nat → Int) (L : Nat → Bool) (p : Nat) : Prop := p ≤ 64 ∧ (∀ i, i < p → may1 T L i = false) ∧ (p < 64 → may1 T L p = true)
theorem room_total (T : Nat → Int) (L : Nat → Bool) : ∃ p, Room T L p := by
  have key : ∀ n, (∀ i, i < n → may1 T L i = false) ∨ ∃ p, p < n ∧ (∀ i, i < p → may1 T L i = false) ∧ may1 T L p = true := by
    intro n
    induction n with
    | zero => exact .inl fun i hi => absurd hi (Nat.not_lt_zero _)
    | succ n ih =>
      rcases ih with h | ⟨p, h1, h2, h3⟩
      · cases e : may1 T L n
        · refine .inl fun i hi => ?_
          by_cases q : i = n
          · rw [q]; exact e
          · exact h i (by omega)
        · exact .inr ⟨n, by omega, h, e⟩
      · exact .inr ⟨p, by omega, h2, h3⟩
  rcases key 64 with h | ⟨p, h1, h2, h3⟩
  · exact ⟨64, Nat.le_refl _, h, fun h => absurd h (Nat.lt_irrefl _)⟩
  · exact ⟨p, by omega, h2, fun _ => h3⟩
theorem room_one {T : Nat → Int} {L : Nat → Bool} {p q : Nat} (h : Room T L p) (k : Room T L q) : p = q := by
  rcases Nat.lt_trichotomy p q with e | e | e
  · have h1 := h.2.2 (by have := k.1; omega)
    rw [k.2.1 p e] at h1; cases h1
  · exact e
  · have h1 := k.2.2 (by have := h.1; omega)
    rw [h.2.1 q e] at h1; cases h1
theorem may1_iff (T : Nat → Int) (L : Nat → Bool) (p : Nat) : may1 T L p = true ↔ L p = false ∧ T p < 1048576 := by simp [may1]
/-- The arena in which a place is taken. -/
theorem okA_take {T : Nat → Int} {L : Nat → Bool} {p : Nat} (h : okA T L = true) (hm : may1 T L p = true) : okA (setI T p (T p + 1)) (setB L p true) = true := by
  refine (okN_iff _ _ _).2 fun i hi => (okP_iff _ _).2 ?_
  have h0 := okA_at h hi
  have h1 := (may1_iff _ _ _).1 hm
  by_cases e : i = p
  · subst e
    rw [setI_same, setB_same]
    omega
  · rw [setI_other _ _ _ e, setB_other _ _ _ e]
    exact h0
theorem okA_free {T : Nat → Int} {L : Nat → Bool} {p : Nat} (h : okA T L = true) : okA T (setB L p false) = true := by
  refine (okN_iff _ _ _).2 fun i hi => (okP_iff _ _).2 ?_
  have h0 := okA_at h hi
  by_cases e : i = p
  · subst e
    rw [setB_same]
    exact ⟨h0.1, h0.2.1, by simp⟩
  · rw [setB_other _ _ _ e]
    exact h0
/-- What is left where a number is taken away. -/
def fre (T : Nat → Int) (L : Nat → Bool) (id : Int) : Nat → Bool := if id = las T (plc id) then setB L (plc id) false else L
/-- Was a number given? -/
def giv (T : Nat → Int) (id : Int) : Bool := decide ((0 : Int) ≤ id) && decide (id ≤ las T (plc id))
/-- Is a number there? -/
def isA (T : Nat → Int) (L : Nat → Bool) (id : Int) : Bool := decide (id = las T (plc id)) && L (plc id)
theorem eqA_fre (T : Nat → Int) (L : Nat → Bool) (id : Int) : eqA T (fre T L id) T L = !isA T L id := by
  have hp := plc_lt id
  unfold fre isA
  by_cases h : id = las T (plc id)
  · rw [if_pos h, decide_eq_true h, Bool.true_and]
    cases e : L (plc id)
    · refine (eqA_iff _ _ _ _).2 ⟨fun _ _ => rfl, fun i hi => ?_⟩
      by_cases q : i = plc id
      · subst q; rw [setB_same, e]
      · rw [setB_other _ _ _ q]
    · exact eqA_no hp (by rw [setB_same, e]; simp)
  · rw [if_neg h, decide_eq_false h]
    simp [eqA_self]
end Go.Proofs.Ytghbbedekmdpoaa
