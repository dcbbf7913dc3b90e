/- ArenaNever's mathematics: how many are Live; which numbers were given; what stays through a sequence of acts. -/
import Derived.Test.YtghbbedekmdpoaaAr9
namespace Go.Proofs.Ytghbbedekmdpoaa
open Go.RowKit
set_option linter.unusedVariables false

/-- How many of the first k places are Live. -/
def cnt (L : Nat → Bool) : Nat → Nat
  | 0 => 0
  | k + 1 => cnt L k + if L k then 1 else 0
theorem nums_cnt (T : Nat → Int) (L : Nat → Bool) : ∀ k, (nums T L k).length = cnt L k
  | 0 => rfl
  | k + 1 => by
    have := nums_cnt T L k
    unfold nums cnt
    cases L k
    · simpa using this
    · simp [this]
theorem cnt_congr {L M : Nat → Bool} : ∀ k, (∀ i, i < k → L i = M i) → cnt L k = cnt M k
  | 0, _ => rfl
  | k + 1, h => by unfold cnt; rw [cnt_congr k (fun i hi => h i (by omega)), h k (by omega)]
theorem cnt_set {L : Nat → Bool} {p : Nat} (b : Bool) : ∀ k, p < k → cnt (setB L p b) k + (if L p then 1 else 0) = cnt L k + (if b then 1 else 0)
  | 0, h => absurd h (Nat.not_lt_zero _)
  | k + 1, h => by
    unfold cnt
    by_cases e : p = k
    · subst e
      rw [setB_same, cnt_congr (M := L) p (fun i hi => setB_other L p b (by omega))]
      omega
    · have := cnt_set (L := L) (p := p) b k (by omega)
      rw [setB_other L p b (fun q => e q.symm)]
      omega
theorem cnt_all {L : Nat → Bool} : ∀ k, (∀ i, i < k → L i = true) → cnt L k = k
  | 0, _ => rfl
  | k + 1, h => by unfold cnt; rw [cnt_all k (fun i hi => h i (by omega)), h k (by omega)]; rfl
theorem cnt_le (L : Nat → Bool) : ∀ k, cnt L k ≤ k
  | 0 => Nat.le_refl _
  | k + 1 => by have := cnt_le L k; unfold cnt; split <;> omega

/-- What stays: the arena is valid; no place was taken more often than there were acts; every number of the list was given. -/
structure Nev (T : Nat → Int) (L : Nat → Bool) (G : List Int) (i : Nat) : Prop where
  ok : okA T L = true
  few : ∀ p, p < 64 → T p ≤ (i : Int)
  giv : ∀ z, z ∈ G → giv T z = true
  len : G.length ≤ i
theorem Nev.start : Nev (fun _ => 0) (fun _ => false) [] 0 := ⟨by decide +kernel, fun _ _ => Int.le_refl _, fun z hz => by simp at hz, Nat.le_refl _⟩
theorem Nev.next {T : Nat → Int} {L : Nat → Bool} {G : List Int} {i : Nat} (h : Nev T L G i) : Nev T L G (i + 1) :=
  ⟨h.ok, fun p hp => by have := h.few p hp; omega, h.giv, by have := h.len; omega⟩
theorem Nev.free {T : Nat → Int} {L : Nat → Bool} {G : List Int} {i p : Nat} (h : Nev T L G i) : Nev T (setB L p false) G (i + 1) :=
  ⟨okA_free h.ok, fun q hq => by have := h.few q hq; omega, h.giv, by have := h.len; omega⟩
theorem giv_iff (T : Nat → Int) (z : Int) : giv T z = true ↔ 0 ≤ z ∧ z ≤ las T (plc z) := by simp [giv]
theorem las_set {T : Nat → Int} {p : Nat} : las (setI T p (T p + 1)) p = 64 * T p + p := by unfold las; rw [setI_same]; omega
theorem giv_mono {T : Nat → Int} {p : Nat} {z : Int} (h : giv T z = true) : giv (setI T p (T p + 1)) z = true := by
  rw [giv_iff] at h ⊢
  refine ⟨h.1, Int.le_trans h.2 ?_⟩
  unfold las
  by_cases e : plc z = p
  · rw [e, setI_same]; omega
  · rw [setI_other T p _ e]; omega
theorem plc_new {T : Nat → Int} {p : Nat} (hp : p < 64) : plc (las (setI T p (T p + 1)) p) = p := plc_las _ hp
theorem giv_fresh {T : Nat → Int} {p : Nat} {z : Int} (hp : p < 64) (h : giv T z = true) : z ≠ las (setI T p (T p + 1)) p := by
  intro e
  rw [giv_iff, e, plc_new hp, las_set] at h
  unfold las at h
  omega
theorem Nev.take {T : Nat → Int} {L : Nat → Bool} {G : List Int} {i p : Nat} (h : Nev T L G i) (hp : p < 64) (hm : may1 T L p = true) :
    Nev (setI T p (T p + 1)) (setB L p true) (G ++ [las (setI T p (T p + 1)) p]) (i + 1) := by
  refine ⟨okA_take h.ok hm, fun q hq => ?_, fun z hz => ?_, by have := h.len; simp; omega⟩
  · by_cases e : q = p
    · subst e; rw [setI_same]; have := h.few q hq; omega
    · rw [setI_other T p _ e]; have := h.few q hq; omega
  · rcases List.mem_append.1 hz with q | q
    · exact giv_mono (h.giv z q)
    · have q := List.mem_singleton.1 q
      subst q
      rw [giv_iff, plc_new hp]
      have := (okA_at h.ok hp).1
      refine ⟨?_, Int.le_refl _⟩
      rw [las_set]; omega
theorem is_new {T : Nat → Int} {L : Nat → Bool} {p : Nat} (hp : p < 64) : isA (setI T p (T p + 1)) (setB L p true) (las (setI T p (T p + 1)) p) = true := by
  unfold isA
  rw [plc_new hp, setB_same]
  simp
theorem is_freed (T : Nat → Int) (L : Nat → Bool) (id : Int) : isA T (setB L (plc id) false) id = false := by
  unfold isA
  rw [setB_same]
  simp
theorem Nev.full {T : Nat → Int} {L : Nat → Bool} {G : List Int} {i : Nat} (h : Nev T L G i) (hi : i ≤ 150) (hR : Room T L 64) : cnt L 64 = 64 :=
  cnt_all 64 (fun p hp => by
    cases e : L p
    · have h1 := hR.2.1 p hp
      rw [(may1_iff T L p).2 ⟨e, by have := h.few p hp; omega⟩] at h1
      cases h1
    · rfl)
/-- Free of a number that is not there: an error. -/
theorem free_no (T : Nat → Int) (L : Nat → Bool) (id : Int) (hA : okA T L = true) (hI : isA T L id = false) : ∃ k : Int, (k == 0) = false ∧ ∀ w, Calls Try.prog 13 #[.agg (ar T L), .int .i64 id] w (Ret (.tuple #[.agg ar0, .int .i64 k]) w) := by
  cases hG : giv T id
  · exact ⟨6, rfl, fun w => free_none T L id w hA hG⟩
  · exact ⟨12, rfl, fun w => free_stale T L id w hA hG hI⟩

theorem below_made (X : World) (c : Array Value) : Below X.heap.size X ((X.alloc (.cells ar0 25)).setRow X.heap.size c) := below_setRow (below_box _) (Nat.le_refl _) c
theorem grownBy_setRow (X : World) (g : Nat) (c : Array Value) : X.grownBy (X.setRow g c) (some g) :=
  ⟨rfl, rfl, rfl, by simp [World.setRow], fun k _ hk => setRow_other X (fun e => hk (by rw [e])) c⟩
theorem Rn.farRow {X : World} {base g : Nat} {t : TypeId} {v : Value} {l : List Int} {cs : Array Value} (h : Rn X base v l) (hb : X.heap[g]? = some (.cells cs t (0, 0))) (hte : t ≠ 3) (c : Array Value) : Rn (X.setRow g c) base v l :=
  World.ownsRow.kept h (grownBy_setRow X g c) (.inr (Ne.symm (blk_not_row hb hte h)))
end Go.Proofs.Ytghbbedekmdpoaa
