/- A heap in memory: its rows, its block. -/
import Derived.Test.YtcipedijjemghaaDoorRt1
import Derived.Test.YtcipedijjemghaaDoorRhMath
import Derived.Lib.QuietBelow
namespace Go.Proofs.YtcipedijjemghaaDoor
open Go.RowKit Go.Sort
set_option linter.unusedVariables false

/-- The cells of visits, one behind another. -/
def ves (l : List (Int × Int)) : List Value := l.flatMap fun e => [.int .i64 e.1, .int .i64 e.2]
theorem ves_len (l : List (Int × Int)) : (ves l).length = l.length * 2 := by
  induction l with
  | nil => rfl
  | cons a l ih =>
    have : ves (a :: l) = [.int .i64 a.1, .int .i64 a.2] ++ ves l := rfl
    rw [this, List.length_append, ih]
    simp only [List.length_cons, List.length_nil]
    omega
theorem ves_append (l m : List (Int × Int)) : ves (l ++ m) = ves l ++ ves m := by simp [ves]
theorem ves_at : ∀ (l : List (Int × Int)) (j : Nat), j < l.length * 2 → (ves l)[j]? = some (.int .i64 (if j % 2 = 0 then (at13 l (j / 2)).1 else (at13 l (j / 2)).2))
  | [], j, h => by simp at h
  | a :: l, j, h => by
    have h0 : ves (a :: l) = [.int .i64 a.1, .int .i64 a.2] ++ ves l := rfl
    rw [h0]
    by_cases hj : j < 2
    · rw [List.getElem?_append_left (by simpa using hj)]
      have : j = 0 ∨ j = 1 := by omega
      rcases this with rfl | rfl <;> simp [at13]
    · rw [List.getElem?_append_right (by simp; omega)]
      simp only [List.length_cons, List.length_nil] at h ⊢
      rw [ves_at l (j - 2) (by omega)]
      have e1 : (j - 2) % 2 = j % 2 := by omega
      have e2 : j / 2 = (j - 2) / 2 + 1 := by omega
      rw [e1, e2]
      rfl
theorem ves_one {l : List (Int × Int)} {u : Value} (h : u ∈ ves l) : u.oneCell' = true := by
  unfold ves at h
  obtain ⟨i, _, hu⟩ := List.mem_flatMap.1 h
  simp at hu
  rcases hu with rfl | rfl <;> rfl
/-- By costs. -/
def vfn : Value := .func (.func 40) #[] #[]
/-- v is a row of the call's own that holds these visits. -/
def Rv (w : World) (base : Nat) (v : Value) (l : List (Int × Int)) : Prop := w.ownsRow base 72 2 v l.length (ves l)
theorem Rv.nil (w : World) (base : Nat) : Rv w base (.slice none 0 0) [] := World.ownsRow_nil _ _ _ _
theorem Rv.kept {w w' : World} {base : Nat} {v : Value} {l : List (Int × Int)} {row : Option Nat} (h : Rv w base v l) (hg : w.grownBy w' row) (hr : v.ownBlock = none ∨ v.ownBlock ≠ row) : Rv w' base v l := World.ownsRow.kept h hg hr
theorem Rv.keep {w w' : World} {base : Nat} {v : Value} {l : List (Int × Int)} (h : Rv w base v l) (hb : Below w.heap.size w w') : Rv w' base v l :=
  World.ownsRow.kept h (below_grownBy (row := none) hb) (by cases v.ownBlock <;> simp)
theorem Rv.lt {w : World} {base : Nat} {v : Value} {l : List (Int × Int)} (h : Rv w base v l) : ∀ k, v.ownBlock = some k → base ≤ k ∧ k < w.heap.size := World.ownsRow.lt h
theorem Rv.big {w : World} {base : Nat} {v : Value} {l : List (Int × Int)} (h : Rv w base v l) (h0 : 0 < l.length) :
    ∃ g cap cur, v = .slice (some ⟨g, 0, none⟩) l.length cap ∧ l.length ≤ cap ∧ cap ≤ maxLen ∧ base ≤ g ∧ g < w.heap.size ∧ w.heap[g]? = some (.cells cur 72 (0, 0)) ∧ cur.size = cap * 2 ∧ cur.toList.take (l.length * 2) = ves l := by
  rcases h.2 with ⟨rfl, hn⟩ | ⟨g, cap, cur, rfl, hg, hh, hnc, hcm, hcs, htk⟩
  · omega
  · exact ⟨g, cap, cur, rfl, hnc, hcm, hg, (Array.getElem?_eq_some_iff.1 hh).1, hh, hcs, htk⟩
theorem Rv.slice {w : World} {base : Nat} {v : Value} {l : List (Int × Int)} (h : Rv w base v l) : ∃ A cap, v = .slice A l.length cap ∧ l.length ≤ cap ∧ cap ≤ maxLen := by
  rcases h.2 with ⟨rfl, hn⟩ | ⟨g, cap, cur, rfl, hg, hh, hnc, hcm, hcs, htk⟩
  · rw [hn]
    exact ⟨none, 0, rfl, by omega, by simp [maxLen]⟩
  · exact ⟨_, cap, rfl, hnc, hcm⟩
theorem Rv.cells {w : World} {base g n cap : Nat} {l : List (Int × Int)} (h : Rv w base (.slice (some ⟨g, 0, none⟩) n cap) l) {i : Nat} (hi : i < l.length) :
    w.cell? ⟨g, i * 2, none⟩ = some (.int .i64 (at13 l i).1) ∧ w.cell? ⟨g, i * 2 + 1, none⟩ = some (.int .i64 (at13 l i).2) ∧ w.frozen? ⟨g, i * 2, none⟩ = false ∧ w.frozen? ⟨g, i * 2 + 1, none⟩ = false := by
  obtain ⟨g', cap', cur, e, _, _, _, _, hh, _, htk⟩ := h.big (by omega)
  injection e with e1 e2 e3
  injection e1 with e1
  injection e1 with e1
  subst e1
  have q : ∀ j, j < l.length * 2 → w.cell? ⟨g, j, none⟩ = (ves l)[j]? := by
    intro j hj
    rw [cell_of_row w g j cur _ (0, 0) hh, ← htk, List.getElem?_take_of_lt hj, Array.getElem?_toList]
  refine ⟨?_, ?_, by simp [World.frozen?, hh], by simp [World.frozen?, hh]⟩
  · rw [q _ (by omega), ves_at _ _ (by omega), if_pos (by omega), show i * 2 / 2 = i by omega]
  · rw [q _ (by omega), ves_at _ _ (by omega), if_neg (by omega), show (i * 2 + 1) / 2 = i by omega]
theorem arr_take {cur : Array Value} {n : Nat} {l : List Value} (hl : l.length = n) (h : ∀ j, j < n → cur[j]? = l[j]?) : cur.toList.take n = l := by
  apply List.ext_getElem?
  intro j
  by_cases hj : j < n
  · rw [List.getElem?_take_of_lt hj, Array.getElem?_toList, h j hj]
  · rw [List.getElem?_take_eq_none (by omega), List.getElem?_eq_none (by omega)]
/-- One visit is written. -/
theorem Rv.set {w : World} {base g n cap : Nat} {l : List (Int × Int)} (h : Rv w base (.slice (some ⟨g, 0, none⟩) n cap) l) {i : Nat} (hi : i < l.length) (a b : Int) :
    Rv ((w.setCell ⟨g, i * 2, none⟩ (.int .i64 a)).setCell ⟨g, i * 2 + 1, none⟩ (.int .i64 b)) base (.slice (some ⟨g, 0, none⟩) n cap) (l.set i (a, b)) := by
  obtain ⟨g', cap', cur, e, h1, h2, h3, h4, hh, hcs, htk⟩ := h.big (by omega)
  injection e with e1 e2 e3
  injection e1 with e1
  injection e1 with e1
  subst e1 e2 e3
  refine ⟨by rw [ves_len], .inr ⟨g, cap, (cur.setIfInBounds (i * 2) (.int .i64 a)).setIfInBounds (i * 2 + 1) (.int .i64 b), by rw [List.length_set], h3, setCell_blk (setCell_blk hh _) _, by rw [List.length_set]; exact h1, h2, by simp [hcs], ?_⟩⟩
  refine arr_take (by rw [ves_len]) fun j hj => ?_
  rw [List.length_set] at hj
  rw [ves_at _ _ (by rw [List.length_set]; exact hj), at13_set _ _ _ _ hi]
  have hc : j < cur.size := by rw [hcs]; omega
  have old : cur[j]? = some (.int .i64 (if j % 2 = 0 then (at13 l (j / 2)).1 else (at13 l (j / 2)).2)) := by
    rw [← ves_at l j hj, ← htk, List.getElem?_take_of_lt hj, Array.getElem?_toList]
  rw [Array.getElem?_setIfInBounds, Array.getElem?_setIfInBounds]
  simp only [Array.size_setIfInBounds]
  by_cases e1 : i * 2 + 1 = j
  · subst e1
    have hq : (i * 2 + 1) / 2 = i := by omega
    have hr : ¬ (i * 2 + 1) % 2 = 0 := by omega
    rw [if_pos rfl, if_pos hc, hq, if_neg hr, if_pos rfl]
  · rw [if_neg e1]
    by_cases e2 : i * 2 = j
    · subst e2
      have hq : i * 2 / 2 = i := by omega
      have hr : i * 2 % 2 = 0 := by omega
      rw [if_pos rfl, if_pos hc, hq, if_pos hr, if_pos rfl]
    · have hq : ¬ j / 2 = i := by omega
      rw [if_neg e2, old, if_neg hq]

/-- Block hb is a heap of these visits; its row is the call's own. -/
structure Hp (w : World) (base hb : Nat) (v : Value) (l : List (Int × Int)) : Prop where
  ge : base ≤ hb
  blk : w.heap[hb]? = some (.cells #[v, vfn] 93 (0, 0))
  row : Rv w base v l
  len : l.length ≤ 5000000000
theorem Hp.lt {w : World} {base hb : Nat} {v : Value} {l : List (Int × Int)} (h : Hp w base hb v l) : hb < w.heap.size := (Array.getElem?_eq_some_iff.1 h.blk).1
theorem Hp.keep {w w' : World} {base hb : Nat} {v : Value} {l : List (Int × Int)} (h : Hp w base hb v l) (hb' : Below w.heap.size w w') : Hp w' base hb v l :=
  ⟨h.ge, (hb'.block hb h.lt).trans h.blk, h.row.keep hb', h.len⟩
theorem Hp.c0 {w : World} {base hb : Nat} {v : Value} {l : List (Int × Int)} (h : Hp w base hb v l) : w.cell? ⟨hb, 0, none⟩ = some v := by rw [cell_of_row w hb 0 _ _ (0, 0) h.blk]; rfl
theorem Hp.c1 {w : World} {base hb : Nat} {v : Value} {l : List (Int × Int)} (h : Hp w base hb v l) : w.cell? ⟨hb, 1, none⟩ = some vfn := by rw [cell_of_row w hb 1 _ _ (0, 0) h.blk]; rfl
theorem Hp.not_row {w : World} {base hb : Nat} {v : Value} {l : List (Int × Int)} (h : Hp w base hb v l) : some hb ≠ v.ownBlock := blk_not_row h.blk (by decide) h.row

/-- Which is ahead. -/
theorem less13_any (c x d y : Int) (w : World) : Calls Tryd.prog 40 #[.agg #[.int .i64 c, .int .i64 x], .agg #[.int .i64 d, .int .i64 y]] w (Ret (.bool (decide (x < y))) w) := by
  have K0 := Lib.hid ((Kx.new w 72 #[.int .i64 c, .int .i64 x]).alloc (.cells #[.int .i64 d, .int .i64 y] 72))
  have K1 : Hid (Kx w (w.heap.size + 1) ((w.alloc (.cells #[.int .i64 c, .int .i64 x] 72)).alloc (.cells #[.int .i64 d, .int .i64 y] 72)) 72 #[.int .i64 d, .int .i64 y]) := by
    have := Kx.next (newBox (w := w) (.cells #[.int .i64 c, .int .i64 x] 72)) 72 #[.int .i64 d, .int .i64 y]
    rw [size_alloc] at this
    exact this
  go_enter Tryd.func40, Tryd.ntmps40
  have c0 := K0.out.cell 1 rfl
  have c1 := K1.out.cell 1 rfl
  go_wp2
  go_ret
  exact Ret.mk rfl K0.out.below
end Go.Proofs.YtcipedijjemghaaDoor
