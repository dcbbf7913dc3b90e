/- The memory of spread: its boxes, the regions, the stack; what each step leaves. -/
import Derived.Test.YtcneilhhpblclaaGr5
import Derived.Maps.AppendAt
namespace Go.Proofs.Ytcneilhhpblclaa
open Go.RowKit Go.Shelf
set_option linter.unusedVariables false

theorem Try.infoI : (Try.prog.info? 3).map (fun i => (i.zero, i.size, i.bytes)) = some (some (.int .i64 0), 1, 8) := by kernel_rfl
theorem grownBy_set (W : World) (b i : Nat) (v : Value) : W.grownBy (W.setCell ⟨b, i, none⟩ v) (some b) :=
  ⟨rfl, rfl, rfl, by simp, fun k _ hk => heap_setCell_other _ _ _ _ (fun e => hk (by rw [e]))⟩
theorem grownBy_trans {A B C : World} {row r2 : Option Nat} (h : A.grownBy B row) (k : B.grownBy C r2) (hr : ∀ r, r2 = some r → A.heap.size ≤ r ∨ row = some r) : A.grownBy C row :=
  ⟨k.os.trans h.os, k.tape.trans h.tape, k.output.trans h.output, Nat.le_trans h.size k.size, fun i hi hne =>
    (k.block i (Nat.lt_of_lt_of_le hi h.size) (fun e => (hr i e.symm).elim (fun hl => by omega) (fun hl => hne hl.symm))).trans (h.block i hi hne)⟩
theorem grownBy_below {A B : World} {n : Nat} {row : Option Nat} (h : A.grownBy B row) (hr : ∀ r, row = some r → n ≤ r) (hn : n ≤ A.heap.size) : Below n A B :=
  (Below.refl n A).grown h hn hr
theorem below_grownBy {A B : World} {row : Option Nat} (h : Below A.heap.size A B) : A.grownBy B row := ⟨h.os, h.tape, h.output, h.size, fun k hk _ => h.block k hk⟩

/-- Block rg holds the numbers R 0 .. R (N - 1), and may be written. -/
def Ir (W : World) (rg N : Nat) (R : Nat → Int) : Prop := ∃ cs, W.heap[rg]? = some (.cells cs 3 (0, 0)) ∧ ∀ i, i < N → cs[i]? = some (.int .i64 (R i))
theorem Ir.cell {W : World} {rg N : Nat} {R : Nat → Int} (h : Ir W rg N R) {i : Nat} (hi : i < N) : W.cell? ⟨rg, i, none⟩ = some (.int .i64 (R i)) := by
  obtain ⟨cs, h1, h2⟩ := h
  rw [cell_of_row W rg i cs 3 (0, 0) h1]; exact h2 i hi
theorem Ir.frozen {W : World} {rg N : Nat} {R : Nat → Int} (h : Ir W rg N R) (i : Nat) : W.frozen? ⟨rg, i, none⟩ = false := by
  obtain ⟨cs, h1, h2⟩ := h
  exact frozen_of_row W rg i cs 3 h1
theorem Ir.lt {W : World} {rg N : Nat} {R : Nat → Int} (h : Ir W rg N R) : rg < W.heap.size := by
  obtain ⟨cs, h1, h2⟩ := h
  exact (Array.getElem?_eq_some_iff.1 h1).1
theorem Ir.block {W W' : World} {rg N : Nat} {R : Nat → Int} (h : Ir W rg N R) (e : W'.heap[rg]? = W.heap[rg]?) : Ir W' rg N R := by
  obtain ⟨cs, h1, h2⟩ := h
  exact ⟨cs, e.trans h1, h2⟩
theorem Ir.keep {W W' : World} {rg N : Nat} {R : Nat → Int} (h : Ir W rg N R) (hb : Below W.heap.size W W') : Ir W' rg N R := h.block (hb.block rg h.lt)
theorem Ir.congr {W : World} {rg N : Nat} {R Q : Nat → Int} (h : Ir W rg N R) (e : ∀ i, i < N → R i = Q i) : Ir W rg N Q := by
  obtain ⟨cs, h1, h2⟩ := h
  exact ⟨cs, h1, fun i hi => by rw [← e i hi]; exact h2 i hi⟩
theorem Ir.set {W : World} {rg N : Nat} {R : Nat → Int} (h : Ir W rg N R) {i : Nat} (hi : i < N) (v : Int) : Ir (W.setCell ⟨rg, i, none⟩ (.int .i64 v)) rg N (upd R i v) := by
  obtain ⟨cs, h1, h2⟩ := h
  refine ⟨_, heap_setCell_same W rg i cs 3 _ h1, fun j hj => ?_⟩
  have hl : i < cs.size := (Array.getElem?_eq_some_iff.1 (h2 i hi)).1
  by_cases e : j = i
  · subst e
    rw [upd_same, Array.getElem?_setIfInBounds_self_of_lt hl]
  · rw [upd_other _ _ _ e, Array.getElem?_setIfInBounds_ne (fun e2 => e e2.symm)]
    exact h2 j hj
theorem Ir.made (w : World) (N : Nat) : Ir (w.alloc (.cells (madeCells #[.int .i64 0] N) 3)) w.heap.size N (fun _ => 0) := by
  refine ⟨_, World.alloc_heap_new w _, fun i hi => ?_⟩
  have h := toList_madeCells_one (.int .i64 0) N
  rw [← Array.getElem?_toList, h]
  simp [hi]

/-- Cells as values. -/
def sv (S : List Nat) : List Value := S.map fun k : Nat => Value.int .i64 (k : Int)
theorem sv_length (S : List Nat) : (sv S).length = S.length := by simp [sv]

theorem box_row {W : World} {b : Nat} {t : TypeId} {u : Value} (h : Boxed W b t u) {row : Option Nat} (hr : ∀ r, row = some r → ∃ o : Obj, W.heap[r]? = some o ∧ o.isCells = false) : some b ≠ row := by
  intro e
  obtain ⟨o, ho, hc⟩ := hr b e.symm
  rw [show W.heap[b]? = _ from h] at ho
  cases ho; cases hc
theorem own_row {W : World} {base size k cap gk : Nat} {e : TypeId} {xs : List Value} (h : W.ownsRow base e size (.slice (some ⟨gk, 0, none⟩) k cap) k xs) : base ≤ gk ∧ gk < W.heap.size ∧ ∃ cur, W.heap[gk]? = some (.cells cur e (0, 0)) ∧ cur.size = cap * size ∧ k ≤ cap := by
  rcases h.2 with ⟨h', _⟩ | ⟨g', cap', cur, h', hb, hg, hnc, _, hcs, _⟩
  · simp at h'
  · simp only [Value.slice.injEq, Option.some.injEq, Addr.mk.injEq, and_true, true_and] at h'
    obtain ⟨rfl, rfl⟩ := h'
    exact ⟨hb, (Array.getElem?_eq_some_iff.1 hg).1, cur, hg, hcs, hnc⟩

theorem own_pop {W : World} {base gk cap x : Nat} {S : List Nat} (h : W.ownsRow base 3 1 (.slice (some ⟨gk, 0, none⟩) (S.length + 1) cap) (S.length + 1) (sv (S ++ [x]))) :
    W.ownsRow base 3 1 (.slice (some ⟨gk, 0, none⟩) S.length cap) S.length (sv S) ∧ W.cell? ⟨gk, S.length, none⟩ = some (.int .i64 (x : Int)) := by
  refine ⟨⟨by simp [sv], .inr ?_⟩, ?_⟩
  · rcases h.2 with ⟨h', _⟩ | ⟨g', cap', cur, h', hb, hg, hnc, hcm, hcs, ht⟩
    · simp at h'
    · simp only [Value.slice.injEq, Option.some.injEq, Addr.mk.injEq, and_true, true_and] at h'
      obtain ⟨rfl, rfl⟩ := h'
      refine ⟨gk, cap, cur, rfl, hb, hg, by omega, hcm, hcs, ?_⟩
      have e : cur.toList.take (S.length * 1) = (cur.toList.take ((S.length + 1) * 1)).take (S.length * 1) := by rw [List.take_take]; congr 1; omega
      rw [e, ht]
      simp [sv]
  · rw [World.ownsRow.cellAt h S.length (by omega)]
    simp [sv]
end Go.Proofs.Ytcneilhhpblclaa
