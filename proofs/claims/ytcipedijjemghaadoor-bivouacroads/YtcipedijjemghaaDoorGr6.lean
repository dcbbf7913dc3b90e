/- The memory of spread: its boxes, the regions, the stack; what each step leaves. -/
import Derived.Test.YtcipedijjemghaaDoorGr5
import Derived.Maps.AppendAt
namespace Go.Proofs.YtcipedijjemghaaDoor
open Go.RowKit Go.Shelf
set_option linter.unusedVariables false

theorem Tryd.infoI : (Tryd.prog.info? 3).map (fun i => (i.zero, i.size, i.bytes)) = some (some (.int .i64 0), 1, 8) := by kernel_rfl
theorem grownBy_set (W : World) (b i : Nat) (v : Value) : W.grownBy (W.setCell ⟨b, i, none⟩ v) (some b) :=
  ⟨rfl, rfl, rfl, by simp, fun k _ hk => heap_setCell_other _ _ _ _ (fun e => hk (by rw [e]))⟩
theorem grownBy_trans {A B C : World} {row r2 : Option Nat} (h : A.grownBy B row) (k : B.grownBy C r2) (hr : ∀ r, r2 = some r → A.heap.size ≤ r ∨ row = some r) : A.grownBy C row :=
  ⟨k.os.trans h.os, k.tape.trans h.tape, k.output.trans h.output, Nat.le_trans h.size k.size, fun i hi hne =>
    (k.block i (Nat.lt_of_lt_of_le hi h.size) (fun e => (hr i e.symm).elim (fun hl => by omega) (fun hl => hne hl.symm))).trans (h.block i hi hne)⟩
theorem grownBy_below {A B : World} {n : Nat} {row : Option Nat} (h : A.grownBy B row) (hr : ∀ r, row = some r → n ≤ r) (hn : n ≤ A.heap.size) : Below n A B :=
  (Below.refl n A).grown h hn hr
theorem below_grownBy {A B : World} {row : Option Nat} (h : Below A.heap.size A B) : A.grownBy B row := ⟨h.os, h.tape, h.output, h.size, fun k hk _ => h.block k hk⟩

/-- Block rg holds the numbers R 0 .. R (N - 1), and may be written. -/
def Ir (W : World) (rg N : Nat) (R : Nat → Int) : Prop := ∃ cs, W.heap[rg]? = some (.cells cs 3 (0, 0)) ∧ ∀ i, i < N → cs[i]? = some (.int .i64 (R i))
theorem Ir.cell {W : World} {rg N : Nat} {R : Nat → Int} (h : Ir W rg N R) {i : Nat} (hi : i < N) : W.cell? ⟨rg, i, none⟩ = some (.int .i64 (R i)) := by
  obtain ⟨cs, h1, h2⟩ := h
  rw [cell_of_row W rg i cs 3 (0, 0) h1]; exact h2 i hi
theorem Ir.frozen {W : World} {rg N : Nat} {R : Nat → Int} (h : Ir W rg N R) (i : Nat) : W.frozen? ⟨rg, i, none⟩ = false := by
  obtain ⟨cs, h1, h2⟩ := h
  exact frozen_of_row W rg i cs 3 h1
theorem Ir.lt {W : World} {rg N : Nat} {R : Nat → Int} (h : Ir W rg N R) : rg < W.heap.size := by
  obtain ⟨cs, h1, h2⟩ := h
  exact (Array.getElem?_eq_some_iff.1 h1).1
theorem Ir.block {W W' : World} {rg N : Nat} {R : Nat → Int} (h : Ir W rg N R) (e : W'.heap[rg]? = W.heap[rg]?) : Ir W' rg N R := by
  obtain ⟨cs, h1, h2⟩ := h
  exact ⟨cs, e.trans h1, h2⟩
theorem Ir.keep {W W' : World} {rg N : Nat} {R : Nat → Int} (h : Ir W rg N R) (hb : Below W.heap.size W W') : Ir W' rg N R := h.block (hb.block rg h.lt)
theorem Ir.congr {W : World} {rg N : Nat} {R Q : Nat → Int} (h : Ir W rg N R) (e : ∀ i, i < N → R i = Q i) : Ir W rg N Q := by
  obtain ⟨cs, h1, h2⟩ := h
  exact ⟨cs, h1, fun i hi => by rw [← e i hi]; exact h2 i hi⟩
theorem Ir.set {W : World} {rg N : Nat} {R : Nat → Int} (h : Ir W rg N R) {i : Nat} (hi : i < N) (v : Int) : Ir (W.setCell ⟨rg, i, none⟩ (.int .i64 v)) rg N (upd R i v) := by
  obtain ⟨cs, h1, h2⟩ := h
  refine ⟨_, heap_setCell_same W rg i cs 3 _ h1, fun j hj => ?_⟩
  have hl : i < cs.size := (Array.getElem?_eq_some_iff.1 (h2 i hi)).1
  by_cases e : j = i
  · subst e
    rw [upd_same, Array.getElem?_setIfInBounds_self_of_lt hl]
  · rw [upd_other _ _ _ e, Array.getElem?_setIfInBounds_ne (fun e2 => e e2.symm)]
    exact h2 j hj
theorem Ir.made (w : World) (N : Nat) : Ir (w.alloc (.cells (madeCells #[.int .i64 0] N) 3)) w.heap.size N (fun _ => 0) := by
  refine ⟨_, World.alloc_heap_new w _, fun i hi => ?_⟩
  have h := toList_madeCells_one (.int .i64 0) N
  rw [← Array.getElem?_toList, h]
  simp [hi]

/-- Cells as values. -/
def sv (S : List Nat) : List Value := S.map fun k : Nat => Value.int .i64 (k : Int)
theorem sv_length (S : List Nat) : (sv S).length = S.length := by simp [sv]

/-- spread's memory but for the stack. -/
structure Spc (w W : World) (rg N Kg Kr gb c : Nat) (ds : List Nat) (R : Nat → Int) : Prop where
  fr : w.grownBy W (some rg)
  bg : Boxed W w.heap.size 22 (.slice (some ⟨gb, 0, none⟩) N Kg)
  br : Boxed W (w.heap.size + 1) 26 (.slice (some ⟨rg, 0, none⟩) N Kr)
  bf : Boxed W (w.heap.size + 2) 3 (.int .i64 (c : Int))
  ir : Ir W rg N R
  ms : ∀ D ∈ ds, w.heap.size ≤ D ∧ W.heap[D]? = some (.deferred (some []))
/-- The stack. -/
def Stk (w W : World) (A : Nat → Prop) (S : List Nat) : Prop :=
  ∃ gk cap, Boxed W (w.heap.size + 4) 26 (.slice (some ⟨gk, 0, none⟩) S.length cap) ∧ 1 ≤ cap ∧ A gk ∧ W.ownsRow (w.heap.size + 3) 3 1 (.slice (some ⟨gk, 0, none⟩) S.length cap) S.length (sv S)

theorem box_row {W : World} {b : Nat} {t : TypeId} {u : Value} (h : Boxed W b t u) {row : Option Nat} (hr : ∀ r, row = some r → ∃ o : Obj, W.heap[r]? = some o ∧ o.isCells = false) : some b ≠ row := by
  intro e
  obtain ⟨o, ho, hc⟩ := hr b e.symm
  rw [show W.heap[b]? = _ from h] at ho
  cases ho; cases hc
theorem own_row {W : World} {base size k cap gk : Nat} {e : TypeId} {xs : List Value} (h : W.ownsRow base e size (.slice (some ⟨gk, 0, none⟩) k cap) k xs) : base ≤ gk ∧ gk < W.heap.size ∧ ∃ cur, W.heap[gk]? = some (.cells cur e (0, 0)) ∧ cur.size = cap * size ∧ k ≤ cap := by
  rcases h.2 with ⟨h', _⟩ | ⟨g', cap', cur, h', hb, hg, hnc, _, hcs, _⟩
  · simp at h'
  · simp only [Value.slice.injEq, Option.some.injEq, Addr.mk.injEq, and_true, true_and] at h'
    obtain ⟨rfl, rfl⟩ := h'
    exact ⟨hb, (Array.getElem?_eq_some_iff.1 hg).1, cur, hg, hcs, hnc⟩

theorem Spc.turn {w W W' : World} {rg N Kg Kr gb c : Nat} {ds : List Nat} {R : Nat → Int} {row : Option Nat} (h : Spc w W rg N Kg Kr gb c ds R) (hrg : rg < w.heap.size) (hg : W.grownBy W' row)
    (hr : ∀ r, row = some r → w.heap.size ≤ r ∧ (∃ o : Obj, W.heap[r]? = some o ∧ o.isCells = false) ∧ r ∉ ds) : Spc w W' rg N Kg Kr gb c ds R :=
  ⟨grownBy_trans h.fr hg (fun r e => .inl (hr r e).1), h.bg.kept hg (box_row h.bg fun r e => (hr r e).2.1), h.br.kept hg (box_row h.br fun r e => (hr r e).2.1), h.bf.kept hg (box_row h.bf fun r e => (hr r e).2.1),
    h.ir.block (hg.block rg h.ir.lt (fun e => by have := (hr rg e.symm).1; omega)),
    fun D hD => ⟨(h.ms D hD).1, (hg.block D (Array.getElem?_eq_some_iff.1 (h.ms D hD).2).1 (fun e => (hr D e.symm).2.2 hD)).trans (h.ms D hD).2⟩⟩
theorem Stk.turn {w W W' : World} {A : Nat → Prop} {S : List Nat} {row : Option Nat} (h : Stk w W A S) (hg : W.grownBy W' row) (hr : ∀ r, row = some r → ∃ o : Obj, W.heap[r]? = some o ∧ o.isCells = false) : Stk w W' A S := by
  obtain ⟨gk, cap, h1, h2, h3, h4⟩ := h
  refine ⟨gk, cap, h1.kept hg (box_row h1 hr), h2, h3, h4.kept hg (.inr fun e => ?_)⟩
  obtain ⟨_, _, cur, hc, _⟩ := own_row h4
  obtain ⟨o, ho, hx⟩ := hr gk (by simpa [Value.ownBlock] using e.symm)
  rw [hc] at ho; cases ho; cases hx
theorem Spc.keep {w W W' : World} {rg N Kg Kr gb c : Nat} {ds : List Nat} {R : Nat → Int} (h : Spc w W rg N Kg Kr gb c ds R) (hrg : rg < w.heap.size) (hb : Below W.heap.size W W') : Spc w W' rg N Kg Kr gb c ds R :=
  h.turn hrg (row := none) (below_grownBy hb) (fun r e => by cases e)
theorem Stk.keep {w W W' : World} {A : Nat → Prop} {S : List Nat} (h : Stk w W A S) (hb : Below W.heap.size W W') : Stk w W' A S := h.turn (row := none) (below_grownBy hb) (fun r e => by cases e)
theorem Stk.mono {w W : World} {A A' : Nat → Prop} {S : List Nat} (h : Stk w W A S) (f : ∀ k, k < W.heap.size → A k → A' k) : Stk w W A' S := by
  obtain ⟨gk, cap, h1, h2, h3, h4⟩ := h
  exact ⟨gk, cap, h1, h2, f gk (own_row h4).2.1 h3, h4⟩
/-- A region is labelled. -/
theorem Spc.setR {w W : World} {rg N Kg Kr gb c i : Nat} {ds : List Nat} {R : Nat → Int} (h : Spc w W rg N Kg Kr gb c ds R) (hrg : rg < w.heap.size) (hi : i < N) (v : Int) : Spc w (W.setCell ⟨rg, i, none⟩ (.int .i64 v)) rg N Kg Kr gb c ds (upd R i v) :=
  ⟨grownBy_trans h.fr (grownBy_set W rg i _) (fun r e => .inr e), box_far h.bg (by omega), box_far h.br (by omega), box_far h.bf (by omega), h.ir.set hi v,
    fun D hD => ⟨(h.ms D hD).1, (heap_setCell_other _ _ _ _ (fun e => by have := (h.ms D hD).1; simp at e; omega)).trans (h.ms D hD).2⟩⟩
theorem Stk.setR {w W : World} {A : Nat → Prop} {S : List Nat} {rg i : Nat} (h : Stk w W A S) (hrg : rg < w.heap.size) (v : Value) : Stk w (W.setCell ⟨rg, i, none⟩ v) A S := by
  obtain ⟨gk, cap, h1, h2, h3, h4⟩ := h
  exact ⟨gk, cap, box_far h1 (by omega), h2, h3, h4.kept (grownBy_set W rg i v) (.inr fun e => by have := (own_row h4).1; simp [Value.ownBlock] at e; omega)⟩
/-- The stack's box is written. -/
theorem Spc.setS {w W : World} {rg N Kg Kr gb c : Nat} {ds : List Nat} {R : Nat → Int} (h : Spc w W rg N Kg Kr gb c ds R) (hrg : rg < w.heap.size) {u : Value} (hu : Boxed W (w.heap.size + 4) 26 u) (v : Value) : Spc w (W.setCell ⟨w.heap.size + 4, 0, none⟩ v) rg N Kg Kr gb c ds R :=
  ⟨grownBy_trans h.fr (grownBy_set W _ 0 v) (fun r e => by injection e with e; exact .inl (by omega)), box_far h.bg (by omega), box_far h.br (by omega), box_far h.bf (by omega), h.ir.block (heap_setCell_other _ _ _ _ (by simp; omega)),
    fun D hD => ⟨(h.ms D hD).1, (heap_setCell_other _ _ _ _ (fun e => by
      have := (h.ms D hD).2
      have e' : D = w.heap.size + 4 := e
      rw [e', show W.heap[w.heap.size + 4]? = _ from hu] at this; cases this)).trans (h.ms D hD).2⟩⟩
theorem Stk.store {w W : World} {A : Nat → Prop} {S : List Nat} {gk cap : Nat} {u : Value} (hu : Boxed W (w.heap.size + 4) 26 u) (h2 : 1 ≤ cap) (h3 : A gk)
    (h4 : W.ownsRow (w.heap.size + 3) 3 1 (.slice (some ⟨gk, 0, none⟩) S.length cap) S.length (sv S)) : Stk w (W.setCell ⟨w.heap.size + 4, 0, none⟩ (.slice (some ⟨gk, 0, none⟩) S.length cap)) A S :=
  ⟨gk, cap, hu.set _, h2, h3, h4.kept (grownBy_set W _ 0 _) (.inr (hu.not_row (by decide) h4).symm)⟩
theorem own_pop {W : World} {base gk cap x : Nat} {S : List Nat} (h : W.ownsRow base 3 1 (.slice (some ⟨gk, 0, none⟩) (S.length + 1) cap) (S.length + 1) (sv (S ++ [x]))) :
    W.ownsRow base 3 1 (.slice (some ⟨gk, 0, none⟩) S.length cap) S.length (sv S) ∧ W.cell? ⟨gk, S.length, none⟩ = some (.int .i64 (x : Int)) := by
  refine ⟨⟨by simp [sv], .inr ?_⟩, ?_⟩
  · rcases h.2 with ⟨h', _⟩ | ⟨g', cap', cur, h', hb, hg, hnc, hcm, hcs, ht⟩
    · simp at h'
    · simp only [Value.slice.injEq, Option.some.injEq, Addr.mk.injEq, and_true, true_and] at h'
      obtain ⟨rfl, rfl⟩ := h'
      refine ⟨gk, cap, cur, rfl, hb, hg, by omega, hcm, hcs, ?_⟩
      have e : cur.toList.take (S.length * 1) = (cur.toList.take ((S.length + 1) * 1)).take (S.length * 1) := by rw [List.take_take]; congr 1; omega
      rw [e, ht]
      simp [sv]
  · rw [World.ownsRow.cellAt h S.length (by omega)]
    simp [sv]
/-- Behind an append. -/
theorem Spc.grown {w W W' : World} {rg N Kg Kr gb c gk k cap : Nat} {xs : List Value} {ds : List Nat} {R : Nat → Int} (h : Spc w W rg N Kg Kr gb c ds R) (hrg : rg < w.heap.size)
    (h4 : W.ownsRow (w.heap.size + 3) 3 1 (.slice (some ⟨gk, 0, none⟩) k cap) k xs) (hg : W.grownBy W' (some gk)) : Spc w W' rg N Kg Kr gb c ds R := by
  obtain ⟨g1, g2, cur, g3, _⟩ := own_row h4
  refine ⟨grownBy_trans h.fr hg (fun r e => by injection e with e; exact .inl (by omega)), h.bg.kept hg (by simp; omega), h.br.kept hg (by simp; omega), h.bf.kept hg (by simp; omega), h.ir.block (hg.block rg h.ir.lt (by simp; omega)),
    fun D hD => ⟨(h.ms D hD).1, (hg.block D (Array.getElem?_eq_some_iff.1 (h.ms D hD).2).1 (fun e => by
      injection e with e
      have := (h.ms D hD).2
      rw [e, g3] at this; cases this)).trans (h.ms D hD).2⟩⟩

/-- 'l = append(l, x)' in a round: x lies in a new block of its own; no box of one number becomes the row. -/
theorem append_n {F : Fence} {n : Nat} {ops : Array Oper} {rest : List Oper} {o : Oper} {a : Act} {Q : Exit → Act → World → Prop} (hgd : o.guard = none) (s x : Operand)
    (ho : o.op = .call { callee := .builtin .append, args := #[s, x], argTypes := #[26, 26] })
    (base k cap gk : Nat) (xs : List Value) (z : Int) (w : World) (hs : a.eval s = .slice (some ⟨gk, 0, none⟩) k cap) (hown : w.ownsRow base 3 1 (.slice (some ⟨gk, 0, none⟩) k cap) k xs)
    (hx : a.eval x = .slice (some ⟨w.heap.size, 0, none⟩) 1 1) (hk : k ≤ 1000000) (hbase : base ≤ w.heap.size) (hcap : 1 ≤ cap)
    (h : ∀ gk' cap' w', w'.ownsRow base 3 1 (.slice (some ⟨gk', 0, none⟩) (k + 1) cap') (k + 1) (xs ++ [.int .i64 z]) → 1 ≤ cap' → w.grownBy w' (some gk) → (∀ b u, Boxed w b 3 u → b ≠ gk → b ≠ gk') →
      wpListIn F n Tryd.prog ops Q rest (a.put o.dst (.slice (some ⟨gk', 0, none⟩) (k + 1) cap')) w') :
    wpListIn F n Tryd.prog ops Q (o :: rest) a (w.alloc (.cells #[.int .i64 z] 3)) := by
  obtain ⟨i0, hi, hz0, hz1, hz2⟩ := info_parts Tryd.infoI
  have hgr : w.grownBy (w.alloc (.cells #[.int .i64 z] 3)) (some gk) := World.grownBy_alloc _ _ _
  have h1c : ∀ u ∈ [Value.int .i64 z], u.oneCell' = true := by intro u hu; simp at hu; subst hu; rfl
  by_cases hroom : k + 1 ≤ cap
  · refine wpListIn_append_fits _ hgd s x 26 ho base 3 i0 1 Tryd.underlying26 hi hz1 gk k cap xs hs (hown.alloc _) ⟨w.heap.size, 0, none⟩ 1 1 [.int .i64 z] hx rfl (cell_one_new _ _ _) h1c hroom ?_
    intro w' hown' hg
    exact h gk cap w' hown' hcap (grownBy_trans hgr hg (fun r e => .inr e)) (fun b u _ hne => hne)
  · refine wpListIn_append_own _ hgd s x 26 ho base 3 i0 (.int .i64 0) 1 8 Tryd.underlying26 hi hz0 hz1 hz2 rfl (by decide) _ k xs hs (hown.alloc _) ⟨w.heap.size, 0, none⟩ 1 1 [.int .i64 z] hx rfl (cell_one_new _ _ _) h1c (by unfold maxLen; omega) (by omega) (by simp; omega) ?_
    intro v' w' hown' hg _
    obtain ⟨g', cap', rfl⟩ := ownsRow_succ hown'
    obtain ⟨_, _, cur, q1, q2, q3⟩ := own_row hown'
    have hg2 : w.grownBy w' (some gk) := grownBy_trans hgr hg (fun r e => .inr e)
    refine h g' cap' w' hown' (by omega) hg2 (fun b u hb hne e => ?_)
    subst e
    have hbk : Boxed w' b 3 u := hb.kept hg2 (by simpa using hne)
    rw [show w'.heap[b]? = _ from hbk] at q1
    injection q1 with q1
    injection q1 with q1
    subst q1
    simp at q2
    omega

end Go.Proofs.YtcipedijjemghaaDoor
