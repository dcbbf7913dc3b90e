/- Contracts: within, its iterator. -/
import Derived.Test.YtkghjaodnkjmoaaNr5
import Derived.Test.YtkghjaodnkjmoaaSeq12
import Derived.Test.YtkghjaodnkjmoaaTake12
import Derived.Shelf.AbstractIn
namespace Go.Proofs.Ytkghjaodnkjmoaa
open Go.RowKit Go.Shelf
set_option linter.unusedVariables false
attribute [local go_sem] Oper.semAt_some

theorem cell_drew (w : World) (a : Addr) : w.drew.cell? a = w.cell? a := rfl
theorem cell_here (X : World) (cs : Array Value) (t : TypeId) (g i : Nat) (h : g = X.heap.size) : (X.alloc (.cells cs t)).cell? ⟨g, i, none⟩ = cs[i]? := by
  subst h; exact cell_new X cs t i
theorem cell_past (X : World) (o : Obj) (g i : Nat) (h : g < X.heap.size) : (X.alloc o).cell? ⟨g, i, none⟩ = X.cell? ⟨g, i, none⟩ := World.cell?_alloc_lt _ _ _ h
/-- The boxes that the iterator has captured. -/
def Wb (W : World) (gx gr gy gn p : Nat) (x y r : Int) : Prop :=
  W.cell? ⟨gx, 0, none⟩ = some (.int .i64 x) ∧ W.cell? ⟨gr, 0, none⟩ = some (.int .i64 r) ∧ W.cell? ⟨gy, 0, none⟩ = some (.int .i64 y) ∧ W.cell? ⟨gn, 0, none⟩ = some (.pointer (some ⟨p, 0, none⟩))
theorem Wb.keep {W W' : World} {gx gr gy gn p : Nat} {x y r : Int} (h : Wb W gx gr gy gn p x y r) (hb : Below W.heap.size W W') : Wb W' gx gr gy gn p x y r :=
  ⟨kc hb h.1, kc hb h.2.1, kc hb h.2.2.1, kc hb h.2.2.2⟩
theorem Wb.lt {W : World} {gx gr gy gn p : Nat} {x y r : Int} (h : Wb W gx gr gy gn p x y r) : gx < W.heap.size ∧ gr < W.heap.size ∧ gy < W.heap.size ∧ gn < W.heap.size :=
  ⟨World.block_lt_of_cell? W _ h.1, World.block_lt_of_cell? W _ h.2.1, World.block_lt_of_cell? W _ h.2.2.1, World.block_lt_of_cell? W _ h.2.2.2⟩
/-- Cells and maps below block B lie as they lay. -/
def Kc (B : Nat) (W W' : World) : Prop := W.heap.size ≤ W'.heap.size ∧ ∀ b o, b < B → W.heap[b]? = some o → dat o = true → W'.heap[b]? = some o
theorem Kc.trans {B : Nat} {X Y Z : World} (h : Kc B X Y) (k : Kc B Y Z) : Kc B X Z := ⟨Nat.le_trans h.1 k.1, fun b o hb ho hc => k.2 b o hb (h.2 b o hb ho hc) hc⟩
theorem Kc.below {B : Nat} {W W' : World} (hb : Below W.heap.size W W') : Kc B W W' := ⟨hb.size, fun b u _ hu _ => (hb.block b (Array.getElem?_eq_some_iff.1 hu).1).trans hu⟩
theorem Kc.frm {B : Nat} {S : Nat → Prop} {W W' : World} (h : Frm S W W') (hS : ∀ b, S b → B ≤ b) : Kc B W W' := ⟨h.1, fun b o hb ho hc => h.2 b o (fun hs => by have := hS b hs; omega) ho hc⟩
theorem Kc.cell {B : Nat} {W W' : World} (h : Kc B W W') {b i : Nat} {v : Value} (hb : b < B) (hc : W.cell? ⟨b, i, none⟩ = some v) : W'.cell? ⟨b, i, none⟩ = some v := by
  unfold World.cell? at hc
  split at hc
  · rename_i cs t rg hh
    have h2 := h.2 b _ hb hh rfl
    simp only [World.cell?, h2]
    exact hc
  · cases hc
/-- Cells and maps of D lie as they lay. -/
def Kd (D : Nat → Prop) (W W' : World) : Prop := W.heap.size ≤ W'.heap.size ∧ ∀ b o, D b → W.heap[b]? = some o → dat o = true → W'.heap[b]? = some o
theorem Kd.trans {D : Nat → Prop} {X Y Z : World} (h : Kd D X Y) (k : Kd D Y Z) : Kd D X Z := ⟨Nat.le_trans h.1 k.1, fun b o hb ho hc => k.2 b o hb (h.2 b o hb ho hc) hc⟩
theorem Kd.below {D : Nat → Prop} {W W' : World} (hb : Below W.heap.size W W') : Kd D W W' := ⟨hb.size, fun b u _ hu _ => (hb.block b (Array.getElem?_eq_some_iff.1 hu).1).trans hu⟩
theorem Kd.frm {D S : Nat → Prop} {W W' : World} (h : Frm S W W') (hS : ∀ b, S b → ¬ D b) : Kd D W W' := ⟨h.1, fun b o hb ho hc => h.2 b o (fun hs => hS b hs hb) ho hc⟩
theorem Kd.kc {D : Nat → Prop} {B : Nat} {W W' : World} (h : Kd D W W') (hB : ∀ b, b < B → D b) : Kc B W W' := ⟨h.1, fun b o hb ho hc => h.2 b o (hB b hb) ho hc⟩
theorem Kd.cell {D : Nat → Prop} {W W' : World} (h : Kd D W W') {b i : Nat} {v : Value} (hb : D b) (hc : W.cell? ⟨b, i, none⟩ = some v) : W'.cell? ⟨b, i, none⟩ = some v := by
  unfold World.cell? at hc
  split at hc
  · rename_i cs t rg hh
    have h2 := h.2 b _ hb hh rfl
    simp only [World.cell?, h2]
    exact hc
  · cases hc
theorem Wb.keepD {D : Nat → Prop} {W W' : World} {gx gr gy gn p : Nat} {x y r : Int} (h : Wb W gx gr gy gn p x y r) (hk : Kd D W W') (hD : D gx ∧ D gr ∧ D gy ∧ D gn) : Wb W' gx gr gy gn p x y r :=
  ⟨hk.cell hD.1 h.1, hk.cell hD.2.1 h.2.1, hk.cell hD.2.2.1 h.2.2.1, hk.cell hD.2.2.2 h.2.2.2⟩
theorem Ix.keepC (X Y : Nat → Int) {w w' : World} {p n : Nat} (h : Ix X Y w p n) (hk : Kc w.heap.size w w') : Ix X Y w' p n := by
  obtain ⟨lt, m, es, clock, f, h0, hm, M, h1, h2⟩ := h
  refine ⟨Nat.lt_of_lt_of_le lt hk.1, m, es, clock, f, hk.cell lt h0, hk.2 m _ (Array.getElem?_eq_some_iff.1 hm).1 hm rfl, M, h1, fun a b hab => ?_⟩
  obtain ⟨A, c, e, q1, q2, q3⟩ := h2 a b hab
  refine ⟨A, c, e, q1, q2, fun h0 => ?_⟩
  obtain ⟨g, o, e', hg, hc⟩ := q3 h0
  exact ⟨g, o, e', Nat.lt_of_lt_of_le hg hk.1, fun j u hj => hk.cell hg (hc j u hj)⟩
/-- The slice that lies at a square. -/
theorem Ix.look (X Y : Nat → Int) {w : World} {p n : Nat} (h : Ix X Y w p n) {a b : Int} (ha : KI a) (hb : KI b) :
    ∃ m A c, w.cell? ⟨p, 0, none⟩ = some (.map (some m)) ∧ (Instr.lookup 54 (.map (some m)) (.agg #[.int .i64 a, .int .i64 b]) false).run Try.prog w = .ok (.slice A (grp X Y n a b).length c) w ∧
      (grp X Y n a b).length ≤ c ∧ c ≤ maxLen ∧ Es X Y w A (grp X Y n a b) := by
  obtain ⟨lt, m, es, clock, f, h0, hm, M, h1, h2⟩ := h
  have hl := mp_look hm M ha hb
  by_cases hq : grp X Y n a b = []
  · refine ⟨m, none, 0, h0, ?_, by rw [hq]; exact Nat.le_refl _, by simp [maxLen], fun h => by rw [hq] at h; simp at h⟩
    rw [h1 a b hq] at hl
    rw [hq]
    exact hl
  · obtain ⟨A, c, e, q1, q2, q3⟩ := h2 a b hq
    rw [e] at hl
    exact ⟨m, A, c, h0, hl, q1, q2, q3⟩
theorem Es.keepC (X Y : Nat → Int) {w w' : World} {A : Option Addr} {l : List Nat} (h : Es X Y w A l) (hk : Kc w.heap.size w w') : Es X Y w' A l := by
  intro h0
  obtain ⟨g, o, e', hg, hc⟩ := h h0
  exact ⟨g, o, e', Nat.lt_of_lt_of_le hg hk.1, fun j u hj => hk.cell hg (hc j u hj)⟩
/-- .. in a world behind. -/
theorem Ix.lookC (X Y : Nat → Int) {w w' : World} {p n : Nat} (h : Ix X Y w p n) (hk : Kc w.heap.size w w') {a b : Int} (ha : KI a) (hb : KI b) :
    ∃ m A c, w'.cell? ⟨p, 0, none⟩ = some (.map (some m)) ∧ (Instr.lookup 54 (.map (some m)) (.agg #[.int .i64 a, .int .i64 b]) false).run Try.prog w' = .ok (.slice A (grp X Y n a b).length c) w' ∧
      (grp X Y n a b).length ≤ c ∧ c ≤ maxLen ∧ Es X Y w A (grp X Y n a b) := by
  obtain ⟨lt, m, es, clock, f, h0, hm, M, h1, h2⟩ := h
  have hl := mp_look (hk.2 m _ (Array.getElem?_eq_some_iff.1 hm).1 hm rfl) M ha hb
  by_cases hq : grp X Y n a b = []
  · refine ⟨m, none, 0, hk.cell lt h0, ?_, by rw [hq]; exact Nat.le_refl _, by simp [maxLen], fun h => by rw [hq] at h; simp at h⟩
    rw [h1 a b hq] at hl
    rw [hq]
    exact hl
  · obtain ⟨A, c, e, q1, q2, q3⟩ := h2 a b hq
    rw [e] at hl
    exact ⟨m, A, c, hk.cell lt h0, hl, q1, q2, q3⟩
/-- Where the iterator stands. -/
structure Sg (D : Nat → Prop) (J : Nat × (Nat → Prop) → World → Prop) (w : World) (g6 g7 : Nat) (a0 b0 a1 b1 : Int) (q : Nat) (wr : World) : Prop where
  ck : Kd D w wr
  c0 : wr.cell? ⟨g6, 0, none⟩ = some (.int .i64 a0)
  c1 : wr.cell? ⟨g6, 1, none⟩ = some (.int .i64 b0)
  c2 : wr.cell? ⟨g7, 0, none⟩ = some (.int .i64 a1)
  c3 : wr.cell? ⟨g7, 1, none⟩ = some (.int .i64 b1)
  j : ∃ S, J (q, S) wr ∧ (∀ b, S b → ¬ D b) ∧ ¬ S g6 ∧ ¬ S g7
theorem Sg.grow {D : Nat → Prop} {J : Nat × (Nat → Prop) → World → Prop} {w : World} {g6 g7 : Nat} {a0 b0 a1 b1 : Int} {q : Nat} {wr u : World} (h : Sg D J w g6 g7 a0 b0 a1 b1 q wr) (hG : Grw J) (hb : Below wr.heap.size wr u) : Sg D J w g6 g7 a0 b0 a1 b1 q u := by
  obtain ⟨S, j1, j2⟩ := h.j
  exact ⟨h.ck.trans (Kd.below hb), kc hb h.c0, kc hb h.c1, kc hb h.c2, kc hb h.c3, S, hG _ _ _ j1 hb, j2⟩
/-- What within hands back. -/
def RetW (p : Nat) (x y r : Int) (w : World) (e : Ending) (w' : World) : Prop :=
  ∃ gx gr gy gn, e = .returned (.func (.func 37) #[] #[.pointer (some ⟨gx, 0, none⟩), .pointer (some ⟨gr, 0, none⟩), .pointer (some ⟨gy, 0, none⟩), .pointer (some ⟨gn, 0, none⟩)]) ∧ Wb w' gx gr gy gn p x y r ∧ Below w.heap.size w w' ∧ w.heap.size ≤ gx ∧ w.heap.size ≤ gr ∧ w.heap.size ≤ gy ∧ w.heap.size ≤ gn
set_option maxHeartbeats 400000 in
theorem within_any (p : Nat) (x y r : Int) (w : World) : Calls Try.prog 26 #[.pointer (some ⟨p, 0, none⟩), .int .i64 x, .int .i64 y, .int .i64 r] w (RetW p x y r w) := by
  go_enter Try.func26, Try.ntmps26
  go_wp2
  go_ret
  refine ⟨w.heap.size + 1, w.heap.size + 3, w.heap.size + 2, w.heap.size, rfl, ?_, (((below_box _).alloc (by simp) _).alloc (by simp; omega) _).alloc (by simp; omega) _, by omega, by omega, by omega, by omega⟩
  have q0 := (Kx.new w 26 #[.pointer (some ⟨p, 0, none⟩)])
  have q1 := (Kx.next q0.below 2 #[.int .i64 x])
  have q2 := (Kx.next q1.below 2 #[.int .i64 y])
  have q3 := (Kx.next q2.below 2 #[.int .i64 r])
  have e1 := (q1.alloc (.cells #[.int .i64 y] 2)).alloc (.cells #[.int .i64 r] 2)
  have e2 := q2.alloc (.cells #[.int .i64 r] 2)
  have e0 := ((q0.alloc (.cells #[.int .i64 x] 2)).alloc (.cells #[.int .i64 y] 2)).alloc (.cells #[.int .i64 r] 2)
  simp only [World.size_alloc] at e1 e2 q3
  exact ⟨e1.cell 0 rfl, q3.cell 0 rfl, e2.cell 0 rfl, e0.cell 0 rfl⟩

/-- A region is taken out of the translation by its number. -/
def findRegion (id : Nat) : Code → Option Code
  | .region k ops d => if k = id then some (.region k ops d) else none
  | .seq a b => match findRegion id a with
    | some c => some c
    | none => findRegion id b
  | .cond _ a b => match findRegion id a with
    | some c => some c
    | none => findRegion id b
  | .rangeFunc _ _ a b => match findRegion id a with
    | some c => some c
    | none => findRegion id b
  | .block _ c => findRegion id c
  | .loop c => findRegion id c
  | .scope c => findRegion id c
  | _ => none
end Go.Proofs.Ytkghjaodnkjmoaa
