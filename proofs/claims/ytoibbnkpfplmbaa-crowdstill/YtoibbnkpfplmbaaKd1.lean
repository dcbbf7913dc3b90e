/- Stage 10's ground: bytes that lie in memory, blocks of the call's own, rows of bytes that grow. -/
import Derived.Test.YtoibbnkpfplmbaaNum
import Derived.Deep.QuietTactic
import Derived.BigQuiet
import Derived.OwnWalk
import Derived.Laws.OwnMore
import Derived.Lib.LazyBuf
import Derived.RangeFuncBox
import Derived.RangeFuncNested
import Derived.Deep.RegionHeld3
namespace Go.Proofs.Ytoibbnkpfplmbaa
open Go.RowKit
set_option linter.unusedVariables false

theorem cell_new (w : World) (cs : Array Value) (t : TypeId) (i : Nat) : (w.alloc (.cells cs t)).cell? ⟨w.heap.size, i, none⟩ = cs[i]? := by simp
theorem kc {W w1 : World} {v : Value} {b i : Nat} (hb : Below W.heap.size W w1) (hc : W.cell? ⟨b, i, none⟩ = some v) : w1.cell? ⟨b, i, none⟩ = some v :=
  (hb.cell (p := ⟨b, i, none⟩) (World.block_lt_of_cell? W _ hc)).trans hc
theorem kf {W w1 : World} {v : Value} {b i : Nat} (hb : Below W.heap.size W w1) (hc : W.cell? ⟨b, i, none⟩ = some v) (hf : W.frozen? ⟨b, i, none⟩ = false) : w1.frozen? ⟨b, i, none⟩ = false :=
  (hb.frozen (p := ⟨b, i, none⟩) (World.block_lt_of_cell? W _ hc)).trans hf
theorem below_box {w : World} (o : Obj) : Below w.heap.size w (w.alloc o) := (Below.refl _ _).alloc (Nat.le_refl _) _

/-- The bytes p 0 .. p (n - 1) lie at A. -/
def Bs (w : World) (A : Option Addr) (n : Nat) (p : Nat → Nat) : Prop :=
  0 < n → ∃ g o, A = some ⟨g, o, none⟩ ∧ g < w.heap.size ∧ ∀ i, i < n → w.cell? ⟨g, o + i, none⟩ = some (.int .u8 (p i : Int))
theorem Bs.keep {w w' : World} {A : Option Addr} {n : Nat} {p : Nat → Nat} (h : Bs w A n p) (hb : Below w.heap.size w w') : Bs w' A n p := by
  intro hn
  obtain ⟨g, o, e, hg, hc⟩ := h hn
  exact ⟨g, o, e, Nat.lt_of_lt_of_le hg hb.size, fun i hi => (hb.cell (p := ⟨g, o + i, none⟩) hg).trans (hc i hi)⟩
theorem Bs.take {w : World} {A : Option Addr} {n m : Nat} {p : Nat → Nat} (h : Bs w A n p) (hm : m ≤ n) : Bs w A m p := by
  intro hn
  obtain ⟨g, o, e, hg, hc⟩ := h (by omega)
  exact ⟨g, o, e, hg, fun i hi => hc i (by omega)⟩
theorem Bs.congr {w : World} {A : Option Addr} {n : Nat} {p q : Nat → Nat} (h : Bs w A n p) (e : ∀ i, i < n → p i = q i) : Bs w A n q := by
  intro hn
  obtain ⟨g, o, e1, hg, hc⟩ := h hn
  exact ⟨g, o, e1, hg, fun i hi => by rw [← e i hi]; exact hc i hi⟩

/-- Block g of X holds these cells, and may be written; it is newer than w, and what is older than it is as it was. -/
structure Kx (w : World) (g : Nat) (X : World) (t : TypeId) (cs : Array Value) : Prop where
  ge : w.heap.size ≤ g
  blk : X.heap[g]? = some (.cells cs t (0, 0))
  below : Below w.heap.size w X
theorem Kx.lt {w X : World} {g : Nat} {t : TypeId} {cs : Array Value} (h : Kx w g X t cs) : g < X.heap.size := (Array.getElem?_eq_some_iff.1 h.blk).1
theorem Kx.cell {w X : World} {g : Nat} {t : TypeId} {cs : Array Value} (h : Kx w g X t cs) (i : Nat) {v : Value} (e : cs[i]? = some v) : X.cell? ⟨g, i, none⟩ = some v := by
  rw [cell_of_row X g i cs t (0, 0) h.blk, e]
theorem Kx.free {w X : World} {g : Nat} {t : TypeId} {cs : Array Value} (h : Kx w g X t cs) (i : Nat) : X.frozen? ⟨g, i, none⟩ = false := by simp [World.frozen?, h.blk]
theorem Kx.keep {w X Y : World} {g : Nat} {t : TypeId} {cs : Array Value} (h : Kx w g X t cs) (hb : Below X.heap.size X Y) : Kx w g Y t cs :=
  ⟨h.ge, (hb.block g h.lt).trans h.blk, h.below.trans (hb.mono h.below.size)⟩
theorem Kx.new (w : World) (t : TypeId) (cs : Array Value) : Kx w w.heap.size (w.alloc (.cells cs t)) t cs :=
  ⟨Nat.le_refl _, World.alloc_heap_new w _, below_box _⟩
theorem Kx.next {w X : World} (hb : Below w.heap.size w X) (t : TypeId) (cs : Array Value) : Kx w X.heap.size (X.alloc (.cells cs t)) t cs :=
  ⟨hb.size, World.alloc_heap_new X _, hb.alloc hb.size _⟩
theorem Kx.drew {w X : World} {g : Nat} {t : TypeId} {cs : Array Value} (h : Kx w g X t cs) : Kx w g X.drew t cs := ⟨h.ge, h.blk, h.below.drew⟩
theorem Kx.drewN {w X : World} {g : Nat} {t : TypeId} {cs : Array Value} (h : Kx w g X t cs) (k : Nat) : Kx w g (X.drewN k) t cs := ⟨h.ge, h.blk, ⟨h.below.os, h.below.tape, h.below.output, h.below.size, h.below.block⟩⟩
theorem Kx.alloc {w X : World} {g : Nat} {t : TypeId} {cs : Array Value} (h : Kx w g X t cs) (o : Obj) : Kx w g (X.alloc o) t cs := h.keep (below_box o)
theorem Kx.grown {w X Y : World} {g : Nat} {t : TypeId} {cs : Array Value} {row : Option Nat} (h : Kx w g X t cs) (hg : X.grownBy Y row) (hne : some g ≠ row) (hr : ∀ k, row = some k → w.heap.size ≤ k) : Kx w g Y t cs :=
  ⟨h.ge, (hg.block g h.lt hne).trans h.blk, h.below.grown hg h.below.size hr⟩
theorem setCell_blk {X : World} {g i : Nat} {t : TypeId} {cs : Array Value} (h : X.heap[g]? = some (.cells cs t (0, 0))) (v : Value) : (X.setCell ⟨g, i, none⟩ v).heap[g]? = some (.cells (cs.setIfInBounds i v) t (0, 0)) := by
  simp only [World.setCell, Array.getElem?_modify, h, Option.map_some, if_true]
  rfl
theorem Kx.set {w X : World} {g : Nat} {t : TypeId} {cs : Array Value} (h : Kx w g X t cs) (i : Nat) (v : Value) : Kx w g (X.setCell ⟨g, i, none⟩ v) t (cs.setIfInBounds i v) :=
  ⟨h.ge, setCell_blk h.blk v, h.below.setCell (p := ⟨g, i, none⟩) h.ge _⟩
/-- Another block of the call's own is written. -/
theorem Kx.far {w X : World} {g b : Nat} {t : TypeId} {cs : Array Value} (h : Kx w g X t cs) (hne : g ≠ b) (hb : w.heap.size ≤ b) (i : Nat) (v : Value) : Kx w g (X.setCell ⟨b, i, none⟩ v) t cs :=
  ⟨h.ge, (Below.heap_setCell _ _ _ _ hne).trans h.blk, h.below.setCell (p := ⟨b, i, none⟩) hb _⟩

theorem grownBy_below {w w' : World} (h : Below w.heap.size w w') (row : Option Nat) : w.grownBy w' row := ⟨h.os, h.tape, h.output, h.size, fun k hk _ => h.block k hk⟩
theorem below_grownBy {w w' : World} (h : w.grownBy w' none) : Below w.heap.size w w' := ⟨h.os, h.tape, h.output, h.size, fun k hk => h.block k hk (by simp)⟩

/-! ### Rows of bytes of the call's own -/
def bl (l : List Nat) : List Value := l.map fun b : Nat => Value.int .u8 (b : Int)
theorem bl_append (l m : List Nat) : bl (l ++ m) = bl l ++ bl m := by simp [bl]
theorem bl_length (l : List Nat) : (bl l).length = l.length := by simp [bl]
/-- v is a row of the call's own that holds these bytes. -/
def Rw (w : World) (base : Nat) (v : Value) (l : List Nat) : Prop := w.ownsRow base 5 1 v l.length (bl l)
theorem Rw.nil (w : World) (base : Nat) : Rw w base (.slice none 0 0) [] := World.ownsRow_nil _ _ _ _
/-- What became of a row, and of the rest: nothing older than w0 has turned but the row; the row is where it was, or newer than w0. -/
structure Ext (w0 : World) (v0 : Value) (w : World) (v : Value) : Prop where
  grown : w0.grownBy w v0.ownBlock
  row : v.ownBlock = v0.ownBlock ∨ ∀ k, v.ownBlock = some k → w0.heap.size ≤ k
theorem Ext.refl (w : World) (v : Value) : Ext w v w v := ⟨⟨rfl, rfl, rfl, Nat.le_refl _, fun _ _ _ => rfl⟩, .inl rfl⟩
theorem Ext.trans {w0 w1 w2 : World} {v0 v1 v2 : Value} (h : Ext w0 v0 w1 v1) (k : Ext w1 v1 w2 v2) : Ext w0 v0 w2 v2 := by
  have hs := h.grown.size
  refine ⟨⟨k.grown.os.trans h.grown.os, k.grown.tape.trans h.grown.tape, k.grown.output.trans h.grown.output, Nat.le_trans hs k.grown.size, fun b hb hne => ?_⟩, ?_⟩
  · refine (k.grown.block b (Nat.lt_of_lt_of_le hb hs) ?_).trans (h.grown.block b hb hne)
    rcases h.row with e | e
    · rw [e]; exact hne
    · intro e2
      have := e b e2.symm
      omega
  · rcases k.row with e | e
    · rw [e]; exact h.row
    · exact .inr fun b hb => Nat.le_trans hs (e b hb)
theorem Ext.step {w0 w1 w2 : World} {v0 v1 : Value} (h : Ext w0 v0 w1 v1) (hb : Below w1.heap.size w1 w2) : Ext w0 v0 w2 v1 :=
  h.trans ⟨grownBy_below hb _, .inl rfl⟩
theorem Ext.size {w0 w1 : World} {v0 v1 : Value} (h : Ext w0 v0 w1 v1) : w0.heap.size ≤ w1.heap.size := h.grown.size
theorem Ext.below {w0 w1 : World} {v0 v1 : Value} (h : Ext w0 v0 w1 v1) (hn : v0.ownBlock = none) : Below w0.heap.size w0 w1 := below_grownBy (by rw [← hn]; exact h.grown)
theorem Ext.belowB {w0 w1 : World} {v0 v1 : Value} {B : Nat} (h : Ext w0 v0 w1 v1) (hB : B ≤ w0.heap.size) (hv : ∀ k, v0.ownBlock = some k → B ≤ k) : Below B w0 w1 :=
  (Below.refl B w0).grown h.grown hB hv
theorem Rw.keep {w w' : World} {base : Nat} {v : Value} {l : List Nat} (h : Rw w base v l) (hb : Below w.heap.size w w') : Rw w' base v l :=
  World.ownsRow.kept h (grownBy_below hb none) (by cases v.ownBlock <;> simp)
theorem Rw.lt {w : World} {base : Nat} {v : Value} {l : List Nat} (h : Rw w base v l) : ∀ k, v.ownBlock = some k → base ≤ k ∧ k < w.heap.size := World.ownsRow.lt h
/-- A block of another type is not the row. -/
theorem blk_not_row {X : World} {g : Nat} {t e : TypeId} {cs : Array Value} (h : X.heap[g]? = some (.cells cs t (0, 0))) (hte : t ≠ e) {base size k : Nat} {v : Value} {xs : List Value} (hr : X.ownsRow base e size v k xs) : some g ≠ v.ownBlock := by
  intro he
  rcases hr.2 with ⟨rfl, _⟩ | ⟨b, cap, cur, rfl, hb, hg, _⟩
  · simp [Value.ownBlock] at he
  · simp [Value.ownBlock] at he
    subst he
    rw [h] at hg
    injection hg with hg
    injection hg with _ h2
    exact hte h2
theorem Kx.ext {w X Y : World} {g base : Nat} {t : TypeId} {cs : Array Value} {v v' : Value} {l : List Nat} (h : Kx w g X t cs) (hte : t ≠ 5) (hr : Rw X base v l) (he : Ext X v Y v') (hbs : ∀ k, v.ownBlock = some k → w.heap.size ≤ k) : Kx w g Y t cs :=
  h.grown he.grown (blk_not_row h.blk hte hr) hbs
/-- Only the block itself, where older memory may turn. -/
theorem blk_ext {X Y : World} {g base : Nat} {t : TypeId} {cs : Array Value} {v v' : Value} {l : List Nat} (h : X.heap[g]? = some (.cells cs t (0, 0))) (hte : t ≠ 5) (hr : Rw X base v l) (he : Ext X v Y v') : Y.heap[g]? = some (.cells cs t (0, 0)) :=
  (he.grown.block g (Array.getElem?_eq_some_iff.1 h).1 (blk_not_row h hte hr)).trans h

/-- Where the row lies behind an append: where it lay, or in a new block. -/
theorem append_where {P : Program} (w : World) (base : Nat) (t ty e : TypeId) (i : TypeInfo) (z : Value) (size bytes : Nat) (ht : P.underlying t = some (.slice e)) (hi : P.info? e = some i) (hz : i.zero = some z)
    (hsize : i.size = size) (hby : i.bytes = bytes) (hzs : z.cells.size = size) (hsz : 0 < size)
    (v : Value) (n : Nat) (xs : List Value) (hown : w.ownsRow base e size v n xs)
    (a : Addr) (m c : Nat) (news : List Value) (hl : news.length = m * size) (hnews : ∀ j u, news[j]? = some u → w.cell? (a.add j) = some u) (h1 : ∀ u ∈ news, u.oneCell' = true) (h0 : 0 < m)
    (h63 : n + m ≤ maxLen) (hbytes : (n + m) * bytes ≤ 140737488355328) (hbase : base ≤ w.heap.size) :
    ∃ v' w', (Builtin.append_ #[t, t] ty #[v, .slice (some a) m c]).run P w = .ok v' w' ∧ w'.ownsRow base e size v' (n + m) (xs ++ news) ∧ w.grownBy w' v.ownBlock ∧ (v'.ownBlock = v.ownBlock ∨ v'.ownBlock = some w.heap.size) := by
  obtain ⟨v', w', hr, h2, h3, -⟩ := run_append_own (P := P) w base t ty e i z size bytes ht hi hz hsize hby hzs hsz v n xs hown a m c news hl hnews h1 h63 hbytes hbase
  refine ⟨v', w', hr, h2, h3, ?_⟩
  have hsmall : n + m ≤ 9223372036854775807 := by simp only [maxLen] at h63; omega
  have hval : ∀ u x, (Builtin.append_ #[t, t] ty #[v, .slice (some a) m c]).run P w = .ok u x → v' = u := by
    intro u x hx
    rw [hr] at hx
    injection hx
  subst hsize hby
  rcases hown.2 with ⟨rfl, rfl⟩ | ⟨g, cap, cur, rfl, hbg, hg, hnc, hcm, hcs, htake⟩
  · right
    have := run_append_nil (P := P) w t ty e i z ht hi hz a m c news hl hnews h0 (by omega) (by rw [Nat.zero_add] at hbytes; omega)
    rw [hval _ _ this]
    rfl
  · by_cases hroom : n + m ≤ cap
    · left
      have hfit : n * i.size + news.length ≤ cur.size := by rw [hl, hcs, ← Nat.add_mul]; exact Nat.mul_le_mul_right _ hroom
      rw [hval _ _ (run_append_room (P := P) w t ty e i ht hi g n cap cur hg a m c news hl hnews h1 hroom hfit)]
      rfl
    · right
      rw [hval _ _ (run_append_grow (P := P) w t ty e i z ht hi hz ⟨g, 0, none⟩ n cap xs hown.1 (hown.cells (g := g) rfl) a m c news hl hnews (by omega) (by omega) (growslice_fits (by omega) hbytes))]
      rfl

theorem Try.infoB : (Try.prog.info? 5).map (fun i => (i.zero, i.size, i.bytes)) = some (some (.int .u8 0), 1, 1) := by kernel_rfl
/-- The row's bytes, as they lie. -/
theorem Rw.bs {w : World} {base : Nat} {v : Value} {l : List Nat} (h : Rw w base v l) : ∃ A k, v = .slice A l.length k ∧ l.length ≤ k ∧ k ≤ maxLen ∧ Bs w A l.length (fun i => l.getD i 0) := by
  rcases h.2 with ⟨rfl, hn⟩ | ⟨g, cap, cur, rfl, hg, hh, hnc, hcm, _, _⟩
  · rw [hn]
    exact ⟨none, 0, rfl, Nat.le_refl _, by simp [maxLen], fun h0 => by omega⟩
  · refine ⟨_, cap, rfl, hnc, hcm, fun h0 => ⟨g, 0, rfl, ?_, fun i hi => ?_⟩⟩
    · rcases Nat.lt_or_ge g w.heap.size with hlt | hge
      · exact hlt
      · rw [Array.getElem?_eq_none hge] at hh; cases hh
    · have := World.ownsRow.cellAt h i (by omega)
      rw [Nat.zero_add, this]
      simp [bl, List.getD, hi]
/-- A row that holds something is written out, and may be written. -/
theorem Rw.some {w : World} {base : Nat} {v : Value} {l : List Nat} (h : Rw w base v l) (h0 : 0 < l.length) : ∃ g k, v = .slice (some ⟨g, 0, none⟩) l.length k ∧ l.length ≤ k ∧ k ≤ maxLen ∧ base ≤ g ∧ g < w.heap.size ∧ (∀ i, i < l.length → w.cell? ⟨g, i, none⟩ = some (.int .u8 (l.getD i 0 : Nat))) ∧ ∀ i, w.frozen? ⟨g, i, none⟩ = false := by
  rcases h.2 with ⟨rfl, hn⟩ | ⟨g, cap, cur, rfl, hg, hh, hnc, hcm, _, _⟩
  · omega
  · refine ⟨g, cap, rfl, hnc, hcm, hg, ?_, fun i hi => ?_, fun i => by simp [World.frozen?, hh]⟩
    · rcases Nat.lt_or_ge g w.heap.size with hlt | hge
      · exact hlt
      · rw [Array.getElem?_eq_none hge] at hh; cases hh
    · have := World.ownsRow.cellAt h i (by omega)
      rw [this]
      simp [bl, List.getD, hi]
/-- A function that adds bytes to a row. -/
def RetX (base : Nat) (v : Value) (l : List Nat) (w : World) (e : Ending) (w' : World) : Prop := ∃ v', e = .returned v' ∧ Rw w' base v' l ∧ Ext w v w' v'
end Go.Proofs.Ytoibbnkpfplmbaa
