/- Stage 13's ground: blocks and rows of the call's own; lands in memory; valid, May, open, is. -/
import Derived.Test.YtcipedijjemghaaDoorGr6
import Derived.Test.YtcipedijjemghaaDoorRtMath
import Derived.Deep.RegionHeld3
import Derived.OwnWalk
import Derived.Laws.OwnMore
namespace Go.Proofs.YtcipedijjemghaaDoor
open Go.RowKit
set_option linter.unusedVariables false

theorem newBox {w : World} (o : Obj) : Below w.heap.size w (w.alloc o) := (Below.refl _ _).alloc (Nat.le_refl _) _
theorem below_grownN {w w' : World} (h : w.grownBy w' none) : Below w.heap.size w w' := ⟨h.os, h.tape, h.output, h.size, fun k hk => h.block k hk (by simp)⟩

/-- Block g of X holds these cells, and may be written; it is newer than w, and what is older than it is as it was. -/
structure Kx (w : World) (g : Nat) (X : World) (t : TypeId) (cs : Array Value) : Prop where
  ge : w.heap.size ≤ g
  blk : X.heap[g]? = some (.cells cs t (0, 0))
  below : Below w.heap.size w X
theorem Kx.lt {w X : World} {g : Nat} {t : TypeId} {cs : Array Value} (h : Kx w g X t cs) : g < X.heap.size := (Array.getElem?_eq_some_iff.1 h.blk).1
theorem Kx.cell {w X : World} {g : Nat} {t : TypeId} {cs : Array Value} (h : Kx w g X t cs) (i : Nat) {v : Value} (e : cs[i]? = some v) : X.cell? ⟨g, i, none⟩ = some v := by
  rw [cell_of_row X g i cs t (0, 0) h.blk, e]
theorem Kx.free {w X : World} {g : Nat} {t : TypeId} {cs : Array Value} (h : Kx w g X t cs) (i : Nat) : X.frozen? ⟨g, i, none⟩ = false := by simp [World.frozen?, h.blk]
theorem Kx.keep {w X Y : World} {g : Nat} {t : TypeId} {cs : Array Value} (h : Kx w g X t cs) (hb : Below X.heap.size X Y) : Kx w g Y t cs :=
  ⟨h.ge, (hb.block g h.lt).trans h.blk, h.below.trans (hb.mono h.below.size)⟩
theorem Kx.new (w : World) (t : TypeId) (cs : Array Value) : Kx w w.heap.size (w.alloc (.cells cs t)) t cs :=
  ⟨Nat.le_refl _, World.alloc_heap_new w _, newBox _⟩
theorem Kx.next {w X : World} (hb : Below w.heap.size w X) (t : TypeId) (cs : Array Value) : Kx w X.heap.size (X.alloc (.cells cs t)) t cs :=
  ⟨hb.size, World.alloc_heap_new X _, hb.alloc hb.size _⟩
theorem Kx.drew {w X : World} {g : Nat} {t : TypeId} {cs : Array Value} (h : Kx w g X t cs) : Kx w g X.drew t cs := ⟨h.ge, h.blk, h.below.drew⟩
theorem Kx.drewN {w X : World} {g : Nat} {t : TypeId} {cs : Array Value} (h : Kx w g X t cs) (k : Nat) : Kx w g (X.drewN k) t cs := ⟨h.ge, h.blk, ⟨h.below.os, h.below.tape, h.below.output, h.below.size, h.below.block⟩⟩
theorem Kx.alloc {w X : World} {g : Nat} {t : TypeId} {cs : Array Value} (h : Kx w g X t cs) (o : Obj) : Kx w g (X.alloc o) t cs := h.keep (newBox o)
theorem Kx.grown {w X Y : World} {g : Nat} {t : TypeId} {cs : Array Value} {row : Option Nat} (h : Kx w g X t cs) (hg : X.grownBy Y row) (hne : some g ≠ row) (hr : ∀ k, row = some k → w.heap.size ≤ k) : Kx w g Y t cs :=
  ⟨h.ge, (hg.block g h.lt hne).trans h.blk, h.below.grown hg h.below.size hr⟩
theorem setCell_blk {X : World} {g i : Nat} {t : TypeId} {cs : Array Value} (h : X.heap[g]? = some (.cells cs t (0, 0))) (v : Value) : (X.setCell ⟨g, i, none⟩ v).heap[g]? = some (.cells (cs.setIfInBounds i v) t (0, 0)) := by
  simp only [World.setCell, Array.getElem?_modify, h, Option.map_some, if_true]
  rfl
theorem Kx.set {w X : World} {g : Nat} {t : TypeId} {cs : Array Value} (h : Kx w g X t cs) (i : Nat) (v : Value) : Kx w g (X.setCell ⟨g, i, none⟩ v) t (cs.setIfInBounds i v) :=
  ⟨h.ge, setCell_blk h.blk v, h.below.setCell (p := ⟨g, i, none⟩) h.ge _⟩
/-- Another block of the call's own is written. -/
theorem Kx.far {w X : World} {g b : Nat} {t : TypeId} {cs : Array Value} (h : Kx w g X t cs) (hne : g ≠ b) (hb : w.heap.size ≤ b) (i : Nat) (v : Value) : Kx w g (X.setCell ⟨b, i, none⟩ v) t cs :=
  ⟨h.ge, (Below.heap_setCell _ _ _ _ hne).trans h.blk, h.below.setCell (p := ⟨b, i, none⟩) hb _⟩


/-- What became of a row, and of the rest: nothing older than w0 has turned but the row; the row is where it was, or newer than w0. -/
structure Ext (w0 : World) (v0 : Value) (w : World) (v : Value) : Prop where
  grown : w0.grownBy w v0.ownBlock
  row : v.ownBlock = v0.ownBlock ∨ ∀ k, v.ownBlock = some k → w0.heap.size ≤ k
theorem Ext.refl (w : World) (v : Value) : Ext w v w v := ⟨⟨rfl, rfl, rfl, Nat.le_refl _, fun _ _ _ => rfl⟩, .inl rfl⟩
theorem Ext.trans {w0 w1 w2 : World} {v0 v1 v2 : Value} (h : Ext w0 v0 w1 v1) (k : Ext w1 v1 w2 v2) : Ext w0 v0 w2 v2 := by
  have hs := h.grown.size
  refine ⟨⟨k.grown.os.trans h.grown.os, k.grown.tape.trans h.grown.tape, k.grown.output.trans h.grown.output, Nat.le_trans hs k.grown.size, fun b hb hne => ?_⟩, ?_⟩
  · refine (k.grown.block b (Nat.lt_of_lt_of_le hb hs) ?_).trans (h.grown.block b hb hne)
    rcases h.row with e | e
    · rw [e]; exact hne
    · intro e2
      have := e b e2.symm
      omega
  · rcases k.row with e | e
    · rw [e]; exact h.row
    · exact .inr fun b hb => Nat.le_trans hs (e b hb)
theorem Ext.step {w0 w1 w2 : World} {v0 v1 : Value} (h : Ext w0 v0 w1 v1) (hb : Below w1.heap.size w1 w2) : Ext w0 v0 w2 v1 :=
  h.trans ⟨below_grownBy hb, .inl rfl⟩
theorem Ext.size {w0 w1 : World} {v0 v1 : Value} (h : Ext w0 v0 w1 v1) : w0.heap.size ≤ w1.heap.size := h.grown.size
theorem Ext.below {w0 w1 : World} {v0 v1 : Value} (h : Ext w0 v0 w1 v1) (hn : v0.ownBlock = none) : Below w0.heap.size w0 w1 := below_grownN (by rw [← hn]; exact h.grown)
theorem Ext.belowB {w0 w1 : World} {v0 v1 : Value} {B : Nat} (h : Ext w0 v0 w1 v1) (hB : B ≤ w0.heap.size) (hv : ∀ k, v0.ownBlock = some k → B ≤ k) : Below B w0 w1 :=
  (Below.refl B w0).grown h.grown hB hv

/-- A block of another type is not the row. -/
theorem blk_not_row {X : World} {g : Nat} {t e : TypeId} {cs : Array Value} (h : X.heap[g]? = some (.cells cs t (0, 0))) (hte : t ≠ e) {base size k : Nat} {v : Value} {xs : List Value} (hr : X.ownsRow base e size v k xs) : some g ≠ v.ownBlock := by
  intro he
  rcases hr.2 with ⟨rfl, _⟩ | ⟨b, cap, cur, rfl, hb, hg, _⟩
  · simp [Value.ownBlock] at he
  · simp [Value.ownBlock] at he
    subst he
    rw [h] at hg
    injection hg with hg
    injection hg with _ h2
    exact hte h2

/-- Where the row lies behind an append: where it lay, or in a new block. -/
theorem append_where {P : Program} (w : World) (base : Nat) (t ty e : TypeId) (i : TypeInfo) (z : Value) (size bytes : Nat) (ht : P.underlying t = some (.slice e)) (hi : P.info? e = some i) (hz : i.zero = some z)
    (hsize : i.size = size) (hby : i.bytes = bytes) (hzs : z.cells.size = size) (hsz : 0 < size)
    (v : Value) (n : Nat) (xs : List Value) (hown : w.ownsRow base e size v n xs)
    (a : Addr) (m c : Nat) (news : List Value) (hl : news.length = m * size) (hnews : ∀ j u, news[j]? = some u → w.cell? (a.add j) = some u) (h1 : ∀ u ∈ news, u.oneCell' = true) (h0 : 0 < m)
    (h63 : n + m ≤ maxLen) (hbytes : (n + m) * bytes ≤ 140737488355328) (hbase : base ≤ w.heap.size) :
    ∃ v' w', (Builtin.append_ #[t, t] ty #[v, .slice (some a) m c]).run P w = .ok v' w' ∧ w'.ownsRow base e size v' (n + m) (xs ++ news) ∧ w.grownBy w' v.ownBlock ∧ (v'.ownBlock = v.ownBlock ∨ v'.ownBlock = some w.heap.size) := by
  obtain ⟨v', w', hr, h2, h3, -⟩ := run_append_own (P := P) w base t ty e i z size bytes ht hi hz hsize hby hzs hsz v n xs hown a m c news hl hnews h1 h63 hbytes hbase
  refine ⟨v', w', hr, h2, h3, ?_⟩
  have hsmall : n + m ≤ 9223372036854775807 := by simp only [maxLen] at h63; omega
  have hval : ∀ u x, (Builtin.append_ #[t, t] ty #[v, .slice (some a) m c]).run P w = .ok u x → v' = u := by
    intro u x hx
    rw [hr] at hx
    injection hx
  subst hsize hby
  rcases hown.2 with ⟨rfl, rfl⟩ | ⟨g, cap, cur, rfl, hbg, hg, hnc, hcm, hcs, htake⟩
  · right
    have := run_append_nil (P := P) w t ty e i z ht hi hz a m c news hl hnews h0 (by omega) (by rw [Nat.zero_add] at hbytes; omega)
    rw [hval _ _ this]
    rfl
  · by_cases hroom : n + m ≤ cap
    · left
      have hfit : n * i.size + news.length ≤ cur.size := by rw [hl, hcs, ← Nat.add_mul]; exact Nat.mul_le_mul_right _ hroom
      rw [hval _ _ (run_append_room (P := P) w t ty e i ht hi g n cap cur hg a m c news hl hnews h1 hroom hfit)]
      rfl
    · right
      rw [hval _ _ (run_append_grow (P := P) w t ty e i z ht hi hz ⟨g, 0, none⟩ n cap xs hown.1 (hown.cells (g := g) rfl) a m c news hl hnews (by omega) (by omega) (growslice_fits (by omega) hbytes))]
      rfl



/-- n answers lie at A. -/
def Bo (w : World) (A : Option Addr) (n : Nat) (O : Nat → Bool) : Prop :=
  0 < n → ∃ g o, A = some ⟨g, o, none⟩ ∧ g < w.heap.size ∧ ∀ i, i < n → w.cell? ⟨g, o + i, none⟩ = some (.bool (O i))
theorem Bo.keep {w w' : World} {A : Option Addr} {n : Nat} {O : Nat → Bool} (h : Bo w A n O) (hb : Below w.heap.size w w') : Bo w' A n O := by
  intro hn
  obtain ⟨g, o, e, hg, hc⟩ := h hn
  exact ⟨g, o, e, Nat.lt_of_lt_of_le hg hb.size, fun i hi => (hb.cell (p := ⟨g, o + i, none⟩) hg).trans (hc i hi)⟩
theorem Bo.take {w : World} {A : Option Addr} {n m : Nat} {O : Nat → Bool} (h : Bo w A n O) (hm : m ≤ n) : Bo w A m O := by
  intro hn
  obtain ⟨g, o, e, hg, hc⟩ := h (by omega)
  exact ⟨g, o, e, hg, fun i hi => hc i (by omega)⟩
theorem Bo.lt {w : World} {A : Option Addr} {n : Nat} {O : Nat → Bool} (h : Bo w A n O) (hn : 0 < n) : ∃ g o, A = some ⟨g, o, none⟩ ∧ g < w.heap.size := by
  obtain ⟨g, o, e, hg, _⟩ := h hn
  exact ⟨g, o, e, hg⟩
/-- A land that may be. -/
structure Lnd (W H : Int) (n : Nat) : Prop where
  w1 : 1 ≤ W
  w2 : W ≤ 64
  h1 : 1 ≤ H
  h2 : H ≤ 64
  sz : (n : Int) = W * H
theorem lnd_iff {W H : Int} {n : Nat} : Lnd W H n ↔ 1 ≤ W ∧ W ≤ 64 ∧ 1 ≤ H ∧ H ≤ 64 ∧ (n : Int) = W * H := ⟨fun h => ⟨h.1, h.2, h.3, h.4, h.5⟩, fun ⟨a, b, c, d, e⟩ => ⟨a, b, c, d, e⟩⟩
def lnB (W H : Int) (n : Nat) : Bool := decide (1 ≤ W ∧ W ≤ 64 ∧ 1 ≤ H ∧ H ≤ 64 ∧ (n : Int) = W * H)
theorem lnB_yes {W H : Int} {n : Nat} : lnB W H n = true ↔ Lnd W H n := by rw [lnd_iff]; simp [lnB]
theorem lnB_no {W H : Int} {n : Nat} : lnB W H n = false ↔ ¬ Lnd W H n := by rw [← lnB_yes]; simp
theorem area13 {W H : Int} (a : 1 ≤ W) (b : W ≤ 64) (c : 1 ≤ H) (d : H ≤ 64) : 1 ≤ W * H ∧ W * H ≤ 4096 := by
  have h1 := Int.mul_le_mul (a := 1) (b := 1) (c := W) (d := H) a c (by omega) (by omega)
  have h2 := Int.mul_le_mul (a := W) (b := H) (c := 64) (d := 64) b d (by omega) (by omega)
  omega
theorem Lnd.bd {W H : Int} {n : Nat} (h : Lnd W H n) : 1 ≤ n ∧ n ≤ 4096 := by
  have := area13 h.w1 h.w2 h.h1 h.h2
  have := h.sz
  omega


set_option maxHeartbeats 1000000 in
theorem valid13_any (W H : Int) (A : Option Addr) (n c : Nat) (w : World) (hn : n ≤ maxLen) :
    Calls Tryd.prog 38 #[.agg #[.int .i64 W, .int .i64 H, .slice A n c]] w (Ret (.bool (lnB W H n)) w) := by
  unfold maxLen at hn
  have HB := Lib.hid (newBox (w := w) (.cells #[.int .i64 W, .int .i64 H, .slice A n c] 24))
  have HX := Lib.hid (Kx.new w 24 #[.int .i64 W, .int .i64 H, .slice A n c])
  have c0 := HX.out.cell 0 rfl
  have c1 := HX.out.cell 1 rfl
  have c2 := HX.out.cell 2 rfl
  go_enter Tryd.func38, Tryd.ntmps38
  by_cases h0 : 1 ≤ W
  · have g0 : decide (1 ≤ W) = true := decide_eq_true h0
    by_cases h1 : W ≤ 64
    · have g1 : decide (W ≤ 64) = true := decide_eq_true h1
      by_cases h2 : 1 ≤ H
      · have g2 : decide (1 ≤ H) = true := decide_eq_true h2
        by_cases h3 : H ≤ 64
        · have g3 : decide (H ≤ 64) = true := decide_eq_true h3
          have e1 := (area13 h0 h1 h2 h3).1
          have e2 := (area13 h0 h1 h2 h3).2
          have hw : wrap64 (W * H) = W * H := IntWalk.wrap64_in _ (by omega)
          by_cases h4 : (n : Int) = W * H
          · have g4 : ((n : Int) == W * H) = true := by simp [h4]
            have HE : Hid (lnB W H n = true) := by show _ = _; exact decide_eq_true ⟨h0, h1, h2, h3, h4⟩
            clear h4
            go_wp2
            go_ret
            exact Ret.mk (congrArg Value.bool HE.out.symm) HB.out
          · have g4 : ((n : Int) == W * H) = false := by simp [h4]
            have HE : Hid (lnB W H n = false) := by show _ = _; exact decide_eq_false fun e => h4 e.2.2.2.2
            clear h4
            go_wp2
            go_ret
            exact Ret.mk (congrArg Value.bool HE.out.symm) HB.out
        · have g3 : decide (H ≤ 64) = false := decide_eq_false h3
          have HE : Hid (lnB W H n = false) := by show _ = _; exact decide_eq_false fun e => h3 e.2.2.2.1
          go_wp2
          go_ret
          exact Ret.mk (congrArg Value.bool HE.out.symm) HB.out
      · have g2 : decide (1 ≤ H) = false := decide_eq_false h2
        have HE : Hid (lnB W H n = false) := by show _ = _; exact decide_eq_false fun e => h2 e.2.2.1
        go_wp2
        go_ret
        exact Ret.mk (congrArg Value.bool HE.out.symm) HB.out
    · have g1 : decide (W ≤ 64) = false := decide_eq_false h1
      have HE : Hid (lnB W H n = false) := by show _ = _; exact decide_eq_false fun e => h1 e.2.1
      go_wp2
      go_ret
      exact Ret.mk (congrArg Value.bool HE.out.symm) HB.out
  · have g0 : decide (1 ≤ W) = false := decide_eq_false h0
    have HE : Hid (lnB W H n = false) := by show _ = _; exact decide_eq_false fun e => h0 e.1
    go_wp2
    go_ret
    exact Ret.mk (congrArg Value.bool HE.out.symm) HB.out

set_option maxHeartbeats 1000000 in
theorem may13_any (W H : Int) (A : Option Addr) (n c : Nat) (w : World) (hn : n ≤ maxLen) :
    Calls Tryd.prog 11 #[.agg #[.int .i64 W, .int .i64 H, .slice A n c]] w (Ret (.bool (lnB W H n)) w) := by
  unfold maxLen at hn
  have HB := Lib.hid (newBox (w := w) (.cells #[.int .i64 W, .int .i64 H, .slice A n c] 24))
  have HX := Lib.hid (Kx.new w 24 #[.int .i64 W, .int .i64 H, .slice A n c])
  have c0 := HX.out.cell 0 rfl
  have c1 := HX.out.cell 1 rfl
  have c2 := HX.out.cell 2 rfl
  go_enter Tryd.func11, Tryd.ntmps11
  by_cases h0 : 1 ≤ W
  · have g0 : decide (1 ≤ W) = true := decide_eq_true h0
    by_cases h1 : W ≤ 64
    · have g1 : decide (W ≤ 64) = true := decide_eq_true h1
      by_cases h2 : 1 ≤ H
      · have g2 : decide (1 ≤ H) = true := decide_eq_true h2
        by_cases h3 : H ≤ 64
        · have g3 : decide (H ≤ 64) = true := decide_eq_true h3
          have e1 := (area13 h0 h1 h2 h3).1
          have e2 := (area13 h0 h1 h2 h3).2
          have hw : wrap64 (W * H) = W * H := IntWalk.wrap64_in _ (by omega)
          by_cases h4 : (n : Int) = W * H
          · have g4 : ((n : Int) == W * H) = true := by simp [h4]
            have HE : Hid (lnB W H n = true) := by show _ = _; exact decide_eq_true ⟨h0, h1, h2, h3, h4⟩
            clear h4
            go_wp2
            go_ret
            exact Ret.mk (congrArg Value.bool HE.out.symm) HB.out
          · have g4 : ((n : Int) == W * H) = false := by simp [h4]
            have HE : Hid (lnB W H n = false) := by show _ = _; exact decide_eq_false fun e => h4 e.2.2.2.2
            clear h4
            go_wp2
            go_ret
            exact Ret.mk (congrArg Value.bool HE.out.symm) HB.out
        · have g3 : decide (H ≤ 64) = false := decide_eq_false h3
          have HE : Hid (lnB W H n = false) := by show _ = _; exact decide_eq_false fun e => h3 e.2.2.2.1
          go_wp2
          go_ret
          exact Ret.mk (congrArg Value.bool HE.out.symm) HB.out
      · have g2 : decide (1 ≤ H) = false := decide_eq_false h2
        have HE : Hid (lnB W H n = false) := by show _ = _; exact decide_eq_false fun e => h2 e.2.2.1
        go_wp2
        go_ret
        exact Ret.mk (congrArg Value.bool HE.out.symm) HB.out
    · have g1 : decide (W ≤ 64) = false := decide_eq_false h1
      have HE : Hid (lnB W H n = false) := by show _ = _; exact decide_eq_false fun e => h1 e.2.1
      go_wp2
      go_ret
      exact Ret.mk (congrArg Value.bool HE.out.symm) HB.out
  · have g0 : decide (1 ≤ W) = false := decide_eq_false h0
    have HE : Hid (lnB W H n = false) := by show _ = _; exact decide_eq_false fun e => h0 e.1
    go_wp2
    go_ret
    exact Ret.mk (congrArg Value.bool HE.out.symm) HB.out

set_option maxHeartbeats 1000000 in
theorem open13_any (W H : Int) (O : Nat → Bool) (i j : Int) (A : Option Addr) (n c : Nat) (w W0 : World) (hL : Lnd W H n) (hO : Bo W0 A n O) (hb : Below W0.heap.size W0 w) (hi : -2 ≤ i ∧ i ≤ 65) (hj : -2 ≤ j ∧ j ≤ 65) :
    Calls Tryd.prog 53 #[.agg #[.int .i64 W, .int .i64 H, .slice A n c], .int .i64 i, .int .i64 j] w (Ret (.bool (opL W H O i j)) w) := by
  have HB := Lib.hid (newBox (w := w) (.cells #[.int .i64 W, .int .i64 H, .slice A n c] 24))
  have HX := Lib.hid (Kx.new w 24 #[.int .i64 W, .int .i64 H, .slice A n c])
  have c0 := HX.out.cell 0 rfl
  have c1 := HX.out.cell 1 rfl
  have c2 := HX.out.cell 2 rfl
  obtain ⟨l1, l2, l3, l4, l5⟩ := hL
  have ha := area13 l1 l2 l3 l4
  go_enter Tryd.func53, Tryd.ntmps53
  by_cases ha_ : 0 ≤ i
  · have ga : decide (0 ≤ i) = true := decide_eq_true ha_
    by_cases hb_ : i < W
    · have gb : decide (i < W) = true := decide_eq_true hb_
      by_cases hc_ : 0 ≤ j
      · have gc : decide (0 ≤ j) = true := decide_eq_true hc_
        by_cases hd_ : j < H
        · have gd : decide (j < H) = true := decide_eq_true hd_
          obtain ⟨r0, r1⟩ := cell_rng (H := H) ha_ hb_ hc_ hd_
          obtain ⟨g, o, rfl, hg, hc⟩ := hO (by omega)
          have HC := (newBox (w := w) (.cells #[.int .i64 W, .int .i64 H, .slice (some ⟨g, o, none⟩) n c] 24)).cell (p := ⟨g, o + (W * j + i).toNat, none⟩) (Nat.lt_of_lt_of_le hg hb.size)
          rw [hb.cell (p := ⟨g, o + (W * j + i).toNat, none⟩) hg, hc (W * j + i).toNat (by omega)] at HC
          have HE : Hid (opL W H O i j = O (W * j + i).toNat) := by show _ = _; simp [opL, ha_, hb_, hc_, hd_]
          have mu := Int.mul_le_mul (a := W) (b := j) (c := 64) (d := 64) l2 (by omega) hc_ (by omega)
          have mv := Int.mul_nonneg (show 0 ≤ W by omega) hc_
          have hw : wrap64 (W * j) = W * j := IntWalk.wrap64_in _ (by omega)
          have hw2 : wrap64 (W * j + i) = W * j + i := IntWalk.wrap64_in _ (by omega)
          have r2 : W * j + i < (n : Int) := by omega
          generalize O (W * j + i).toNat = v at *
          clear hc r1 ha mu mv
          go_wp2
          go_ret
          exact Ret.mk (congrArg Value.bool HE.out.symm) HB.out
        · have gd : decide (j < H) = false := decide_eq_false hd_
          have HE : Hid (opL W H O i j = false) := by show _ = _; unfold opL; rw [Bool.and_eq_false_iff]; exact .inl (decide_eq_false fun e => hd_ e.2.2.2)
          go_wp2
          go_ret
          exact Ret.mk (congrArg Value.bool HE.out.symm) HB.out
      · have gc : decide (0 ≤ j) = false := decide_eq_false hc_
        have HE : Hid (opL W H O i j = false) := by show _ = _; unfold opL; rw [Bool.and_eq_false_iff]; exact .inl (decide_eq_false fun e => hc_ e.2.2.1)
        go_wp2
        go_ret
        exact Ret.mk (congrArg Value.bool HE.out.symm) HB.out
    · have gb : decide (i < W) = false := decide_eq_false hb_
      have HE : Hid (opL W H O i j = false) := by show _ = _; unfold opL; rw [Bool.and_eq_false_iff]; exact .inl (decide_eq_false fun e => hb_ e.2.1)
      go_wp2
      go_ret
      exact Ret.mk (congrArg Value.bool HE.out.symm) HB.out
  · have ga : decide (0 ≤ i) = false := decide_eq_false ha_
    have HE : Hid (opL W H O i j = false) := by show _ = _; unfold opL; rw [Bool.and_eq_false_iff]; exact .inl (decide_eq_false fun e => ha_ e.1)
    go_wp2
    go_ret
    exact Ret.mk (congrArg Value.bool HE.out.symm) HB.out

set_option maxHeartbeats 1000000 in
theorem is13_any (W H : Int) (O : Nat → Bool) (i j : Int) (A : Option Addr) (n c : Nat) (w W0 : World) (hL : Lnd W H n) (hO : Bo W0 A n O) (hb : Below W0.heap.size W0 w) (hi : -2 ≤ i ∧ i ≤ 65) (hj : -2 ≤ j ∧ j ≤ 65) :
    Calls Tryd.prog 30 #[.agg #[.int .i64 W, .int .i64 H, .slice A n c], .int .i64 i, .int .i64 j] w (Ret (.bool (opL W H O i j)) w) := by
  have HB := Lib.hid (newBox (w := w) (.cells #[.int .i64 W, .int .i64 H, .slice A n c] 24))
  have HX := Lib.hid (Kx.new w 24 #[.int .i64 W, .int .i64 H, .slice A n c])
  have c0 := HX.out.cell 0 rfl
  have c1 := HX.out.cell 1 rfl
  have c2 := HX.out.cell 2 rfl
  obtain ⟨l1, l2, l3, l4, l5⟩ := hL
  have ha := area13 l1 l2 l3 l4
  go_enter Tryd.func30, Tryd.ntmps30
  by_cases ha_ : 0 ≤ i
  · have ga : decide (0 ≤ i) = true := decide_eq_true ha_
    by_cases hc_ : 0 ≤ j
    · have gc : decide (0 ≤ j) = true := decide_eq_true hc_
      by_cases hb_ : i < W
      · have gb : decide (i < W) = true := decide_eq_true hb_
        by_cases hd_ : j < H
        · have gd : decide (j < H) = true := decide_eq_true hd_
          obtain ⟨r0, r1⟩ := cell_rng (H := H) ha_ hb_ hc_ hd_
          obtain ⟨g, o, rfl, hg, hc⟩ := hO (by omega)
          have HC := (newBox (w := w) (.cells #[.int .i64 W, .int .i64 H, .slice (some ⟨g, o, none⟩) n c] 24)).cell (p := ⟨g, o + (W * j + i).toNat, none⟩) (Nat.lt_of_lt_of_le hg hb.size)
          rw [hb.cell (p := ⟨g, o + (W * j + i).toNat, none⟩) hg, hc (W * j + i).toNat (by omega)] at HC
          have HE : Hid (opL W H O i j = O (W * j + i).toNat) := by show _ = _; simp [opL, ha_, hb_, hc_, hd_]
          have mu := Int.mul_le_mul (a := W) (b := j) (c := 64) (d := 64) l2 (by omega) hc_ (by omega)
          have mv := Int.mul_nonneg (show 0 ≤ W by omega) hc_
          have hw : wrap64 (W * j) = W * j := IntWalk.wrap64_in _ (by omega)
          have hw2 : wrap64 (W * j + i) = W * j + i := IntWalk.wrap64_in _ (by omega)
          have r2 : W * j + i < (n : Int) := by omega
          generalize O (W * j + i).toNat = v at *
          clear hc r1 ha mu mv
          go_wp2
          go_ret
          exact Ret.mk (congrArg Value.bool HE.out.symm) HB.out
        · have gd : decide (j < H) = false := decide_eq_false hd_
          have HE : Hid (opL W H O i j = false) := by show _ = _; unfold opL; rw [Bool.and_eq_false_iff]; exact .inl (decide_eq_false fun e => hd_ e.2.2.2)
          go_wp2
          go_ret
          exact Ret.mk (congrArg Value.bool HE.out.symm) HB.out
      · have gb : decide (i < W) = false := decide_eq_false hb_
        have HE : Hid (opL W H O i j = false) := by show _ = _; unfold opL; rw [Bool.and_eq_false_iff]; exact .inl (decide_eq_false fun e => hb_ e.2.1)
        go_wp2
        go_ret
        exact Ret.mk (congrArg Value.bool HE.out.symm) HB.out
    · have gc : decide (0 ≤ j) = false := decide_eq_false hc_
      have HE : Hid (opL W H O i j = false) := by show _ = _; unfold opL; rw [Bool.and_eq_false_iff]; exact .inl (decide_eq_false fun e => hc_ e.2.2.1)
      go_wp2
      go_ret
      exact Ret.mk (congrArg Value.bool HE.out.symm) HB.out
  · have ga : decide (0 ≤ i) = false := decide_eq_false ha_
    have HE : Hid (opL W H O i j = false) := by show _ = _; unfold opL; rw [Bool.and_eq_false_iff]; exact .inl (decide_eq_false fun e => ha_ e.1)
    go_wp2
    go_ret
    exact Ret.mk (congrArg Value.bool HE.out.symm) HB.out
end Go.Proofs.YtcipedijjemghaaDoor
