/- Stage 15's ground: numbers and answers in memory, those that may be written; a map from cells to things. -/
import Derived.Test.YtoibbnkpfplmbaaKd1
import Derived.Test.YtoibbnkpfplmbaaCwMath
import Derived.Maps.OwnSet
import Derived.Maps.OwnOps
import Derived.Deep.LoopGhost
import Derived.Deep.OwnRows
import Derived.WalkMore
import Derived.Lib.QuietBelow
import Derived.Deep.QuietTactic
import Derived.BigQuiet
namespace Go.Proofs.Ytoibbnkpfplmbaa
open Go.RowKit
set_option linter.unusedVariables false
set_option linter.unusedSimpArgs false

theorem newBox {w : World} (o : Obj) : Below w.heap.size w (w.alloc o) := (Below.refl _ _).alloc (Nat.le_refl _) _
theorem belowDrew (w : World) (k : Nat) : RowKit.Below w.heap.size w (w.drewN k) := ⟨rfl, rfl, rfl, Nat.le_refl _, fun _ _ => rfl⟩
def iv (l : List Int) : List Value := l.map fun z : Int => Value.int .i64 z
theorem iv_append (l m : List Int) : iv (l ++ m) = iv l ++ iv m := by simp [iv]
theorem iv_length (l : List Int) : (iv l).length = l.length := by simp [iv]
/-- v is a row of the call's own that holds these numbers. -/
def Rn (w : World) (base : Nat) (v : Value) (l : List Int) : Prop := w.ownsRow base 3 1 v l.length (iv l)
theorem Rn.nil (w : World) (base : Nat) : Rn w base (.slice none 0 0) [] := World.ownsRow_nil _ _ _ _
theorem Rn.keep {w w' : World} {base : Nat} {v : Value} {l : List Int} (h : Rn w base v l) (hb : RowKit.Below w.heap.size w w') : Rn w' base v l :=
  World.ownsRow.kept h (grownBy_below hb none) (by cases v.ownBlock <;> simp)
theorem Rn.lt {w : World} {base : Nat} {v : Value} {l : List Int} (h : Rn w base v l) : ∀ k, v.ownBlock = some k → base ≤ k ∧ k < w.heap.size := World.ownsRow.lt h
/-- Numbers that lie at A. -/
def Is (w : World) (A : Option Addr) (n : Nat) (p : Nat → Int) : Prop :=
  0 < n → ∃ g o, A = some ⟨g, o, none⟩ ∧ g < w.heap.size ∧ ∀ i, i < n → w.cell? ⟨g, o + i, none⟩ = some (.int .i64 (p i))
theorem Is.keep {w w' : World} {A : Option Addr} {n : Nat} {p : Nat → Int} (h : Is w A n p) (hb : RowKit.Below w.heap.size w w') : Is w' A n p := by
  intro hn
  obtain ⟨g, o, e, hg, hc⟩ := h hn
  exact ⟨g, o, e, Nat.lt_of_lt_of_le hg hb.size, fun i hi => (hb.cell (p := ⟨g, o + i, none⟩) hg).trans (hc i hi)⟩
theorem Is.at {w w' : World} {A : Option Addr} {n k : Nat} {p : Nat → Int} (h : Is w A n p) (hb : RowKit.Below w.heap.size w w') (hk : k < n) : ∃ g o, A = some ⟨g, o, none⟩ ∧ w'.cell? ⟨g, o + k, none⟩ = some (.int .i64 (p k)) := by
  obtain ⟨g, o, e, hg, hc⟩ := (h.keep hb) (by omega)
  exact ⟨g, o, e, hc k hk⟩
theorem Is.take {w : World} {A : Option Addr} {n m : Nat} {p : Nat → Int} (h : Is w A n p) (hm : m ≤ n) : Is w A m p := by
  intro hn
  obtain ⟨g, o, e, hg, hc⟩ := h (by omega)
  exact ⟨g, o, e, hg, fun i hi => hc i (by omega)⟩
theorem Is.congr {w : World} {A : Option Addr} {n : Nat} {p q : Nat → Int} (h : Is w A n p) (e : ∀ i, i < n → p i = q i) : Is w A n q := by
  intro hn
  obtain ⟨g, o, e1, hg, hc⟩ := h hn
  exact ⟨g, o, e1, hg, fun i hi => by rw [← e i hi]; exact hc i hi⟩
/-- Answers that lie at A. -/
def Bo (w : World) (A : Option Addr) (n : Nat) (O : Nat → Bool) : Prop :=
  0 < n → ∃ g o, A = some ⟨g, o, none⟩ ∧ g < w.heap.size ∧ ∀ i, i < n → w.cell? ⟨g, o + i, none⟩ = some (.bool (O i))
theorem Bo.keep {w w' : World} {A : Option Addr} {n : Nat} {O : Nat → Bool} (h : Bo w A n O) (hb : RowKit.Below w.heap.size w w') : Bo w' A n O := by
  intro hn
  obtain ⟨g, o, e, hg, hc⟩ := h hn
  exact ⟨g, o, e, Nat.lt_of_lt_of_le hg hb.size, fun i hi => (hb.cell (p := ⟨g, o + i, none⟩) hg).trans (hc i hi)⟩
theorem Bo.at {w w' : World} {A : Option Addr} {n k : Nat} {p : Nat → Bool} (h : Bo w A n p) (hb : RowKit.Below w.heap.size w w') (hk : k < n) : ∃ g o, A = some ⟨g, o, none⟩ ∧ w'.cell? ⟨g, o + k, none⟩ = some (.bool (p k)) := by
  obtain ⟨g, o, e, hg, hc⟩ := (h.keep hb) (by omega)
  exact ⟨g, o, e, hc k hk⟩
theorem Bo.take {w : World} {A : Option Addr} {n m : Nat} {O : Nat → Bool} (h : Bo w A n O) (hm : m ≤ n) : Bo w A m O := by
  intro hn
  obtain ⟨g, o, e, hg, hc⟩ := h (by omega)
  exact ⟨g, o, e, hg, fun i hi => hc i (by omega)⟩
theorem Bo.congr {w : World} {A : Option Addr} {n : Nat} {p q : Nat → Bool} (h : Bo w A n p) (e : ∀ i, i < n → p i = q i) : Bo w A n q := by
  intro hn
  obtain ⟨g, o, e1, hg, hc⟩ := h hn
  exact ⟨g, o, e1, hg, fun i hi => by rw [← e i hi]; exact hc i hi⟩

/-- Numbers at the head of a block, newer than B, that may be written. -/
def Iw (w : World) (B : Nat) (A : Option Addr) (n : Nat) (p : Nat → Int) : Prop :=
  0 < n → ∃ g cs, A = some ⟨g, 0, none⟩ ∧ B ≤ g ∧ w.heap[g]? = some (.cells cs 3 (0, 0)) ∧ ∀ i, i < n → cs[i]? = some (.int .i64 (p i))
/-- Answers at the head of a block, newer than B, that may be written. -/
def Bw (w : World) (B : Nat) (A : Option Addr) (n : Nat) (p : Nat → Bool) : Prop :=
  0 < n → ∃ g cs, A = some ⟨g, 0, none⟩ ∧ B ≤ g ∧ w.heap[g]? = some (.cells cs 4 (0, 0)) ∧ ∀ i, i < n → cs[i]? = some (.bool (p i))
theorem Iw.block {w w' : World} {B : Nat} {A : Option Addr} {n : Nat} {p : Nat → Int} (h : Iw w B A n p) (e : ∀ (g : Nat) (cs : Array Value), w.heap[g]? = some (.cells cs 3 (0, 0)) → w'.heap[g]? = w.heap[g]?) : Iw w' B A n p := by
  intro hn
  obtain ⟨g, cs, e1, hB, hg, hc⟩ := h hn
  exact ⟨g, cs, e1, hB, (e g cs hg).trans hg, hc⟩
theorem Bw.block {w w' : World} {B : Nat} {A : Option Addr} {n : Nat} {p : Nat → Bool} (h : Bw w B A n p) (e : ∀ (g : Nat) (cs : Array Value), w.heap[g]? = some (.cells cs 4 (0, 0)) → w'.heap[g]? = w.heap[g]?) : Bw w' B A n p := by
  intro hn
  obtain ⟨g, cs, e1, hB, hg, hc⟩ := h hn
  exact ⟨g, cs, e1, hB, (e g cs hg).trans hg, hc⟩
theorem Iw.keep {w w' : World} {B : Nat} {A : Option Addr} {n : Nat} {p : Nat → Int} (h : Iw w B A n p) (hb : RowKit.Below w.heap.size w w') : Iw w' B A n p :=
  h.block fun g cs hg => hb.block g (Array.getElem?_eq_some_iff.1 hg).1
theorem Bw.keep {w w' : World} {B : Nat} {A : Option Addr} {n : Nat} {p : Nat → Bool} (h : Bw w B A n p) (hb : RowKit.Below w.heap.size w w') : Bw w' B A n p :=
  h.block fun g cs hg => hb.block g (Array.getElem?_eq_some_iff.1 hg).1
theorem Iw.is {w : World} {B : Nat} {A : Option Addr} {n : Nat} {p : Nat → Int} (h : Iw w B A n p) : Is w A n p := by
  intro hn
  obtain ⟨g, cs, e1, hB, hg, hc⟩ := h hn
  exact ⟨g, 0, e1, (Array.getElem?_eq_some_iff.1 hg).1, fun i hi => by rw [Nat.zero_add, cell_of_row w g i cs _ (0, 0) hg, hc i hi]⟩
theorem Bw.bo {w : World} {B : Nat} {A : Option Addr} {n : Nat} {p : Nat → Bool} (h : Bw w B A n p) : Bo w A n p := by
  intro hn
  obtain ⟨g, cs, e1, hB, hg, hc⟩ := h hn
  exact ⟨g, 0, e1, (Array.getElem?_eq_some_iff.1 hg).1, fun i hi => by rw [Nat.zero_add, cell_of_row w g i cs _ (0, 0) hg, hc i hi]⟩
theorem Iw.congr {w : World} {B : Nat} {A : Option Addr} {n : Nat} {p q : Nat → Int} (h : Iw w B A n p) (e : ∀ i, i < n → p i = q i) : Iw w B A n q := by
  intro hn
  obtain ⟨g, cs, e1, hB, hg, hc⟩ := h hn
  exact ⟨g, cs, e1, hB, hg, fun i hi => by rw [← e i hi]; exact hc i hi⟩
theorem Bw.congr {w : World} {B : Nat} {A : Option Addr} {n : Nat} {p q : Nat → Bool} (h : Bw w B A n p) (e : ∀ i, i < n → p i = q i) : Bw w B A n q := by
  intro hn
  obtain ⟨g, cs, e1, hB, hg, hc⟩ := h hn
  exact ⟨g, cs, e1, hB, hg, fun i hi => by rw [← e i hi]; exact hc i hi⟩
theorem Iw.mono {w : World} {B B' : Nat} {A : Option Addr} {n : Nat} {p : Nat → Int} (h : Iw w B A n p) (hb : B' ≤ B) : Iw w B' A n p := by
  intro hn
  obtain ⟨g, cs, e1, hB, hg, hc⟩ := h hn
  exact ⟨g, cs, e1, by omega, hg, hc⟩
theorem Bw.mono {w : World} {B B' : Nat} {A : Option Addr} {n : Nat} {p : Nat → Bool} (h : Bw w B A n p) (hb : B' ≤ B) : Bw w B' A n p := by
  intro hn
  obtain ⟨g, cs, e1, hB, hg, hc⟩ := h hn
  exact ⟨g, cs, e1, by omega, hg, hc⟩
/-- One is written. -/
theorem Iw.at {w : World} {B : Nat} {A : Option Addr} {n : Nat} {p : Nat → Int} (h : Iw w B A n p) {i : Nat} (hi : i < n) :
    ∃ g, A = some ⟨g, 0, none⟩ ∧ B ≤ g ∧ g < w.heap.size ∧ (∀ j, j < n → w.cell? ⟨g, j, none⟩ = some (.int .i64 (p j))) ∧ (∀ j, w.frozen? ⟨g, j, none⟩ = false) ∧
      (∃ cs, w.heap[g]? = some (.cells cs 3 (0, 0))) ∧ ∀ v, Iw (w.setCell ⟨g, i, none⟩ (.int .i64 v)) B A n (cwU p i v) := by
  obtain ⟨g, cs, e1, hB, hg, hc⟩ := h (by omega)
  refine ⟨g, e1, hB, (Array.getElem?_eq_some_iff.1 hg).1, fun j hj => by rw [cell_of_row w g j cs _ (0, 0) hg, hc j hj], fun j => by simp [World.frozen?, hg], ⟨cs, hg⟩, fun v _ => ?_⟩
  refine ⟨g, _, e1, hB, setCell_blk hg _, fun j hj => ?_⟩
  have hl : i < cs.size := (Array.getElem?_eq_some_iff.1 (hc i hi)).1
  by_cases e : j = i
  · subst e
    rw [cwU_same, Array.getElem?_setIfInBounds_self_of_lt hl]
  · rw [cwU_other _ _ e, Array.getElem?_setIfInBounds_ne (fun e2 => e e2.symm)]
    exact hc j hj
theorem Bw.at {w : World} {B : Nat} {A : Option Addr} {n : Nat} {p : Nat → Bool} (h : Bw w B A n p) {i : Nat} (hi : i < n) :
    ∃ g, A = some ⟨g, 0, none⟩ ∧ B ≤ g ∧ g < w.heap.size ∧ (∀ j, j < n → w.cell? ⟨g, j, none⟩ = some (.bool (p j))) ∧ (∀ j, w.frozen? ⟨g, j, none⟩ = false) ∧
      (∃ cs, w.heap[g]? = some (.cells cs 4 (0, 0))) ∧ ∀ v, Bw (w.setCell ⟨g, i, none⟩ (.bool v)) B A n (cwU p i v) := by
  obtain ⟨g, cs, e1, hB, hg, hc⟩ := h (by omega)
  refine ⟨g, e1, hB, (Array.getElem?_eq_some_iff.1 hg).1, fun j hj => by rw [cell_of_row w g j cs _ (0, 0) hg, hc j hj], fun j => by simp [World.frozen?, hg], ⟨cs, hg⟩, fun v _ => ?_⟩
  refine ⟨g, _, e1, hB, setCell_blk hg _, fun j hj => ?_⟩
  have hl : i < cs.size := (Array.getElem?_eq_some_iff.1 (hc i hi)).1
  by_cases e : j = i
  · subst e
    rw [cwU_same, Array.getElem?_setIfInBounds_self_of_lt hl]
  · rw [cwU_other _ _ e, Array.getElem?_setIfInBounds_ne (fun e2 => e e2.symm)]
    exact hc j hj
theorem Rn.iw {w : World} {base : Nat} {v : Value} {l : List Int} (h : Rn w base v l) : ∃ A k, v = .slice A l.length k ∧ l.length ≤ k ∧ k ≤ maxLen ∧ Iw w base A l.length (fun i => l.getD i 0) := by
  rcases h.2 with ⟨rfl, hn⟩ | ⟨g, cap, cur, rfl, hg, hh, hnc, hcm, _, _⟩
  · rw [hn]
    exact ⟨none, 0, rfl, Nat.le_refl _, by simp [maxLen], fun h0 => by omega⟩
  · refine ⟨_, cap, rfl, hnc, hcm, fun h0 => ⟨g, cur, rfl, hg, hh, fun i hi => ?_⟩⟩
    have := World.ownsRow.cellAt h i (by omega)
    rw [cell_of_row w g i cur _ (0, 0) hh] at this
    rw [this]
    simp [iv, List.getD, hi]
theorem Try.infoN15 : (Try.prog.info? 3).map (fun i => (i.zero, i.size, i.bytes)) = some (some (.int .i64 0), 1, 8) := by kernel_rfl
theorem Try.infoB15 : (Try.prog.info? 4).map (fun i => (i.zero, i.size, i.bytes)) = some (some (.bool false), 1, 1) := by kernel_rfl
/-- 'append(s, z)': the number lies in a new block of its own. -/
theorem append_int {ops : Array Oper} {rest : List Oper} {o : Oper} {a : Act} {Q : Exit → Act → World → Prop} (hgd : o.guard = none) (s x : Operand)
    (ho : o.op = .call { callee := .builtin .append, args := #[s, x], argTypes := #[23, 23] })
    (base : Nat) (l : List Int) (z : Int) (v : Value) (w : World) (hs : a.eval s = v) (hown : Rn w base v l)
    (hx : a.eval x = .slice (some ⟨w.heap.size, 0, none⟩) 1 1) (hmn : l.length ≤ 1000000) (hbase : base ≤ w.heap.size)
    (h : ∀ v' w', Rn w' base v' (l ++ [z]) → Ext w v w' v' → wpList Try.prog ops Q rest (a.put o.dst v') w') :
    wpList Try.prog ops Q (o :: rest) a (w.alloc (.cells #[.int .i64 z] 3)) := by
  refine wpList_plain hgd fun K hK => ?_
  have hown0 : (w.alloc (.cells #[.int .i64 z] 3)).ownsRow base 3 1 v l.length (iv l) := hown.keep (newBox _)
  obtain ⟨i0, hi, hz0, hz1, hz2⟩ := info_parts Try.infoN15
  obtain ⟨v', w', hr, hown', hgr, hwh⟩ := append_where (P := Try.prog) (w.alloc (.cells #[.int .i64 z] 3)) base 23 o.type 3 i0 (.int .i64 0) 1 8 Try.underlying23 hi hz0 hz1 hz2 rfl (by decide) v l.length (iv l) hown0 ⟨w.heap.size, 0, none⟩ 1 1 (iv [z]) (by simp [iv])
    (by
      intro j u hj
      match j, hj with
      | 0, hj => simp [iv] at hj; subst hj; simp [Addr.add])
    (by intro u hu; simp [iv] at hu; subst hu; rfl) (by decide) (by unfold maxLen; omega) (by omega) (by simp; omega)
  unfold Oper.wp execOp
  simp only [ho, resolve, invoke, builtin, Sem.run_bind, Sem.run_pure, Result.andThen_ok, List.map_toArray, List.map_cons, List.map_nil, hs, hx, hr]
  refine hK _ _ (h v' w' ?_ ?_)
  · unfold Rn
    rw [iv_append, List.length_append]
    exact hown'
  · refine (Ext.refl w v).trans (Ext.trans ⟨grownBy_below (newBox _) _, .inl rfl⟩ ⟨hgr, ?_⟩)
    rcases hwh with e | e
    · exact .inl e
    · exact .inr fun k hk => by rw [e] at hk; injection hk; omega

/-! ### Made rows -/
theorem Bw.made (w : World) (N : Nat) : Bw (w.alloc (.cells (madeCells #[.bool false] N) 4)) w.heap.size (some ⟨w.heap.size, 0, none⟩) N (fun _ => false) := by
  intro _
  refine ⟨w.heap.size, _, rfl, Nat.le_refl _, World.alloc_heap_new w _, fun i hi => ?_⟩
  have h := toList_madeCells_one (.bool false) N
  rw [← Array.getElem?_toList, h]
  simp [hi]
theorem Iw.made (w : World) (N : Nat) : Iw (w.alloc (.cells (madeCells #[.int .i64 0] N) 3)) w.heap.size (some ⟨w.heap.size, 0, none⟩) N (fun _ => 0) := by
  intro _
  refine ⟨w.heap.size, _, rfl, Nat.le_refl _, World.alloc_heap_new w _, fun i hi => ?_⟩
  have h := toList_madeCells_one (.int .i64 0) N
  rw [← Array.getElem?_toList, h]
  simp [hi]

/-! ### A map from cells to things -/
/-- One value, anew. -/
def cwZ (f : Int → Int) (c v : Int) : Int → Int := fun x => if x = c then v else f x
theorem Try.keyed15 : Go.Maps.Keyed Try.prog 3 := Go.Maps.int_keyed Try.underlying3
theorem key15 {c : Int} (h : 0 ≤ c ∧ c ≤ 100000) : keyOf Try.prog 3 (.int .i64 c) = some (.int .i64 c) :=
  Go.Maps.keyOf_int_mk Try.underlying3 (WalkArith.wf_i64 (by omega))
/-- Block b is a map: of cell c it says f c, or nothing where f c is below nought; so many entries. -/
def Mo (w : World) (b sz : Nat) (f : Int → Int) : Prop :=
  ∃ D : DataW Unit, w.ownsMap Try.prog 3 (plainElem Try.prog 3) b sz D ∧ Maps.size D = sz ∧
    ∀ c, 0 ≤ c ∧ c ≤ 100000 → (0 ≤ f c → Maps.has D (.int .i64 c) = true ∧ D.atKey (.int .i64 c) (.lit (.int .i64 0)) = .lit (.int .i64 (f c))) ∧ (f c < 0 → Maps.has D (.int .i64 c) = false)
theorem Mo.lt {w : World} {b sz : Nat} {f : Int → Int} (h : Mo w b sz f) : b < w.heap.size := by
  obtain ⟨D, h1, _⟩ := h
  exact h1.lt
theorem Mo.blk {w : World} {b sz : Nat} {f : Int → Int} (h : Mo w b sz f) : ∃ es clock, w.heap[b]? = some (.map es clock) := by
  obtain ⟨D, ⟨es, clock, hb, _⟩, _⟩ := h
  exact ⟨es, clock, hb⟩
theorem Mo.kept {w w' : World} {b sz : Nat} {f : Int → Int} (h : Mo w b sz f) (e : w'.heap[b]? = w.heap[b]?) : Mo w' b sz f := by
  obtain ⟨D, ⟨es, clock, hb, h1⟩, h2⟩ := h
  exact ⟨D, ⟨es, clock, e.trans hb, h1⟩, h2⟩
theorem Mo.keep {w w' : World} {b sz : Nat} {f : Int → Int} (h : Mo w b sz f) (hb : RowKit.Below w.heap.size w w') : Mo w' b sz f := h.kept (hb.block b h.lt)
theorem Mo.congr {w : World} {b sz : Nat} {f g : Int → Int} (h : Mo w b sz f) (e : ∀ c, 0 ≤ c ∧ c ≤ 100000 → f c = g c) : Mo w b sz g := by
  obtain ⟨D, h1, h2, h3⟩ := h
  exact ⟨D, h1, h2, fun c hc => by rw [← e c hc]; exact h3 c hc⟩
theorem Mo.made (w : World) : Mo (w.alloc (.map #[] 0)) w.heap.size 0 (fun _ => -1) :=
  ⟨_, World.ownsMap_made _ _ _ _, rfl, fun c hc => ⟨fun h => absurd (show (0 : Int) ≤ -1 from h) (by omega), fun _ => rfl⟩⟩
theorem Mo.tidy {w : World} {b sz : Nat} {D : DataW Unit} (h : w.ownsMap Try.prog 3 (plainElem Try.prog 3) b sz D) : w.ownsMap Try.prog 3 (plainElem Try.prog 3) b (Maps.size D) D := by
  obtain ⟨es, clock, hb, F, hs, rfl⟩ := h
  refine ⟨es, clock, hb, F, ?_, rfl⟩
  rw [Maps.size_eq, length_read]
  exact Nat.le_refl _
/-- 'm[c]', of somebody. -/
theorem Mo.look {w : World} {b sz : Nat} {f : Int → Int} (h : Mo w b sz f) {c : Int} (hc : 0 ≤ c ∧ c ≤ 100000) (h0 : 0 ≤ f c) :
    (Instr.lookup 41 (.map (some b)) (.int .i64 c) false).run Try.prog w = .ok (.int .i64 (f c)) w := by
  obtain ⟨D, h1, h2, h3⟩ := h
  obtain ⟨v, hrun, hat, _⟩ := h1.lookup_int Try.keyed15 Try.underlying41 Try.underlying3 (Try.zeroValue3 w) (key15 hc)
  rw [((h3 c hc).1 h0).2] at hat
  simp at hat
  rw [hrun, hat]
/-- '_, ok := m[c]', in every world in which the map lies as it lay. -/
theorem Mo.look_ok {w : World} {b sz : Nat} {f : Int → Int} (h : Mo w b sz f) {c : Int} (hc : 0 ≤ c ∧ c ≤ 100000) :
    ∃ k : Int, ∀ w' : World, w'.heap[b]? = w.heap[b]? → (Instr.lookup 41 (.map (some b)) (.int .i64 c) true).run Try.prog w' = .ok (.tuple #[.int .i64 k, .bool (decide (0 ≤ f c))]) w' := by
  obtain ⟨D, h1, h2, h3⟩ := h
  obtain ⟨k, -, hat, -⟩ := h1.lookup_int Try.keyed15 Try.underlying41 Try.underlying3 (Try.zeroValue3 w) (key15 hc)
  refine ⟨k, fun w' hw' => ?_⟩
  have h1' : w'.ownsMap Try.prog 3 (plainElem (H := Unit) Try.prog 3) b sz D := by
    obtain ⟨es, clock, hb, q⟩ := h1
    exact ⟨es, clock, hw'.trans hb, q⟩
  obtain ⟨v, ps, hrun, hv⟩ := h1'.look_ok Try.keyed15 Try.underlying41 (Try.zeroValue3 w') (plainElem_int Try.underlying3 (by decide)) (key15 hc)
  obtain ⟨k', rfl, hk', _⟩ := plainElem_int_inv Try.underlying3 hv
  have hkk : k' = k := by
    have := congrArg Prod.fst hk'
    simp only [hat] at this
    simpa using this.symm
  subst hkk
  have : Maps.has D (.int .i64 c) = decide (0 ≤ f c) := by
    rcases Int.lt_or_le (f c) 0 with q | q
    · rw [(h3 c hc).2 q, decide_eq_false (by omega)]
    · rw [((h3 c hc).1 q).1, decide_eq_true q]
  rw [← this]
  exact hrun
/-- 'len(m)'. -/
theorem Mo.len {w : World} {b sz : Nat} {f : Int → Int} (h : Mo w b sz f) (ty : TypeId) : (Builtin.len_ #[41] ty #[.map (some b)]).run Try.prog w = .ok (.int .i64 (sz : Int)) w := by
  obtain ⟨D, h1, h2, h3⟩ := h
  rw [h1.len Try.underlying41 ty, h2]
/-- A look-up in a region that is walked once. -/
theorem quiet_lookup {C : World → Prop} {K : Act → Prop} {a : Act} {o : Oper} {ty : TypeId} {x y : Operand} {c : Bool} {u k v : Value} (hl : ∀ w, C w → (Instr.lookup ty u k c).run Try.prog w = .ok v w) (ho : o.op = .lookup ty x y c) (hx : a.eval x = u) (hy : a.eval y = k) (hk : K (a.put o.dst v)) : o.quiet Try.prog a C K := by
  refine ⟨v, fun w hw => ?_, hk⟩
  unfold Oper.quietAt execOp
  simp only [ho, hx, hy, Sem.run_bind, Sem.run_pure, Result.andThen_ok, hl w hw]
  exact ⟨rfl, rfl⟩
theorem isKey15 (c : Int) : WideAt.IsKeyLit (.int .i64 c) := trivial
theorem keyNe {c x : Int} (h : x ≠ c) : (Lit.int .i64 x) ≠ (Lit.int .i64 c) := fun e => h (by injection e)
/-- 'delete(m, c)'. -/
theorem Mo.drop {w : World} {b sz : Nat} {f : Int → Int} (h : Mo w b sz f) {c : Int} (hc : 0 ≤ c ∧ c ≤ 100000) (h0 : 0 ≤ f c) (ty : TypeId) :
    ∃ w', (Builtin.delete_ #[41, 3] ty #[.map (some b), .int .i64 c]).run Try.prog w = .ok (.tuple #[]) w' ∧ Mo w' b (sz - 1) (cwZ f c (-1)) ∧ 1 ≤ sz ∧ w.grownBy w' (some b) := by
  obtain ⟨D, h1, h2, h3⟩ := h
  obtain ⟨w', hrun, h4, h5⟩ := h1.drop Try.keyed15 Try.underlying41 (key15 hc) ty
  have hs := Maps.size_del (k := .int .i64 c) (h1.tidy Try.keyed15)
  rw [((h3 c hc).1 h0).1, if_pos rfl, h2] at hs
  have hsz : Maps.size (D.del (.int .i64 c)) = sz - 1 := by omega
  refine ⟨w', hrun, ⟨_, hsz ▸ Mo.tidy h4, hsz, fun x hx => ?_⟩, by omega, h5.grown⟩
  unfold cwZ
  by_cases e : x = c
  · subst e
    rw [if_pos rfl]
    exact ⟨fun q => absurd q (by omega), fun _ => Maps.has_del_same⟩
  · rw [if_neg e]
    refine ⟨fun q => ?_, fun q => ?_⟩
    · rw [Maps.has_del_other (keyNe e), Maps.atKey_del_other (keyNe e)]
      exact (h3 x hx).1 q
    · rw [Maps.has_del_other (keyNe e)]
      exact (h3 x hx).2 q
/-- 'm[c] = v'. -/
theorem Mo.put {w : World} {b sz : Nat} {f : Int → Int} (h : Mo w b sz f) (hsz : sz ≤ 100000) {c v : Int} (hc : 0 ≤ c ∧ c ≤ 100000) (hv : 0 ≤ v ∧ v ≤ 100000) :
    ∃ w', (Instr.mapUpdate 41 (.map (some b)) (.int .i64 c) (.int .i64 v)).run Try.prog w = .ok () w' ∧ Mo w' b (if 0 ≤ f c then sz else sz + 1) (cwZ f c v) ∧ w.grownBy w' (some b) := by
  obtain ⟨D, h1, h2, h3⟩ := h
  obtain ⟨w', hrun, h4, h5⟩ := h1.update Try.keyed15 Try.underlying41 (by unfold maxLen; omega) (key15 hc) (plainElem_int (H := Unit) Try.underlying3 (WalkArith.wf_i64 (show -9223372036854775808 ≤ v ∧ v ≤ 9223372036854775807 by omega)))
  have hs := Maps.size_put (k := .int .i64 c) (h1.tidy Try.keyed15) (.lit (.int .i64 v))
  have hs2 : Maps.size (D.put (.int .i64 c) (.lit (.int .i64 v))) = if 0 ≤ f c then sz else sz + 1 := by
    rw [hs, h2]
    rcases Int.lt_or_le (f c) 0 with q | q
    · rw [(h3 c hc).2 q, if_neg (by simp), if_neg (by omega)]
    · rw [((h3 c hc).1 q).1, if_pos rfl, if_pos q]
  refine ⟨w', hrun, ⟨_, hs2 ▸ Mo.tidy h4, hs2, fun x hx => ?_⟩, h5⟩
  unfold cwZ
  by_cases e : x = c
  · subst e
    rw [if_pos rfl]
    exact ⟨fun _ => ⟨Maps.has_put_same h1.isMap (isKey15 _) _, Maps.atKey_put_same h1.isMap (isKey15 _) _ _⟩, fun q => absurd q (by omega)⟩
  · rw [if_neg e]
    refine ⟨fun q => ?_, fun q => ?_⟩
    · rw [Maps.has_put_other (keyNe e), Maps.atKey_put_other (keyNe e)]
      exact (h3 x hx).1 q
    · rw [Maps.has_put_other (keyNe e)]
      exact (h3 x hx).2 q
end Go.Proofs.Ytoibbnkpfplmbaa
