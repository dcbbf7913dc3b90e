/- Numbers in rows of the call's own; the library's sorts, of numbers and of entries. -/
import Derived.Test.YtkghjaodnkjmoaaNr4
import Derived.Test.YtkghjaodnkjmoaaNrSort
import Derived.Sort.OwnSortedInts
namespace Go.Proofs.Ytkghjaodnkjmoaa
open Go.RowKit Go.Sort Go.Shelf
set_option linter.unusedVariables false

def iv (l : List Int) : List Value := l.map fun z : Int => Value.int .i64 z
theorem iv_append (l m : List Int) : iv (l ++ m) = iv l ++ iv m := by simp [iv]
theorem iv_length (l : List Int) : (iv l).length = l.length := by simp [iv]
/-- v is a row of the call's own that holds these numbers. -/
def Rn (w : World) (base : Nat) (v : Value) (l : List Int) : Prop := w.ownsRow base 3 1 v l.length (iv l)
theorem Rn.nil (w : World) (base : Nat) : Rn w base (.slice none 0 0) [] := World.ownsRow_nil _ _ _ _
theorem Rn.keep {w w' : World} {base : Nat} {v : Value} {l : List Int} (h : Rn w base v l) (hb : Below w.heap.size w w') : Rn w' base v l :=
  World.ownsRow.kept h (grownBy_below hb none) (by cases v.ownBlock <;> simp)
theorem Rn.lt {w : World} {base : Nat} {v : Value} {l : List Int} (h : Rn w base v l) : ∀ k, v.ownBlock = some k → base ≤ k ∧ k < w.heap.size := World.ownsRow.lt h
theorem Kx.extN {w X Y : World} {g base : Nat} {t : TypeId} {cs : Array Value} {v v' : Value} {l : List Int} (h : Kx w g X t cs) (hte : t ≠ 3) (hr : Rn X base v l) (he : Ext X v Y v') (hbs : w.heap.size ≤ base) : Kx w g Y t cs :=
  h.grown he.grown (blk_not_row h.blk hte hr) (fun k hk => Nat.le_trans hbs (hr.lt k hk).1)
/-- Numbers that lie at A. -/
def Is (w : World) (A : Option Addr) (n : Nat) (p : Nat → Int) : Prop :=
  0 < n → ∃ g o, A = some ⟨g, o, none⟩ ∧ g < w.heap.size ∧ ∀ i, i < n → w.cell? ⟨g, o + i, none⟩ = some (.int .i64 (p i))
theorem Is.keep {w w' : World} {A : Option Addr} {n : Nat} {p : Nat → Int} (h : Is w A n p) (hb : Below w.heap.size w w') : Is w' A n p := by
  intro hn
  obtain ⟨g, o, e, hg, hc⟩ := h hn
  exact ⟨g, o, e, Nat.lt_of_lt_of_le hg hb.size, fun i hi => (hb.cell (p := ⟨g, o + i, none⟩) hg).trans (hc i hi)⟩
theorem Rn.is {w : World} {base : Nat} {v : Value} {l : List Int} (h : Rn w base v l) : ∃ A k, v = .slice A l.length k ∧ l.length ≤ k ∧ k ≤ maxLen ∧ Is w A l.length (fun i => l.getD i 0) := by
  rcases h.2 with ⟨rfl, hn⟩ | ⟨g, cap, cur, rfl, hg, hh, hnc, hcm, _, _⟩
  · rw [hn]
    exact ⟨none, 0, rfl, Nat.le_refl _, by simp [maxLen], fun h0 => by omega⟩
  · refine ⟨_, cap, rfl, hnc, hcm, fun h0 => ⟨g, 0, rfl, ?_, fun i hi => ?_⟩⟩
    · rcases Nat.lt_or_ge g w.heap.size with hlt | hge
      · exact hlt
      · rw [Array.getElem?_eq_none hge] at hh; cases hh
    · have := World.ownsRow.cellAt h i (by omega)
      rw [Nat.zero_add, this]
      simp [iv, List.getD, hi]
theorem Try.infoN : (Try.prog.info? 3).map (fun i => (i.zero, i.size, i.bytes)) = some (some (.int .i64 0), 1, 8) := by kernel_rfl
/-- 'append(s, z)': the number lies in a new block of its own. -/
theorem append_int {ops : Array Oper} {rest : List Oper} {o : Oper} {a : Act} {Q : Exit → Act → World → Prop} (hgd : o.guard = none) (s x : Operand)
    (ho : o.op = .call { callee := .builtin .append, args := #[s, x], argTypes := #[30, 30] })
    (base : Nat) (l : List Int) (z : Int) (v : Value) (w : World) (hs : a.eval s = v) (hown : Rn w base v l)
    (hx : a.eval x = .slice (some ⟨w.heap.size, 0, none⟩) 1 1) (hmn : l.length ≤ 1000000) (hbase : base ≤ w.heap.size)
    (h : ∀ v' w', Rn w' base v' (l ++ [z]) → Ext w v w' v' → wpList Try.prog ops Q rest (a.put o.dst v') w') :
    wpList Try.prog ops Q (o :: rest) a (w.alloc (.cells #[.int .i64 z] 3)) := by
  refine wpList_plain hgd fun K hK => ?_
  have hown0 : (w.alloc (.cells #[.int .i64 z] 3)).ownsRow base 3 1 v l.length (iv l) := hown.keep (below_box _)
  obtain ⟨i0, hi, hz0, hz1, hz2⟩ := info_parts Try.infoN
  obtain ⟨v', w', hr, hown', hgr, hwh⟩ := append_where (P := Try.prog) (w.alloc (.cells #[.int .i64 z] 3)) base 30 o.type 3 i0 (.int .i64 0) 1 8 Try.underlying30 hi hz0 hz1 hz2 rfl (by decide) v l.length (iv l) hown0 ⟨w.heap.size, 0, none⟩ 1 1 (iv [z]) (by simp [iv])
    (by
      intro j u hj
      match j, hj with
      | 0, hj => simp [iv] at hj; subst hj; simp [Addr.add])
    (by intro u hu; simp [iv] at hu; subst hu; rfl) (by decide) (by unfold maxLen; omega) (by omega) (by simp; omega)
  unfold Oper.wp execOp
  simp only [ho, resolve, invoke, builtin, Sem.run_bind, Sem.run_pure, Result.andThen_ok, List.map_toArray, List.map_cons, List.map_nil, hs, hx, hr]
  refine hK _ _ (h v' w' ?_ ?_)
  · unfold Rn
    rw [iv_append, List.length_append]
    exact hown'
  · refine (Ext.refl w v).trans (Ext.trans ⟨grownBy_below (below_box _) _, .inl rfl⟩ ⟨hgr, ?_⟩)
    rcases hwh with e | e
    · exact .inl e
    · exact .inr fun k hk => by rw [e] at hk; injection hk; omega


/-- slices.Sort, of a row of the call's own. -/
theorem sort_ints (base : Nat) (v : Value) (l : List Int) (w : World) (h : Rn w base v l) (hl : l.length ≤ 1000000) :
    Calls Try.prog 27 #[v] w fun e w' => e = .returned (.tuple #[]) ∧ Rn w' base v (l.mergeSort fun x y => decide (x ≤ y)) ∧ w.grownBy w' v.ownBlock := by
  have hlen : (l.mergeSort fun x y => decide (x ≤ y)).length = l.length := by simp
  rcases h.2 with ⟨rfl, hn⟩ | ⟨g, cap, cur, rfl, hg, hh, hnc, hcm, hcs, htk⟩
  · have e : l = [] := List.length_eq_zero_iff.1 hn
    subst e
    refine (Any.slices_Sort_int_none Try.laysSort none 0 w).mono ?_
    rintro e w' ⟨rfl, rfl⟩
    exact ⟨rfl, by simpa using h, ⟨rfl, rfl, rfl, Nat.le_refl _, fun _ _ _ => rfl⟩⟩
  · refine (Any.slices_Sort_int Try.laysSort g 0 cap l w (holds_of_blockI hh (by simpa [iv] using htk)) (Array.getElem?_eq_some_iff.1 hh).1 (by omega)).mono ?_
    rintro e w' ⟨rfl, n, os, rfl⟩
    refine ⟨rfl, ?_, grownBy_sortedI _⟩
    have := ownsRow_sortedI (n := n) (os := os) (ts := l.mergeSort fun x y => decide (x ≤ y)) hlen hg hh hnc hcm hcs
    unfold Rn
    rw [hlen]
    exact this

section
variable (X Y : Nat → Int)
/-- An entry's cells, as the sort reads them. -/
def enl (i : Nat) : List Value := [.int .i64 (i : Int), .int .i64 (X i), .int .i64 (Y i)]
theorem flat_ens (l : List Nat) (j : Nat) (hj : j < l.length * 3) : (ens X Y l)[j]? = some (flatK (enl X Y) 3 l.toArray)[j]! := by
  have hq : j / 3 < l.length := by omega
  rw [get_flatK _ _ _ _ (by simpa using hj)]
  have h := ens_at X Y l (j / 3) l[j / 3] (List.getElem?_eq_getElem hq) (j % 3) (Nat.mod_lt _ (by decide))
  rw [show j / 3 * 3 + j % 3 = j by omega] at h
  rw [h]
  have e : (l.toArray)[j / 3]! = l[j / 3] := by
    rw [getElem!_pos _ _ (by simpa using hq)]
    simp
  rw [e]
  have hr : j % 3 < 3 := Nat.mod_lt _ (by decide)
  unfold enl
  generalize j % 3 = r at *
  match r, hr with
  | 0, _ => rfl
  | 1, _ => rfl
  | 2, _ => rfl
theorem take_flat (cur : Array Value) (l : List Nat) (h : l.length * 3 ≤ cur.size) : (putCells id 0 (flatK (enl X Y) 3 l.toArray) cur).toList.take (l.length * 3) = ens X Y l := by
  apply List.ext_getElem?
  intro j
  by_cases hj : j < l.length * 3
  · rw [List.getElem?_take_of_lt hj, Array.getElem?_toList, flat_ens X Y l j hj]
    simp only [putCells, Array.getElem?_mapIdx, Array.getElem?_eq_getElem (show j < cur.size by omega), Option.map_some, size_flatK]
    rw [if_pos ⟨Nat.zero_le _, by simpa using hj⟩]
    rfl
  · rw [List.getElem?_take_eq_none (by omega), List.getElem?_eq_none (by rw [ens_len]; omega)]
theorem sorted_world {w : World} {g n : Nat} {os : Array Obj} {cur : Array Value} {e : TypeId} {fr : Nat × Nat} (d : Array Value) (hb : w.heap[g]? = some (.cells cur e fr)) :
    (grow (putRow id (Sort.ahead w n) g 0 d) os).heap[g]? = some (.cells (putCells id 0 d cur) e fr) := by
  have hg : g < w.heap.size := (Array.getElem?_eq_some_iff.1 hb).1
  rw [heap_grow_old _ _ (by simpa using hg)]
  simp [putRow, mapBlock, Sort.ahead, Array.getElem?_modify, hb, onCells]
theorem sorted_grown {w : World} {g n : Nat} {os : Array Obj} (d : Array Value) : w.grownBy (grow (putRow id (Sort.ahead w n) g 0 d) os) (some g) := by
  refine ⟨rfl, rfl, rfl, by simp, fun k hk hne => ?_⟩
  rw [heap_grow_old _ _ (by simpa using hk)]
  have : g ≠ k := fun e => hne (by rw [e])
  simp [putRow, mapBlock, Sort.ahead, Array.getElem?_modify, this]
/-- By indexes. -/
def cfI (i j : Nat) : Int := cmpI (i : Int) (j : Int)
theorem lt_cfI (i j : Nat) : ltOf cfI i j = decide (i < j) := by
  unfold ltOf cfI cmpI
  by_cases h1 : (i : Int) < (j : Int)
  · rw [if_pos h1]; have : i < j := by omega
    simp [this]
  · rw [if_neg h1]
    have : ¬ i < j := by omega
    by_cases h2 : (j : Int) < (i : Int)
    · rw [if_pos h2]; simp [this]
    · rw [if_neg h2]; simp [this]
theorem swo_cfI : SWO (ltOf cfI) where
  irrefl x := by rw [lt_cfI]; simp
  trans x y z h1 h2 := by rw [lt_cfI] at *; simp at *; omega
  ntrans x y z h1 h2 := by rw [lt_cfI] at *; simp at *; omega
theorem cmp_lays (blk off size : Nat) (w : World) : CmpLays Try.prog 36 #[] (enl X Y) 3 cfI blk off size w := by
  intro m os dk hdk x y
  exact all1_any (x : Int) (y : Int) (X x) (Y x) (X y) (Y y) _
/-- slices.SortFunc by indexes, of a row of the call's own. -/
theorem sort_ents (base : Nat) (v : Value) (l : List Nat) (w : World) (h : Re X Y w base v l) (hl : l.length ≤ 1000000) :
    Calls Try.prog 35 #[v, .func (.func 36) #[] #[]] w fun e w' => e = .returned (.tuple #[]) ∧ ∃ l' : List Nat, l'.Perm l ∧ l'.Pairwise (· ≤ ·) ∧ Re X Y w' base v l' ∧ w.grownBy w' v.ownBlock := by
  rcases h.2 with ⟨rfl, hn⟩ | ⟨g, cap, cur, rfl, hg, hh, hnc, hcm, hcs, htk⟩
  · have e : l = [] := List.length_eq_zero_iff.1 hn
    subst e
    refine (AnyF.slices_SortFunc_none Try.laysSortE none 0 _ w).mono ?_
    rintro e w' ⟨rfl, rfl⟩
    exact ⟨rfl, [], List.Perm.refl _, List.Pairwise.nil, h, ⟨rfl, rfl, rfl, Nat.le_refl _, fun _ _ _ => rfl⟩⟩
  · have eg : ∀ args w, (callFunc 36 args).run Try.prog w = .ok (.enter 36 args) w := enters_of Try.func36 (by kernel_rfl) rfl
    have hH : HoldsK (enl X Y) 3 w g 0 l.toArray := by
      intro j hj
      have hj' : j < l.length * 3 := by simpa using hj
      refine ⟨?_, by simp [World.frozen?, hh]⟩
      rw [World.ownsRow.cellAt h (0 + j) (by omega), Nat.zero_add]
      exact flat_ens X Y l j hj'
    have hcon := AnyQ.slices_SortFunc Try.laysSortE 3 Try.isAgg58 Try.sizeOf58 (enl X Y) (fun _ => rfl) (fun x v hv => by simp [enl] at hv; rcases hv with rfl | rfl | rfl <;> rfl) cfI swo_cfI 36 #[] g 0 cap l.toArray w eg (cmp_lays X Y g 0 l.toArray.size w) hH (Array.getElem?_eq_some_iff.1 hh).1 (by simp; omega)
    have hs : l.toArray.size = l.length := by simp
    rw [hs] at hcon
    refine Calls.mono hcon ?_
    rintro e w' ⟨rfl, d', n, os, ⟨hsz, -, hperm⟩, hsort, rfl⟩
    have hd : d'.size = l.length := by simpa using hsz
    refine ⟨rfl, d'.toList, ?_, ?_, ?_, sorted_grown _⟩
    · have q1 : d'.extract 0 l.length = d' := by rw [← hd]; exact Array.extract_size
      have q2 : l.toArray.extract 0 l.length = l.toArray := by
        simp
      rw [q1, q2] at hperm
      simpa using hperm
    · rw [List.pairwise_iff_getElem]
      intro i j hi hj hij
      have hi' : i < d'.size := by simpa using hi
      have hj' : j < d'.size := by simpa using hj
      have := hsort i j (Nat.zero_le _) hij (by omega)
      rw [lt_cfI, getElem!_pos d' i hi', getElem!_pos d' j hj'] at this
      simpa using this
    · have hdl : d'.toList.length = l.length := by simpa using hd
      refine ⟨by rw [ens_len], .inr ⟨g, cap, _, by rw [hdl], hg, sorted_world _ hh, by omega, hcm, by simp [putCells, hcs], ?_⟩⟩
      have := take_flat X Y cur d'.toList (by rw [hdl, hcs]; exact Nat.mul_le_mul_right _ hnc)
      simpa using this
end
end Go.Proofs.Ytkghjaodnkjmoaa
