/- Stage 14: movers and engines in memory, whole and by fields: loads, stores, '=='. -/
import Derived.Test.YtckeplbmkjoiaaaDoorDvMath
import Derived.Test.YtckeplbmkjoiaaaDoorKd1
import Derived.Deep.WholeRow
import Derived.Lib.QuietBelow
import Derived.Deep.QuietTactic
import Derived.BigQuiet
import Derived.Laws.ResultCell
import Derived.Deep.RegionHeld
namespace Go.Proofs.YtckeplbmkjoiaaaDoor
open Go.RowKit Go.Sort
set_option linter.unusedVariables false

def mvA (m : Mv) : Array Value := #[.int .i64 m.x, .int .i64 m.y, .int .i64 m.a]
def egA (E : Eg) : Array Value := #[.int .i64 E.s, .int .i64 E.t, .int .i64 E.w, .int .i64 E.h]
def mv0 : Mv := ⟨0, 0, 0⟩
theorem mvA_one (m : Mv) : (mvA m).all (·.oneCell') = true := by simp [mvA, Value.oneCell']
theorem egA_one (E : Eg) : (egA E).all (·.oneCell') = true := by simp [egA, Value.oneCell']

section
variable {ops : Array Oper} {rest : List Oper} {o : Oper} {a : Act} {Q : Exit → Act → World → Prop}
/-- A load of a whole struct. -/
theorem wpList_load_at {w : World} {ty : TypeId} {x : Operand} {ad : Addr} {v : Value} (hl : (loadVar ty ad).run Tryd.prog w = .ok v w) (hgd : o.guard = none) (ho : o.op = .load ty x) (hx : a.eval x = .pointer (some ad))
    (h : wpList Tryd.prog ops Q rest (a.put o.dst v) w) : wpList Tryd.prog ops Q (o :: rest) a w := by
  refine wpList_plain hgd fun K hK => ?_
  unfold Oper.wp execOp
  simp only [ho, hx, Instr.loadAt, Instr.sureAddr, Sem.run_bind, Sem.run_pure, Result.andThen_ok, hl]
  exact hK _ _ h
/-- A load of a whole struct whose guard says yes. -/
theorem wpList_load_g {w : World} {ty : TypeId} {x : Operand} {ad : Addr} {v : Value} (hl : (loadVar ty ad).run Tryd.prog w = .ok v w) (ho : o.op = .load ty x) (hx : a.eval x = .pointer (some ad)) (hw : Region.wanted o (yielded ops a.tmps) = true)
    (h : wpList Tryd.prog ops Q rest (a.put o.dst v) w) : wpList Tryd.prog ops Q (o :: rest) a w := by
  refine BigFrame.wpList_want hw fun K hK => ?_
  unfold Oper.wp execOp
  simp only [ho, hx, Instr.loadAt, Instr.sureAddr, Sem.run_bind, Sem.run_pure, Result.andThen_ok, hl]
  exact hK _ _ h
/-- A store of a whole struct into a block. -/
theorem wpList_store_blk {w : World} {ty t : TypeId} {x y : Operand} {c c' : Array Value} {g n : Nat} (hi : (Tryd.prog.info? ty).map (·.size) = some n) (hb : w.heap[g]? = some (.cells c t (0, 0))) (hgd : o.guard = none) (ho : o.op = .store ty x y) (hx : a.eval x = .pointer (some ⟨g, 0, none⟩)) (hy : a.eval y = .agg c')
    (hn : c'.size = n) (hc : c.size = n) (h1 : c'.all (·.oneCell') = true) (h : wpList Tryd.prog ops Q rest (a.put o.dst undef) (w.setRow g c')) : wpList Tryd.prog ops Q (o :: rest) a w := by
  subst hn
  refine wpList_plain hgd fun K hK => ?_
  unfold Oper.wp execOp
  simp only [ho, hx, hy, Instr.storeAt, Instr.sureAddr, Sem.run_bind, Sem.run_pure, Result.andThen_ok, run_storeVar_row w g t ty c c' hb hi hc h1]
  exact hK _ _ h
end
theorem run_loadVar_at {P : Program} (W : World) (ad : Addr) (ty : TypeId) (cs : List Value) (d : TypeDesc) (hu : P.underlying ty = some d) (hd : (match d with | .struct _ | .array _ _ => true | _ => false) = true) (hi : (P.info? ty).map (·.size) = some cs.length)
    (h : ∀ j v, cs[j]? = some v → W.cell? (ad.add j) = some v) : (loadVar ty ad).run P W = .ok (.agg cs.toArray) W := by
  have hl := run_loadCells_list (P := P) W ad cs h
  cases hq : P.info? ty with
  | none => simp [hq] at hi
  | some i =>
    have hs : i.size = cs.length := by simpa [hq] using hi
    have hagg : (isAgg ty).run P W = .ok true W := by
      unfold isAgg
      rw [Sem.run_bind, run_underlying hu W]
      cases d <;> simp_all
    simp [loadVar, Sem.run_bind, hagg, sizeOf, typeInfo, hq, hs, hl]
theorem calls_re {f : FuncId} {args : Array Value} {V : World} {v : Value} (h : ∀ u, Calls Tryd.prog f args u (Ret v u)) : ∀ d os, Calls Tryd.prog f args (grow (redrawn V d) os) fun e w'' => e = .returned v ∧ ∃ p : Regrown, w'' = grow (redrawn V p.d) p.os :=
  fun d os => Calls.regrown_of (h _)
/-- A load of a whole struct in a region that is walked once. -/
theorem quiet_load {C : World → Prop} {K : Act → Prop} {a : Act} {o : Oper} {ty : TypeId} {x : Operand} {ad : Addr} {v : Value} (hl : ∀ w, C w → (loadVar ty ad).run Tryd.prog w = .ok v w) (ho : o.op = .load ty x) (hx : a.eval x = .pointer (some ad)) (hk : K (a.put o.dst v)) : o.quiet Tryd.prog a C K := by
  refine ⟨v, fun w hw => ?_, hk⟩
  unfold Oper.quietAt execOp
  simp only [ho, hx, Instr.loadAt, Instr.sureAddr, Sem.run_bind, Sem.run_pure, Result.andThen_ok, hl w hw]
  exact ⟨rfl, rfl⟩
theorem alloc_blk (W : World) (cs : Array Value) (t : TypeId) : (W.alloc (.cells cs t)).heap[W.heap.size]? = some (.cells cs t (0, 0)) := World.alloc_heap_new W _
theorem setRow_blk {X : World} {g : Nat} {t : TypeId} {cs : Array Value} (h : X.heap[g]? = some (.cells cs t (0, 0))) (c : Array Value) : (X.setRow g c).heap[g]? = some (.cells c t (0, 0)) := by
  simp only [World.setRow, Array.getElem?_modify, h, Option.map_some, if_true]
theorem setRow_other (X : World) {g k : Nat} (h : k ≠ g) (c : Array Value) : (X.setRow g c).heap[k]? = X.heap[k]? := by
  simp only [World.setRow, Array.getElem?_modify]
  rw [if_neg (fun e => h e.symm)]
theorem below_setRow {B : Nat} {a X : World} (h : Below B a X) {g : Nat} (hg : B ≤ g) (c : Array Value) : Below B a (X.setRow g c) :=
  ⟨h.os, h.tape, h.output, by have := h.size; simpa [World.setRow] using this, fun k hk => (setRow_other X (by omega) c).trans (h.block k hk)⟩
theorem Kx.row {w X : World} {g : Nat} {t : TypeId} {cs : Array Value} (h : Kx w g X t cs) (c : Array Value) : Kx w g (X.setRow g c) t c :=
  ⟨h.ge, setRow_blk h.blk c, below_setRow h.below h.ge c⟩
theorem Kx.farRow {w X : World} {g b : Nat} {t : TypeId} {cs : Array Value} (h : Kx w g X t cs) (hne : g ≠ b) (hb : w.heap.size ≤ b) (c : Array Value) : Kx w g (X.setRow b c) t cs :=
  ⟨h.ge, (setRow_other X hne c).trans h.blk, below_setRow h.below hb c⟩
theorem size_alloc14 (w : World) (o : Obj) : (w.alloc o).heap.size = w.heap.size + 1 := by simp
theorem size_setRow (w : World) (g : Nat) (c : Array Value) : (w.setRow g c).heap.size = w.heap.size := by simp [World.setRow]

theorem Tryd.sizeMv : (Tryd.prog.info? 26).map (·.size) = some 3 := by kernel_rfl
theorem Tryd.sizeEg : (Tryd.prog.info? 28).map (·.size) = some 4 := by kernel_rfl
theorem Tryd.zeroMv (w : World) : (zeroValue 26).run Tryd.prog w = .ok (.agg (mvA mv0)) w :=
  (zero_of_info (n := 3) (show (Tryd.prog.info? 26).map (fun i => (i.zero, i.size)) = some (some (.agg (mvA mv0)), 3) by kernel_rfl)).1 w
def eg0 : Eg := ⟨0, 0, 0, 0⟩
theorem Tryd.zeroEg (w : World) : (zeroValue 28).run Tryd.prog w = .ok (.agg (egA eg0)) w :=
  (zero_of_info (n := 4) (show (Tryd.prog.info? 28).map (fun i => (i.zero, i.size)) = some (some (.agg (egA eg0)), 4) by kernel_rfl)).1 w
theorem loadVar_mv {W : World} {g : Nat} {m : Mv} (hb : W.heap[g]? = some (.cells (mvA m) 26 (0, 0))) : (loadVar 26 ⟨g, 0, none⟩).run Tryd.prog W = .ok (.agg (mvA m)) W :=
  run_loadVar_row _ _ _ _ _ (0, 0) _ hb Tryd.underlying26 rfl Tryd.sizeMv
theorem loadVar_eg {W : World} {g : Nat} {E : Eg} (hb : W.heap[g]? = some (.cells (egA E) 28 (0, 0))) : (loadVar 28 ⟨g, 0, none⟩).run Tryd.prog W = .ok (.agg (egA E)) W :=
  run_loadVar_row _ _ _ _ _ (0, 0) _ hb Tryd.underlying28 rfl Tryd.sizeEg
/-- The cells of a block. -/
theorem Kx.eg {w X : World} {g : Nat} {E : Eg} {t : TypeId} (h : Kx w g X t (egA E)) :
    X.cell? ⟨g, 0, none⟩ = some (.int .i64 E.s) ∧ X.cell? ⟨g, 1, none⟩ = some (.int .i64 E.t) ∧ X.cell? ⟨g, 2, none⟩ = some (.int .i64 E.w) ∧ X.cell? ⟨g, 3, none⟩ = some (.int .i64 E.h) :=
  ⟨h.cell 0 rfl, h.cell 1 rfl, h.cell 2 rfl, h.cell 3 rfl⟩
theorem Kx.mv {w X : World} {g : Nat} {m : Mv} {t : TypeId} (h : Kx w g X t (mvA m)) :
    X.cell? ⟨g, 0, none⟩ = some (.int .i64 m.x) ∧ X.cell? ⟨g, 1, none⟩ = some (.int .i64 m.y) ∧ X.cell? ⟨g, 2, none⟩ = some (.int .i64 m.a) :=
  ⟨h.cell 0 rfl, h.cell 1 rfl, h.cell 2 rfl⟩

/-! ### '==' -/
/-- Are two movers the same? -/
def eqM (m n : Mv) : Bool := m.x == n.x && (m.y == n.y && m.a == n.a)
theorem eqM_iff (m n : Mv) : eqM m n = true ↔ m = n := by
  cases m; cases n
  simp [eqM]
theorem eqM_self (m : Mv) : eqM m m = true := (eqM_iff m m).2 rfl
theorem held_mv : Tryd.prog.stoodInHeld 26 = false := by kernel_rfl
theorem part_mv (m : Mv) (w : World) : (part 2 (mvA m) 0).run Tryd.prog w = .ok (.int .i64 m.x) w ∧ (part 2 (mvA m) 1).run Tryd.prog w = .ok (.int .i64 m.y) w ∧ (part 2 (mvA m) 2).run Tryd.prog w = .ok (.int .i64 m.a) w := by
  have a3 := Tryd.isAgg2
  refine ⟨?_, ?_, ?_⟩ <;> simp [part, Sem.run_bind, mvA]
theorem eq_i (d : Nat) (x y : Int) (w : World) : (Op.equalIn (d + 1) 2 (.int .i64 x) (.int .i64 y)).run Tryd.prog w = .ok (x == y) w := by
  rw [Op.equalIn]
  simp only [Sem.run_bind, run_underlying Tryd.underlying2, Result.andThen_ok]
  simp
theorem eq_mv (m n : Mv) (w : World) : (Op.equalIn 10000 26 (.agg (mvA m)) (.agg (mvA n))).run Tryd.prog w = .ok (eqM m n) w := by
  have e1 : ∀ x y, (Op.equalIn 9999 2 (.int .i64 x) (.int .i64 y)).run Tryd.prog w = .ok (x == y) w := fun x y => eq_i 9998 x y w
  have p1 := part_mv m w
  have p2 := part_mv n w
  rw [show (10000 : Nat) = 9999 + 1 from rfl, Op.equalIn]
  simp only [Sem.run_bind, run_underlying Tryd.underlying26, Result.andThen_ok, run_program, held_mv, Bool.false_eq_true, if_false, Array.forIn_toList.symm, List.forIn_cons, List.forIn_nil, p1, p2, e1, eqM, ne_eq, String.reduceEq, not_false_eq_true, if_true]
  cases h1 : m.x == n.x <;> cases h2 : m.y == n.y <;> cases h3 : m.a == n.a <;> simp [p1, p2, e1, h2, h3]
theorem run_eql (m n : Mv) (w : World) : (binOp .eql 26 (.agg (mvA m)) (.agg (mvA n))).run Tryd.prog w = .ok (.bool (eqM m n)) w := by
  simp [binOp, Op.equal, Op.maxDepth, eq_mv]
theorem guard_run (b : BinOp) (x y : Operand) (u v : Array Value) (w : World) : (eqGuard b 26 x y (.agg u) (.agg v)).run Tryd.prog w = .ok () w := by
  unfold eqGuard
  split <;> simp [run_program]
theorem quiet_cmp {C : World → Prop} {K : Act → Prop} {a : Act} {o : Oper} {b : BinOp} {tr : TypeId} {x y : Operand} {u v : Array Value} {r : Value} (hl : ∀ w, (binOp b 26 (.agg u) (.agg v)).run Tryd.prog w = .ok r w) (ho : o.op = .binOp b 26 x y tr) (hx : a.eval x = .agg u) (hy : a.eval y = .agg v) (hk : K (a.put o.dst r)) : o.quiet Tryd.prog a C K := by
  refine ⟨r, fun w hw => ?_, hk⟩
  unfold Oper.quietAt execOp
  simp only [ho, hx, hy, Sem.run_bind, guard_run, hl, Result.andThen_ok, Sem.run_pure]
  exact ⟨rfl, rfl⟩
section
variable {ops : Array Oper} {rest : List Oper} {o : Oper} {a : Act} {Q : Exit → Act → World → Prop}
/-- Two movers compared. -/
theorem wpList_cmp {w : World} {b : BinOp} {tr : TypeId} {x y : Operand} {u v : Array Value} {r : Value} (hl : ∀ w, (binOp b 26 (.agg u) (.agg v)).run Tryd.prog w = .ok r w) (hgd : o.guard = none) (ho : o.op = .binOp b 26 x y tr) (hx : a.eval x = .agg u) (hy : a.eval y = .agg v)
    (h : wpList Tryd.prog ops Q rest (a.put o.dst r) w) : wpList Tryd.prog ops Q (o :: rest) a w := by
  refine wpList_plain hgd fun K hK => ?_
  unfold Oper.wp execOp
  simp only [ho, hx, hy, Sem.run_bind, guard_run, hl, Result.andThen_ok, Sem.run_pure]
  exact hK _ _ h
/-- Two movers compared, under a guard that says yes. -/
theorem wpList_cmp_g {w : World} {b : BinOp} {tr : TypeId} {x y : Operand} {u v : Array Value} {r : Value} (hl : ∀ w, (binOp b 26 (.agg u) (.agg v)).run Tryd.prog w = .ok r w) (ho : o.op = .binOp b 26 x y tr) (hx : a.eval x = .agg u) (hy : a.eval y = .agg v) (hw : Region.wanted o (yielded ops a.tmps) = true)
    (h : wpList Tryd.prog ops Q rest (a.put o.dst r) w) : wpList Tryd.prog ops Q (o :: rest) a w := by
  refine BigFrame.wpList_want hw fun K hK => ?_
  unfold Oper.wp execOp
  simp only [ho, hx, hy, Sem.run_bind, guard_run, hl, Result.andThen_ok, Sem.run_pure]
  exact hK _ _ h
end

/-- A mover's box and, behind it, an engine's: what a function that takes both begins with. -/
structure Bm (w W : World) (m : Mv) (E : Eg) : Prop where
  m : Kx w w.heap.size W 26 (mvA m)
  e : Kx w (w.heap.size + 1) W 28 (egA E)
theorem Bm.new (w : World) (m : Mv) (E : Eg) : Bm w ((w.alloc (.cells (mvA m) 26)).alloc (.cells (egA E) 28)) m E := by
  refine ⟨(Kx.new w _ _).alloc _, ?_⟩
  have := Kx.next (below_box (w := w) (.cells (mvA m) 26)) 28 (egA E)
  rwa [size_alloc14] at this
theorem Bm.keep {w W V : World} {m : Mv} {E : Eg} (h : Bm w W m E) (hb : Below W.heap.size W V) : Bm w V m E := ⟨h.m.keep hb, h.e.keep hb⟩
theorem Bm.alloc {w W : World} {m : Mv} {E : Eg} (h : Bm w W m E) (o : Obj) : Bm w (W.alloc o) m E := h.keep (below_box o)
theorem Bm.lt {w W : World} {m : Mv} {E : Eg} (h : Bm w W m E) : w.heap.size + 2 ≤ W.heap.size := h.e.lt
/-- The same, with the box of what is handed back. -/
structure Bn (w W : World) (m : Mv) (E : Eg) (r : Mv) : Prop where
  m : Kx w w.heap.size W 26 (mvA m)
  e : Kx w (w.heap.size + 1) W 28 (egA E)
  r : Kx w (w.heap.size + 2) W 26 (mvA r)
theorem Bn.new (w : World) (m : Mv) (E : Eg) (r : Mv) : Bn w (((w.alloc (.cells (mvA m) 26)).alloc (.cells (egA E) 28)).alloc (.cells (mvA r) 26)) m E r := by
  have B := (Bm.new w m E).alloc (.cells (mvA r) 26)
  refine ⟨B.m, B.e, ?_⟩
  have := Kx.next (Bm.new w m E).m.below 26 (mvA r)
  rwa [size_alloc14, size_alloc14] at this
theorem Bn.new0 (w : World) (m : Mv) (E : Eg) : Bn w (((w.alloc (.cells (mvA m) 26)).alloc (.cells (egA E) 28)).alloc (.cells #[.int .i64 0, .int .i64 0, .int .i64 0] 26)) m E mv0 := Bn.new w m E mv0
theorem Bn.keep {w W V : World} {m r : Mv} {E : Eg} (h : Bn w W m E r) (hb : Below W.heap.size W V) : Bn w V m E r := ⟨h.m.keep hb, h.e.keep hb, h.r.keep hb⟩
theorem Bn.drewN {w W : World} {m r : Mv} {E : Eg} (h : Bn w W m E r) (k : Nat) : Bn w (W.drewN k) m E r := ⟨h.m.drewN k, h.e.drewN k, h.r.drewN k⟩
theorem Bn.below {w W : World} {m r : Mv} {E : Eg} (h : Bn w W m E r) : Below w.heap.size w W := h.m.below
theorem Bn.alloc {w W : World} {m r : Mv} {E : Eg} (h : Bn w W m E r) (o : Obj) : Bn w (W.alloc o) m E r := h.keep (below_box o)
theorem Bn.lt {w W : World} {m r : Mv} {E : Eg} (h : Bn w W m E r) : w.heap.size + 3 ≤ W.heap.size := h.r.lt
theorem Bn.setX {w W : World} {m r : Mv} {E : Eg} (h : Bn w W m E r) (v : Int) : Bn w (W.setCell ⟨w.heap.size, 0, none⟩ (.int .i64 v)) ⟨v, m.y, m.a⟩ E r :=
  ⟨h.m.set 0 _, h.e.far (by omega) (Nat.le_refl _) _ _, h.r.far (by omega) (Nat.le_refl _) _ _⟩
theorem Bn.setY {w W : World} {m r : Mv} {E : Eg} (h : Bn w W m E r) (v : Int) : Bn w (W.setCell ⟨w.heap.size, 1, none⟩ (.int .i64 v)) ⟨m.x, v, m.a⟩ E r :=
  ⟨h.m.set 1 _, h.e.far (by omega) (Nat.le_refl _) _ _, h.r.far (by omega) (Nat.le_refl _) _ _⟩
theorem Bn.setA {w W : World} {m r : Mv} {E : Eg} (h : Bn w W m E r) (v : Int) : Bn w (W.setCell ⟨w.heap.size, 2, none⟩ (.int .i64 v)) ⟨m.x, m.y, v⟩ E r :=
  ⟨h.m.set 2 _, h.e.far (by omega) (Nat.le_refl _) _ _, h.r.far (by omega) (Nat.le_refl _) _ _⟩
theorem Bn.setR {w W : World} {m r : Mv} {E : Eg} (h : Bn w W m E r) (n : Mv) : Bn w (W.setRow (w.heap.size + 2) (mvA n)) m E n :=
  ⟨h.m.farRow (by omega) (by omega) _, h.e.farRow (by omega) (by omega) _, h.r.row _⟩
theorem Bn.setM {w W : World} {m r : Mv} {E : Eg} (h : Bn w W m E r) (n : Mv) : Bn w (W.setRow w.heap.size (mvA n)) n E r :=
  ⟨h.m.row _, h.e.farRow (by omega) (by omega) _, h.r.farRow (by omega) (by omega) _⟩
theorem results_mv {fn : Func} {p : Tmp} (h : fn.results = #[.cell p 26]) (tmps : Array Value) {w : World} {g : Nat} {m : Mv} (hp : tmps.getD p undef = .pointer (some ⟨g, 0, none⟩)) (hb : w.heap[g]? = some (.cells (mvA m) 26 (0, 0))) :
    (results fn tmps).run Tryd.prog w = .ok (.agg (mvA m)) w :=
  results_cell_row h tmps w g _ _ (0, 0) _ hp hb Tryd.underlying26 rfl Tryd.sizeMv
theorem results_mv1 {fn : Func} {p u : Tmp} (h : fn.results = #[.cell p 26, .tmp u]) (tmps : Array Value) {w : World} {g : Nat} {m : Mv} (hp : tmps.getD p undef = .pointer (some ⟨g, 0, none⟩)) (hb : w.heap[g]? = some (.cells (mvA m) 26 (0, 0))) :
    (results fn tmps).run Tryd.prog w = .ok (.tuple #[.agg (mvA m), tmps.getD u undef]) w := by
  rw [results_cell_tmp h, hp]
  simp only [asAddr, Sem.run_pure, Result.andThen_ok, loadVar_mv hb]
theorem results_mv2 {fn : Func} {p u v : Tmp} (h : fn.results = #[.cell p 26, .tmp u, .tmp v]) (tmps : Array Value) {w : World} {g : Nat} {m : Mv} (hp : tmps.getD p undef = .pointer (some ⟨g, 0, none⟩)) (hb : w.heap[g]? = some (.cells (mvA m) 26 (0, 0))) :
    (results fn tmps).run Tryd.prog w = .ok (.tuple #[.agg (mvA m), tmps.getD u undef, tmps.getD v undef]) w := by
  have hp' : tmps[p]?.getD undef = .pointer (some ⟨g, 0, none⟩) := by simpa using hp
  have hl := loadVar_mv hb
  simp only [results, h]
  simp [Result.andThen, hp', asAddr, hl]
end Go.Proofs.YtckeplbmkjoiaaaDoor
