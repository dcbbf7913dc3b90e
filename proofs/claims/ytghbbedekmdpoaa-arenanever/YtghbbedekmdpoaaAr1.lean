/- Arenas in memory, whole and by places: loads, stores, '=='. -/
import Derived.Test.YtghbbedekmdpoaaArMath
import Derived.Deep.WholeRow
import Derived.Lib.QuietBelow
import Derived.Deep.QuietTactic
import Derived.BigQuiet
namespace Go.Proofs.Ytghbbedekmdpoaa
open Go.RowKit Go.Sort
set_option linter.unusedVariables false

theorem run_loadVar_at {P : Program} (W : World) (ad : Addr) (ty : TypeId) (cs : List Value) (d : TypeDesc) (hu : P.underlying ty = some d) (hd : (match d with | .struct _ | .array _ _ => true | _ => false) = true) (hi : (P.info? ty).map (·.size) = some cs.length)
    (h : ∀ j v, cs[j]? = some v → W.cell? (ad.add j) = some v) : (loadVar ty ad).run P W = .ok (.agg cs.toArray) W := by
  have hl := run_loadCells_list (P := P) W ad cs h
  cases hq : P.info? ty with
  | none => simp [hq] at hi
  | some i =>
    have hs : i.size = cs.length := by simpa [hq] using hi
    have hagg : (isAgg ty).run P W = .ok true W := by
      unfold isAgg
      rw [Sem.run_bind, run_underlying hu W]
      cases d <;> simp_all
    simp [loadVar, Sem.run_bind, hagg, sizeOf, typeInfo, hq, hs, hl]

section
variable {ops : Array Oper} {rest : List Oper} {o : Oper} {a : Act} {Q : Exit → Act → World → Prop}
/-- A load of a whole struct. -/
theorem wpList_load_at {w : World} {ty : TypeId} {x : Operand} {ad : Addr} {v : Value} (hl : (loadVar ty ad).run Try.prog w = .ok v w) (hgd : o.guard = none) (ho : o.op = .load ty x) (hx : a.eval x = .pointer (some ad))
    (h : wpList Try.prog ops Q rest (a.put o.dst v) w) : wpList Try.prog ops Q (o :: rest) a w := by
  refine wpList_plain hgd fun K hK => ?_
  unfold Oper.wp execOp
  simp only [ho, hx, Instr.loadAt, Instr.sureAddr, Sem.run_bind, Sem.run_pure, Result.andThen_ok, hl]
  exact hK _ _ h
/-- A store of a whole struct into a block. -/
theorem wpList_store_blk {w : World} {ty t : TypeId} {x y : Operand} {c c' : Array Value} {g n : Nat} (hi : (Try.prog.info? ty).map (·.size) = some n) (hb : w.heap[g]? = some (.cells c t (0, 0))) (hgd : o.guard = none) (ho : o.op = .store ty x y) (hx : a.eval x = .pointer (some ⟨g, 0, none⟩)) (hy : a.eval y = .agg c')
    (hn : c'.size = n) (hc : c.size = n) (h1 : c'.all (·.oneCell') = true) (h : wpList Try.prog ops Q rest (a.put o.dst undef) (w.setRow g c')) : wpList Try.prog ops Q (o :: rest) a w := by
  subst hn
  refine wpList_plain hgd fun K hK => ?_
  unfold Oper.wp execOp
  simp only [ho, hx, hy, Instr.storeAt, Instr.sureAddr, Sem.run_bind, Sem.run_pure, Result.andThen_ok, run_storeVar_row w g t ty c c' hb hi hc h1]
  exact hK _ _ h
end
theorem calls_re {f : FuncId} {args : Array Value} {V : World} {v : Value} (h : ∀ u, Calls Try.prog f args u (Ret v u)) : ∀ d os, Calls Try.prog f args (grow (redrawn V d) os) fun e w'' => e = .returned v ∧ ∃ p : Regrown, w'' = grow (redrawn V p.d) p.os :=
  fun d os => Calls.regrown_of (h _)
/-- A load of a whole struct in a region that is walked once. -/
theorem quiet_load {C : World → Prop} {K : Act → Prop} {a : Act} {o : Oper} {ty : TypeId} {x : Operand} {ad : Addr} {v : Value} (hl : ∀ w, C w → (loadVar ty ad).run Try.prog w = .ok v w) (ho : o.op = .load ty x) (hx : a.eval x = .pointer (some ad)) (hk : K (a.put o.dst v)) : o.quiet Try.prog a C K := by
  refine ⟨v, fun w hw => ?_, hk⟩
  unfold Oper.quietAt execOp
  simp only [ho, hx, Instr.loadAt, Instr.sureAddr, Sem.run_bind, Sem.run_pure, Result.andThen_ok, hl w hw]
  exact ⟨rfl, rfl⟩

theorem Try.sizeAr : (Try.prog.info? 25).map (·.size) = some 128 := by kernel_rfl
theorem Try.sizeTs : (Try.prog.info? 22).map (·.size) = some 64 := by kernel_rfl
theorem Try.sizeLs : (Try.prog.info? 23).map (·.size) = some 64 := by kernel_rfl
/-- The empty arena. -/
def ar0 : Array Value := ar (fun _ => 0) (fun _ => false)
theorem Try.zeroAr (w : World) : (zeroValue 25).run Try.prog w = .ok (.agg ar0) w :=
  (zero_of_info (n := 128) (show (Try.prog.info? 25).map (fun i => (i.zero, i.size)) = some (some (.agg ar0), 128) by kernel_rfl)).1 w
theorem loadVar_ar {W : World} {g : Nat} {T : Nat → Int} {L : Nat → Bool} (hb : W.heap[g]? = some (.cells (ar T L) 25 (0, 0))) : (loadVar 25 ⟨g, 0, none⟩).run Try.prog W = .ok (.agg (ar T L)) W :=
  run_loadVar_row _ _ _ _ _ (0, 0) _ hb Try.underlying25 rfl (by rw [ar_size]; exact Try.sizeAr)
theorem loadVar_ts {W : World} {g : Nat} {T : Nat → Int} {L : Nat → Bool} (hb : W.heap[g]? = some (.cells (ar T L) 25 (0, 0))) : (loadVar 22 ⟨g, 0, none⟩).run Try.prog W = .ok (.agg (arT T).toArray) W := by
  refine run_loadVar_at W ⟨g, 0, none⟩ 22 (arT T) _ Try.underlying22 rfl (by rw [arT_len]; exact Try.sizeTs) (fun j v hv => ?_)
  have hadd : (⟨g, 0, none⟩ : Addr).add j = ⟨g, j, none⟩ := by unfold Addr.add; split <;> simp_all
  have hj : j < 64 := by
    rcases Nat.lt_or_ge j 64 with h | h
    · exact h
    · rw [List.getElem?_eq_none (by rw [arT_len]; exact h)] at hv; cases hv
  rw [hadd, cell_of_row W g j _ _ (0, 0) hb, ar_t T L hj, ← hv, arT_at T hj]
theorem loadVar_ls {W : World} {g : Nat} {T : Nat → Int} {L : Nat → Bool} (hb : W.heap[g]? = some (.cells (ar T L) 25 (0, 0))) : (loadVar 23 ⟨g, 64, none⟩).run Try.prog W = .ok (.agg (arL L).toArray) W := by
  refine run_loadVar_at W ⟨g, 64, none⟩ 23 (arL L) _ Try.underlying23 rfl (by rw [arL_len]; exact Try.sizeLs) (fun j v hv => ?_)
  have hadd : (⟨g, 64, none⟩ : Addr).add j = ⟨g, 64 + j, none⟩ := by unfold Addr.add; split <;> simp_all
  have hj : j < 64 := by
    rcases Nat.lt_or_ge j 64 with h | h
    · exact h
    · rw [List.getElem?_eq_none (by rw [arL_len]; exact h)] at hv; cases hv
  rw [hadd, cell_of_row W g (64 + j) _ _ (0, 0) hb, ar_l T L hj, ← hv, arL_at L hj]
theorem alloc_blk (W : World) (cs : Array Value) (t : TypeId) : (W.alloc (.cells cs t)).heap[W.heap.size]? = some (.cells cs t (0, 0)) := World.alloc_heap_new W _

/-! ### '==' -/
theorem held_ar : Try.prog.stoodInHeld 25 = false := by kernel_rfl
theorem guard_ar : Try.prog.eqGuardType Try.prog.depth 25 = false := by kernel_rfl
/-- A loop that goes on as long as what it meets is the same. -/
theorem run_all {P : Program} (w : World) (f : Nat → Option Bool × PUnit → Sem (ForInStep (Option Bool × PUnit))) (b : Nat → Bool) (n : Nat) : ∀ s, (∀ i, s ≤ i → i < s + n → (f i (none, ())).run P w = .ok (if b i then .yield (none, ()) else .done (some false, ())) w) →
    (forIn (List.range' s n) (none, ()) f).run P w = .ok (if (List.range' s n).all b then (none, ()) else (some false, ())) w := by
  induction n with
  | zero => intro s h; simp
  | succ n ih =>
    intro s h
    rw [List.range'_succ, List.forIn_cons, Sem.run_bind, h s (Nat.le_refl _) (by omega)]
    cases e : b s
    · simp [e]
    · simp only [Result.andThen_ok, if_true, List.all_cons, e, Bool.true_and]
      exact ih (s + 1) (fun i h1 h2 => h i (by omega) (by omega))
theorem run_all64 {P : Program} (w : World) (f : Nat → Option Bool × PUnit → Sem (ForInStep (Option Bool × PUnit))) (b : Nat → Bool) (h : ∀ i, i < 64 → (f i (none, ())).run P w = .ok (if b i then .yield (none, ()) else .done (some false, ())) w) :
    (forIn (List.range' 0 64) (none, ()) f).run P w = .ok (if (List.range 64).all b then (none, ()) else (some false, ())) w := by
  rw [List.range_eq_range']
  exact run_all w f b 64 0 (fun i _ h2 => h i (by omega))
theorem part_ts (T : Nat → Int) (w : World) {i : Nat} (hi : i < 64) : (part 3 (arT T).toArray i).run Try.prog w = .ok (.int .i64 (T i)) w := by
  have a3 := Try.isAgg3
  simp [part, Sem.run_bind, arT_at T hi]
theorem part_ls (L : Nat → Bool) (w : World) {i : Nat} (hi : i < 64) : (part 4 (arL L).toArray i).run Try.prog w = .ok (.bool (L i)) w := by
  have a3 := Try.isAgg4
  simp [part, Sem.run_bind, arL_at L hi]
theorem eq_i (d : Nat) (x y : Int) (w : World) : (Op.equalIn (d + 1) 3 (.int .i64 x) (.int .i64 y)).run Try.prog w = .ok (x == y) w := by
  rw [Op.equalIn]
  simp only [Sem.run_bind, run_underlying Try.underlying3, Result.andThen_ok]
  simp
theorem eq_b (d : Nat) (x y : Bool) (w : World) : (Op.equalIn (d + 1) 4 (.bool x) (.bool y)).run Try.prog w = .ok (x == y) w := by
  rw [Op.equalIn]
  simp only [Sem.run_bind, run_underlying Try.underlying4, Result.andThen_ok]
  simp
theorem eq_ts (d : Nat) (T T' : Nat → Int) (w : World) : (Op.equalIn (d + 2) 22 (.agg (arT T).toArray) (.agg (arT T').toArray)).run Try.prog w = .ok ((List.range 64).all fun i => T i == T' i) w := by
  rw [Op.equalIn]
  simp only [Sem.run_bind, run_underlying Try.underlying22, Result.andThen_ok, Try.sizeOf3, Nat.mul_one]
  simp only [Std.Legacy.Range.forIn_eq_forIn_range', Std.Legacy.Range.size, Nat.sub_zero, Nat.add_sub_cancel, Nat.div_one]
  rw [run_all64 w _ (fun i => T i == T' i) (fun i hi => by
    simp only [Sem.run_bind, part_ts T w hi, part_ts T' w hi, Result.andThen_ok, eq_i]
    cases T i == T' i <;> rfl)]
  cases (List.range 64).all fun i => T i == T' i <;> rfl
theorem eq_ls (d : Nat) (L L' : Nat → Bool) (w : World) : (Op.equalIn (d + 2) 23 (.agg (arL L).toArray) (.agg (arL L').toArray)).run Try.prog w = .ok ((List.range 64).all fun i => L i == L' i) w := by
  rw [Op.equalIn]
  simp only [Sem.run_bind, run_underlying Try.underlying23, Result.andThen_ok, Try.sizeOf4, Nat.mul_one]
  simp only [Std.Legacy.Range.forIn_eq_forIn_range', Std.Legacy.Range.size, Nat.sub_zero, Nat.add_sub_cancel, Nat.div_one]
  rw [run_all64 w _ (fun i => L i == L' i) (fun i hi => by
    simp only [Sem.run_bind, part_ls L w hi, part_ls L' w hi, Result.andThen_ok, eq_b]
    cases L i == L' i <;> rfl)]
  cases (List.range 64).all fun i => L i == L' i <;> rfl
theorem ar_fst (T : Nat → Int) (L : Nat → Bool) : (ar T L).extract 0 64 = (arT T).toArray := by
  apply Array.ext_getElem?
  intro i
  simp only [ar, List.extract_toArray, List.getElem?_toArray, List.extract]
  rw [List.drop_zero, Nat.sub_zero, List.take_append_of_le_length (by rw [arT_len]; omega), List.take_of_length_le (by rw [arT_len]; omega)]
theorem ar_snd (T : Nat → Int) (L : Nat → Bool) : (ar T L).extract 64 128 = (arL L).toArray := by
  apply Array.ext_getElem?
  intro i
  simp only [ar, List.extract_toArray, List.getElem?_toArray, List.extract]
  rw [show (64 : Nat) = (arT T).length from (arT_len T).symm, List.drop_left, List.take_of_length_le (by rw [arT_len, arL_len]; omega)]
theorem part_fst (T : Nat → Int) (L : Nat → Bool) (w : World) : (part 22 (ar T L) 0).run Try.prog w = .ok (.agg (arT T).toArray) w := by
  simp only [part, Sem.run_bind, Try.isAgg22, Try.sizeOf22, Result.andThen_ok, if_true, Sem.run_pure, Nat.zero_add, ar_fst]
theorem part_snd (T : Nat → Int) (L : Nat → Bool) (w : World) : (part 23 (ar T L) 64).run Try.prog w = .ok (.agg (arL L).toArray) w := by
  simp only [part, Sem.run_bind, Try.isAgg23, Try.sizeOf23, Result.andThen_ok, if_true, Sem.run_pure, show (64 : Nat) + 64 = 128 from rfl, ar_snd]
theorem eq_ar (T T' : Nat → Int) (L L' : Nat → Bool) (w : World) : (Op.equalIn 10000 25 (.agg (ar T L)) (.agg (ar T' L'))).run Try.prog w = .ok (eqA T L T' L') w := by
  rw [show (10000 : Nat) = 9997 + 3 from rfl, Op.equalIn]
  simp only [Sem.run_bind, run_underlying Try.underlying25, Result.andThen_ok, run_program, held_ar, Bool.false_eq_true, if_false, Array.forIn_toList.symm, List.forIn_cons, List.forIn_nil, part_fst, eq_ts, eqA, ne_eq, String.reduceEq, not_false_eq_true, if_true]
  have e2 : (Op.equalIn 9999 23 (.agg (arL L).toArray) (.agg (arL L').toArray)).run Try.prog w = .ok ((List.range 64).all fun i => L i == L' i) w := eq_ls 9997 L L' w
  cases h1 : (List.range 64).all fun i => T i == T' i <;> cases h2 : (List.range 64).all fun i => L i == L' i <;> simp [part_snd, e2, h2]
theorem run_eql (T T' : Nat → Int) (L L' : Nat → Bool) (w : World) : (binOp .eql 25 (.agg (ar T L)) (.agg (ar T' L'))).run Try.prog w = .ok (.bool (eqA T L T' L')) w := by
  simp [binOp, Op.equal, Op.maxDepth, eq_ar]
theorem run_neq (T T' : Nat → Int) (L L' : Nat → Bool) (w : World) : (binOp .neq 25 (.agg (ar T L)) (.agg (ar T' L'))).run Try.prog w = .ok (.bool (!eqA T L T' L')) w := by
  simp [binOp, Op.equal, Op.maxDepth, eq_ar]
theorem guard_run (b : BinOp) (x y : Operand) (u v : Array Value) (w : World) : (eqGuard b 25 x y (.agg u) (.agg v)).run Try.prog w = .ok () w := by
  unfold eqGuard
  split <;> simp [run_program]
theorem quiet_cmp {C : World → Prop} {K : Act → Prop} {a : Act} {o : Oper} {b : BinOp} {tr : TypeId} {x y : Operand} {u v : Array Value} {r : Value} (hl : ∀ w, (binOp b 25 (.agg u) (.agg v)).run Try.prog w = .ok r w) (ho : o.op = .binOp b 25 x y tr) (hx : a.eval x = .agg u) (hy : a.eval y = .agg v) (hk : K (a.put o.dst r)) : o.quiet Try.prog a C K := by
  refine ⟨r, fun w hw => ?_, hk⟩
  unfold Oper.quietAt execOp
  simp only [ho, hx, hy, Sem.run_bind, guard_run, hl, Result.andThen_ok, Sem.run_pure]
  exact ⟨rfl, rfl⟩
section
variable {ops : Array Oper} {rest : List Oper} {o : Oper} {a : Act} {Q : Exit → Act → World → Prop}
/-- Two arenas compared. -/
theorem wpList_cmp {w : World} {b : BinOp} {tr : TypeId} {x y : Operand} {u v : Array Value} {r : Value} (hl : ∀ w, (binOp b 25 (.agg u) (.agg v)).run Try.prog w = .ok r w) (hgd : o.guard = none) (ho : o.op = .binOp b 25 x y tr) (hx : a.eval x = .agg u) (hy : a.eval y = .agg v)
    (h : wpList Try.prog ops Q rest (a.put o.dst r) w) : wpList Try.prog ops Q (o :: rest) a w := by
  refine wpList_plain hgd fun K hK => ?_
  unfold Oper.wp execOp
  simp only [ho, hx, hy, Sem.run_bind, guard_run, hl, Result.andThen_ok, Sem.run_pure]
  exact hK _ _ h
end
end Go.Proofs.Ytghbbedekmdpoaa
