/- Whole structs loaded and stored in one step. -/
import Derived.Test.YtpgifcgidelmaaaKd3
import Derived.Deep.WholeRow
namespace Go.Proofs.Ytpgifcgidelmaaa
open Go.RowKit
set_option linter.unusedVariables false

theorem run_loadVar_at {P : Program} (W : World) (ad : Addr) (ty : TypeId) (cs : List Value) (d : TypeDesc) (hu : P.underlying ty = some d) (hd : (match d with | .struct _ | .array _ _ => true | _ => false) = true) (hi : (P.info? ty).map (·.size) = some cs.length)
    (h : ∀ j v, cs[j]? = some v → W.cell? (ad.add j) = some v) : (loadVar ty ad).run P W = .ok (.agg cs.toArray) W := by
  have hl := run_loadCells_list (P := P) W ad cs h
  cases hq : P.info? ty with
  | none => simp [hq] at hi
  | some i =>
    have hs : i.size = cs.length := by simpa [hq] using hi
    have hagg : (isAgg ty).run P W = .ok true W := by
      unfold isAgg
      rw [Sem.run_bind, run_underlying hu W]
      cases d <;> simp_all
    simp [loadVar, Sem.run_bind, hagg, sizeOf, typeInfo, hq, hs, hl]

section
variable {ops : Array Oper} {rest : List Oper} {o : Oper} {a : Act} {Q : Exit → Act → World → Prop}
/-- A load of a whole struct. -/
theorem wpList_load_at {w : World} {ty : TypeId} {x : Operand} {ad : Addr} {v : Value} (hl : (loadVar ty ad).run Try.prog w = .ok v w) (hgd : o.guard = none) (ho : o.op = .load ty x) (hx : a.eval x = .pointer (some ad))
    (h : wpList Try.prog ops Q rest (a.put o.dst v) w) : wpList Try.prog ops Q (o :: rest) a w := by
  refine wpList_plain hgd fun K hK => ?_
  unfold Oper.wp execOp
  simp only [ho, hx, Instr.loadAt, Instr.sureAddr, Sem.run_bind, Sem.run_pure, Result.andThen_ok, hl]
  exact hK _ _ h
/-- A store of a whole struct into a block that was made last. -/
theorem wpList_store_new {w : World} {ty : TypeId} {x y : Operand} {c c' : Array Value} {g n : Nat} (hi : (Try.prog.info? ty).map (·.size) = some n) (hgd : o.guard = none) (ho : o.op = .store ty x y) (hg : w.heap.size = g) (hx : a.eval x = .pointer (some ⟨g, 0, none⟩)) (hy : a.eval y = .agg c')
    (hn : c'.size = n) (hc : c.size = n) (h1 : c'.all (·.oneCell') = true) (h : wpList Try.prog ops Q rest (a.put o.dst undef) (w.alloc (.cells c' ty))) : wpList Try.prog ops Q (o :: rest) a (w.alloc (.cells c ty)) := by
  subst hg hn
  refine wpList_plain hgd fun K hK => ?_
  unfold Oper.wp execOp
  simp only [ho, hx, hy, Instr.storeAt, Instr.sureAddr, Sem.run_bind, Sem.run_pure, Result.andThen_ok, run_storeVar_new w ty c c' hi hc h1]
  exact hK _ _ h
/-- A store of a whole struct into a block. -/
theorem wpList_store_blk {w : World} {ty t : TypeId} {x y : Operand} {c c' : Array Value} {g n : Nat} (hi : (Try.prog.info? ty).map (·.size) = some n) (hb : w.heap[g]? = some (.cells c t (0, 0))) (hgd : o.guard = none) (ho : o.op = .store ty x y) (hx : a.eval x = .pointer (some ⟨g, 0, none⟩)) (hy : a.eval y = .agg c')
    (hn : c'.size = n) (hc : c.size = n) (h1 : c'.all (·.oneCell') = true) (h : wpList Try.prog ops Q rest (a.put o.dst undef) (w.setRow g c')) : wpList Try.prog ops Q (o :: rest) a w := by
  subst hn
  refine wpList_plain hgd fun K hK => ?_
  unfold Oper.wp execOp
  simp only [ho, hx, hy, Instr.storeAt, Instr.sureAddr, Sem.run_bind, Sem.run_pure, Result.andThen_ok, run_storeVar_row w g t ty c c' hb hi hc h1]
  exact hK _ _ h
end
theorem Try.sizeKind : (Try.prog.info? 46).map (·.size) = some 20 := by kernel_rfl
theorem Try.sizeWeapon : (Try.prog.info? 51).map (·.size) = some 6 := by kernel_rfl
theorem Try.sizeBook : (Try.prog.info? 26).map (·.size) = some 2 := by kernel_rfl
theorem kcs_one (f : Nat → Int) : (kcs f).all (·.oneCell') = true := by simp [Value.oneCell']
theorem wcs_one (f : Nat → Int) (b : Bool) : (wcs f b).all (·.oneCell') = true := by simp [Value.oneCell']
theorem loadVar_kind {W : World} {g : Nat} {f : Nat → Int} (hb : W.heap[g]? = some (.cells (kcs f) 46 (0, 0))) : (loadVar 46 ⟨g, 0, none⟩).run Try.prog W = .ok (.agg (kcs f)) W :=
  run_loadVar_row _ _ _ _ _ (0, 0) _ hb Try.underlying46 rfl Try.sizeKind
theorem loadVar_weapon {W : World} {g : Nat} {f : Nat → Int} {b : Bool} (hb : W.heap[g]? = some (.cells (wcs f b) 51 (0, 0))) : (loadVar 51 ⟨g, 0, none⟩).run Try.prog W = .ok (.agg (wcs f b)) W :=
  run_loadVar_row _ _ _ _ _ (0, 0) _ hb Try.underlying51 rfl Try.sizeWeapon
theorem loadVar_book {W : World} {g : Nat} {x y : Value} (hb : W.heap[g]? = some (.cells #[x, y] 26 (0, 0))) : (loadVar 26 ⟨g, 0, none⟩).run Try.prog W = .ok (.agg #[x, y]) W :=
  run_loadVar_row _ _ _ _ _ (0, 0) _ hb Try.underlying26 rfl Try.sizeBook
theorem alloc_blk (W : World) (cs : Array Value) (t : TypeId) : (W.alloc (.cells cs t)).heap[W.heap.size]? = some (.cells cs t (0, 0)) := World.alloc_heap_new W _
/-- A struct of a slice. -/
theorem loadVar_kindAt {W : World} {g p : Nat} {f : Nat → Int} (h : ∀ j, j < 20 → W.cell? ⟨g, p + j, none⟩ = some (.int .i64 (f j))) : (loadVar 46 ⟨g, p, none⟩).run Try.prog W = .ok (.agg (kcs f)) W := by
  refine run_loadVar_at W ⟨g, p, none⟩ 46 (kcs f).toList _ Try.underlying46 rfl Try.sizeKind (fun j v hv => ?_)
  have hadd : (⟨g, p, none⟩ : Addr).add j = ⟨g, p + j, none⟩ := by unfold Addr.add; split <;> simp_all
  have hj : j < 20 := by
    rcases Nat.lt_or_ge j 20 with h | h
    · exact h
    · rw [List.getElem?_eq_none (by simpa using h)] at hv; cases hv
  rw [hadd, h j hj, ← hv, Array.getElem?_toList, kcs_at f j hj]
theorem wcs_at (f : Nat → Int) (b : Bool) (i : Nat) (h : i < 5) : (wcs f b)[i]? = some (.int .i64 (f i)) := by
  have : i = 0 ∨ i = 1 ∨ i = 2 ∨ i = 3 ∨ i = 4 := by omega
  rcases this with rfl | rfl | rfl | rfl | rfl <;> rfl
theorem loadVar_weaponAt {W : World} {g p : Nat} {f : Nat → Int} {b : Bool} (h : ∀ j, j < 5 → W.cell? ⟨g, p + j, none⟩ = some (.int .i64 (f j))) (h5 : W.cell? ⟨g, p + 5, none⟩ = some (.bool b)) : (loadVar 51 ⟨g, p, none⟩).run Try.prog W = .ok (.agg (wcs f b)) W := by
  refine run_loadVar_at W ⟨g, p, none⟩ 51 (wcs f b).toList _ Try.underlying51 rfl Try.sizeWeapon (fun j v hv => ?_)
  have hadd : (⟨g, p, none⟩ : Addr).add j = ⟨g, p + j, none⟩ := by unfold Addr.add; split <;> simp_all
  have hj : j < 6 := by
    rcases Nat.lt_or_ge j 6 with h | h
    · exact h
    · rw [List.getElem?_eq_none (by simpa using h)] at hv; cases hv
  rw [hadd, ← hv, Array.getElem?_toList]
  by_cases e : j = 5
  · subst e; rw [h5]; rfl
  · rw [h j (by omega), wcs_at f b j (by omega)]
end Go.Proofs.Ytpgifcgidelmaaa
