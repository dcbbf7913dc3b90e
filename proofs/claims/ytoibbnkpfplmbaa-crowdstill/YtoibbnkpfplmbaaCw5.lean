/- Contracts: move. -/
import Derived.Test.YtoibbnkpfplmbaaCw4
import Derived.Test.YtoibbnkpfplmbaaTak10
namespace Go.Proofs.Ytoibbnkpfplmbaa
open Go.RowKit Go.Sort Go.Lib
set_option linter.unusedVariables false
set_option linter.unusedSimpArgs false
attribute [local go_sem] Oper.semAt_some

/-- The crowd's memory: where all are, who has gone, what the map says. -/
structure Cm (w0 : World) (L : Lay) (P : Nat → Int) (G : Nat → Bool) (F : Int → Int) (sz : Nat) (X : World) : Prop where
  k : Kx w0 L.g X 48 L.cs
  op : Bo w0 L.oA L.no L.O
  wi : Is w0 L.iA L.n L.Wi
  wh : Iw X w0.heap.size L.wA L.n P
  mv : Bw X w0.heap.size L.gA L.n G
  bg : w0.heap.size ≤ L.b
  mp : Mo X L.b sz F
theorem Cw.cm {w0 X : World} {L : Lay} {s : St} (h : Cw w0 L s X) : ∃ sz, sz ≤ 64 ∧ Cm w0 L s.P s.G (onZ s.P L.n) sz X := by
  obtain ⟨sz, h1, h2⟩ := h.mp
  exact ⟨sz, h1, h.k, h.op, h.wi, h.wh, h.mv, h.bg, h2⟩
theorem Cm.keep {w0 X Y : World} {L : Lay} {P : Nat → Int} {G : Nat → Bool} {F : Int → Int} {sz : Nat} (h : Cm w0 L P G F sz X) (hb : RowKit.Below X.heap.size X Y) : Cm w0 L P G F sz Y :=
  ⟨h.k.keep hb, h.op, h.wi, h.wh.keep hb, h.mv.keep hb, h.bg, h.mp.keep hb⟩
theorem Cm.drew {w0 X : World} {L : Lay} {P : Nat → Int} {G : Nat → Bool} {F : Int → Int} {sz : Nat} (h : Cm w0 L P G F sz X) : Cm w0 L P G F sz X.drew := h.keep ((Below.refl _ _).drew)
/-- The map has turned. -/
theorem Cm.turn {w0 X Y : World} {L : Lay} {P : Nat → Int} {G : Nat → Bool} {F F' : Int → Int} {sz sz' : Nat} (h : Cm w0 L P G F sz X) (hg : X.grownBy Y (some L.b)) (hm : Mo Y L.b sz' F') : Cm w0 L P G F' sz' Y := by
  obtain ⟨es, clock, hb⟩ := h.mp.blk
  have far : ∀ (g : Nat) (cs : Array Value) (t : TypeId), X.heap[g]? = some (.cells cs t (0, 0)) → some g ≠ some L.b := fun g cs t hg e => by
    injection e with e
    subst e
    rw [hb] at hg
    cases hg
  exact ⟨h.k.grown hg (far _ _ _ h.k.blk) (fun k e => by injection e with e; have := h.bg; omega), h.op, h.wi,
    h.wh.block fun g cs hc => hg.block g (Array.getElem?_eq_some_iff.1 hc).1 (far _ _ _ hc), h.mv.block fun g cs hc => hg.block g (Array.getElem?_eq_some_iff.1 hc).1 (far _ _ _ hc), h.bg, hm⟩
/-- A block of another kind is another block. -/
theorem other_blk {X : World} {g g' : Nat} {o o' : Obj} (h : X.heap[g]? = some o) (h' : X.heap[g']? = some o') (hne : o ≠ o') : g ≠ g' := fun e => by
  subst e
  rw [h] at h'
  injection h' with e
  exact hne e
theorem setCell_blk_other {X : World} {g q i : Nat} {v : Value} (hne : q ≠ g) : (X.setCell ⟨g, i, none⟩ v).heap[q]? = X.heap[q]? := heap_setCell_other _ _ _ _ hne
/-- A thing's place is written. -/
theorem Cm.setP {w0 X : World} {L : Lay} {P : Nat → Int} {G : Nat → Bool} {F : Int → Int} {sz : Nat} (h : Cm w0 L P G F sz X) {i : Nat} (hi : i < L.n) :
    ∃ wg, L.wA = some ⟨wg, 0, none⟩ ∧ X.cell? ⟨wg, i, none⟩ = some (.int .i64 (P i)) ∧ X.frozen? ⟨wg, i, none⟩ = false ∧ ∀ v, Cm w0 L (cwU P i v) G F sz (X.setCell ⟨wg, i, none⟩ (.int .i64 v)) := by
  obtain ⟨wg, e, hB, hlt, hc, hf, ⟨cs, hcs⟩, hs⟩ := h.wh.at hi
  obtain ⟨es, clock, hb⟩ := h.mp.blk
  refine ⟨wg, e, hc i hi, hf i, fun v => ⟨h.k.far (other_blk h.k.blk hcs (by simp)) hB i _, h.op, h.wi, hs v, h.mv.block fun g cs' hc' => setCell_blk_other (other_blk hc' hcs (by simp)), h.bg, h.mp.kept (setCell_blk_other (other_blk hb hcs (by simp)))⟩⟩
/-- Who has gone is written. -/
theorem Cm.setG {w0 X : World} {L : Lay} {P : Nat → Int} {G : Nat → Bool} {F : Int → Int} {sz : Nat} (h : Cm w0 L P G F sz X) {i : Nat} (hi : i < L.n) :
    ∃ gg, L.gA = some ⟨gg, 0, none⟩ ∧ X.cell? ⟨gg, i, none⟩ = some (.bool (G i)) ∧ X.frozen? ⟨gg, i, none⟩ = false ∧ ∀ v, Cm w0 L P (cwU G i v) F sz (X.setCell ⟨gg, i, none⟩ (.bool v)) := by
  obtain ⟨wg, e, hB, hlt, hc, hf, ⟨cs, hcs⟩, hs⟩ := h.mv.at hi
  obtain ⟨es, clock, hb⟩ := h.mp.blk
  refine ⟨wg, e, hc i hi, hf i, fun v => ⟨h.k.far (other_blk h.k.blk hcs (by simp)) hB i _, h.op, h.wi, h.wh.block fun g cs' hc' => setCell_blk_other (other_blk hc' hcs (by simp)), hs v, h.bg, h.mp.kept (setCell_blk_other (other_blk hb hcs (by simp)))⟩⟩
theorem Cm.c1 {w0 X : World} {L : Lay} {P : Nat → Int} {G : Nat → Bool} {F : Int → Int} {sz : Nat} (h : Cm w0 L P G F sz X) : X.cell? ⟨L.g, 1, none⟩ = some (.map (some L.b)) := h.k.cell 1 rfl
theorem Cm.c2 {w0 X : World} {L : Lay} {P : Nat → Int} {G : Nat → Bool} {F : Int → Int} {sz : Nat} (h : Cm w0 L P G F sz X) : X.cell? ⟨L.g, 2, none⟩ = some (.slice L.wA L.n L.wc) := h.k.cell 2 rfl
theorem Cm.c3 {w0 X : World} {L : Lay} {P : Nat → Int} {G : Nat → Bool} {F : Int → Int} {sz : Nat} (h : Cm w0 L P G F sz X) : X.cell? ⟨L.g, 3, none⟩ = some (.slice L.iA L.n L.ic) := h.k.cell 3 rfl
theorem Cm.c4 {w0 X : World} {L : Lay} {P : Nat → Int} {G : Nat → Bool} {F : Int → Int} {sz : Nat} (h : Cm w0 L P G F sz X) : X.cell? ⟨L.g, 4, none⟩ = some (.slice L.gA L.n L.gc) := h.k.cell 4 rfl

theorem wp_delete15 {o : Oper} {a : Act} {K' : Act → World → Prop} {Q : Exit → Act → World → Prop} (m x : Operand) (ho : o.op = .call { callee := .builtin .delete, args := #[m, x], argTypes := #[41, 3] })
    (b : Nat) (c : Int) (w w' : World) (hm : a.eval m = .map (some b)) (hx : a.eval x = .int .i64 c) (hrun : (Builtin.delete_ #[41, 3] o.type #[.map (some b), .int .i64 c]).run Try.prog w = .ok (.tuple #[]) w')
    (h : K' (a.put o.dst (.tuple #[])) w') : Oper.wp Try.prog o a w K' Q := by
  unfold Oper.wp execOp
  simp only [ho, resolve, invoke, builtin, Sem.run_bind, Sem.run_pure, Result.andThen_ok, List.map_toArray, List.map_cons, List.map_nil, hm, hx, hrun]
  exact h
theorem wp_update15 {o : Oper} {a : Act} {K' : Act → World → Prop} {Q : Exit → Act → World → Prop} (m x v : Operand) (ho : o.op = .mapUpdate 41 m x v)
    (b : Nat) (c z : Int) (w w' : World) (hm : a.eval m = .map (some b)) (hx : a.eval x = .int .i64 c) (hv : a.eval v = .int .i64 z) (hrun : (Instr.mapUpdate 41 (.map (some b)) (.int .i64 c) (.int .i64 z)).run Try.prog w = .ok () w')
    (h : K' (a.put o.dst undef) w') : Oper.wp Try.prog o a w K' Q := by
  unfold Oper.wp execOp
  simp only [ho, hm, hx, hv, Sem.run_bind, Sem.run_pure, Result.andThen_ok, hrun]
  exact h

set_option maxRecDepth 100000 in
set_option maxHeartbeats 8000000 in
theorem move15_any (w0 w : World) (L : Lay) (s : St) (i : Nat) (h : Cw w0 L s w) (hi : i < L.n) (hc : canS L.n L.O L.Wi s.P i = true) :
    Calls Try.prog 28 #[.pointer (some ⟨L.g, 0, none⟩), .int .i64 (i : Int)] w fun e w' => e = .returned (.tuple #[]) ∧ Cw w0 L (stpS L.n L.O L.Wi s i) w' := by
  obtain ⟨sz, hsz, hm⟩ := h.cm
  obtain ⟨hp0, hw0, hwo, hwn⟩ := canS_iff.1 hc
  have hcl := h.cells
  have hpr := h.rp i hi
  have hwr := h.rw i hi
  have hon := h.apt.on hi hp0
  have hfew := h.few
  obtain ⟨wg, ewg, -, -, hfin⟩ := hm.setP hi
  obtain ⟨gg, egg, -, -, hgfin⟩ := hm.setG hi
  obtain ⟨ig, io, eig, -⟩ := h.wi.at h.k.below hi
  clear hfin hgfin
  have FIN : Hid (∀ w', Cm w0 L (cwU s.P i (L.Wi i)) (cwU s.G i true) (cwZ (cwZ (onZ s.P L.n) (s.P i) (-1)) (L.Wi i) (i : Int)) (sz - 1 + 1) w' → 1 ≤ sz → Cw w0 L (stpS L.n L.O L.Wi s i) w') := by
    intro w' q hs1
    have e : stpS L.n L.O L.Wi s i = ⟨cwU s.P i (L.Wi i), cwU s.G i true⟩ := by unfold stpS; rw [if_pos hc]
    rw [e]
    refine ⟨q.k, q.op, q.wi, q.wh, q.mv, q.bg, ⟨sz, hsz, ?_⟩, h.few, h.cells, fun j hj => ?_, h.rw, fun j k hj hk hne h0 => ?_, h.wcl, h.gcl, h.wcm, h.gcm⟩
    · have := q.mp
      rw [show sz - 1 + 1 = sz by omega] at this
      refine this.congr fun c hc' => ?_
      show _ = onZ (cwU s.P i (L.Wi i)) L.n c
      rw [on_move h.apt hi hp0 hwn hc'.1]
      rfl
    · by_cases q1 : j = i
      · subst q1; simp only [cwU_same]; exact hwr
      · simp only [cwU_other _ _ q1]; exact h.rp j hj
    · have hno := onZ_neg hwn
      by_cases q1 : j = i
      · subst q1
        simp only [cwU_same, cwU_other _ _ (Ne.symm hne)]
        exact fun q2 => hno k hk q2.symm
      · simp only [cwU_other _ _ q1] at h0 ⊢
        by_cases q2 : k = i
        · subst q2; simp only [cwU_same]; exact hno j hj
        · simp only [cwU_other _ _ q2]; exact h.apt j k hj hk hne h0
  have H0 := Lib.hid hm
  have HON := Lib.hid hon
  have HWN := Lib.hid hwn
  have C1 : Hid (∀ {P G F z X}, Cm w0 L P G F z X → X.cell? ⟨L.g, 1, none⟩ = some (.map (some L.b))) := fun h => h.c1
  have C2 : Hid (∀ {P G F z X}, Cm w0 L P G F z X → X.cell? ⟨L.g, 2, none⟩ = some (.slice (some ⟨wg, 0, none⟩) L.n L.wc)) := fun h => by rw [← ewg]; exact h.c2
  have C3 : Hid (∀ {P G F z X}, Cm w0 L P G F z X → X.cell? ⟨L.g, 3, none⟩ = some (.slice (some ⟨ig, io, none⟩) L.n L.ic)) := fun h => by rw [← eig]; exact h.c3
  have C4 : Hid (∀ {P G F z X}, Cm w0 L P G F z X → X.cell? ⟨L.g, 4, none⟩ = some (.slice (some ⟨gg, 0, none⟩) L.n L.gc)) := fun h => by rw [← egg]; exact h.c4
  have CP : Hid (∀ {P G F z X}, Cm w0 L P G F z X → X.cell? ⟨wg, i, none⟩ = some (.int .i64 (P i)) ∧ X.frozen? ⟨wg, i, none⟩ = false ∧ ∀ v, Cm w0 L (cwU P i v) G F z (X.setCell ⟨wg, i, none⟩ (.int .i64 v))) := fun h => by
    obtain ⟨wg', e, q1, q2, q3⟩ := h.setP hi
    rw [ewg] at e
    injection e with e
    injection e with e
    subst e
    exact ⟨q1, q2, q3⟩
  have CG : Hid (∀ {P G F z X}, Cm w0 L P G F z X → X.cell? ⟨gg, i, none⟩ = some (.bool (G i)) ∧ X.frozen? ⟨gg, i, none⟩ = false ∧ ∀ v, Cm w0 L P (cwU G i v) F z (X.setCell ⟨gg, i, none⟩ (.bool v))) := fun h => by
    obtain ⟨wg', e, q1, q2, q3⟩ := h.setG hi
    rw [egg] at e
    injection e with e
    injection e with e
    subst e
    exact ⟨q1, q2, q3⟩
  have CI : Hid (∀ {P G F z X}, Cm w0 L P G F z X → X.cell? ⟨ig, io + i, none⟩ = some (.int .i64 (L.Wi i))) := fun h => by
    obtain ⟨ig', io', e, q⟩ := h.wi.at h.k.below hi
    rw [eig] at e
    injection e with e
    injection e with e e2
    subst e e2
    exact q
  have hiI : (i : Int) < (L.n : Int) := by omega
  clear h hm hon hwn ewg egg eig hwo hc hi
  obtain ⟨g, b, n, no, oA, oc, wA, wc, iA, ic, gA, gc, O, Wi⟩ := L
  dsimp only at *
  generalize hp : s.P i = pz at *
  generalize hw : Wi i = wz at *
  have HPZ := Lib.hid hp
  have HWZ := Lib.hid hw
  clear hp hw
  go_enter Try.func28, Try.ntmps28
  go_wp2_with fail
  have H1 := Lib.hid H0.out.drew
  refine wp_regionT (m := 11) (R := fun _ => True) (B := (fun w' : World => w'.cell? ⟨g, 1, none⟩ = some (.map (some b)) ∧ w'.cell? ⟨g, 2, none⟩ = some (.slice (some ⟨wg, 0, none⟩) n wc) ∧ w'.cell? ⟨wg, i, none⟩ = some (.int .i64 pz))) (by kernel_rfl) ?_
  clear H0
  generalize w.drew = w1 at *
  have HS : Hid (True ∧ (fun w' : World => w'.cell? ⟨g, 1, none⟩ = some (.map (some b)) ∧ w'.cell? ⟨g, 2, none⟩ = some (.slice (some ⟨wg, 0, none⟩) n wc) ∧ w'.cell? ⟨wg, i, none⟩ = some (.int .i64 pz)) w1) := ⟨trivial, C1.out H1.out, C2.out H1.out, by rw [← HPZ.out]; exact (CP.out H1.out).1⟩
  simp only [List.size_toArray, List.length_cons, List.length_nil, Nat.reduceAdd, Array.replicate_succ, Array.replicate_zero, List.push_toArray, List.nil_append, List.cons_append]
  refine wpAnyT_take (i := 0) (v := ?_) rfl (by kernel_rfl) (by kernel_rfl) (by kernel_rfl) (by kernel_rfl) (by kernel_rfl) (by kernel_rfl) (fun _ _ _ h => h) (Or.inl ⟨by rfl, ?_⟩) HS.out ?_
  rotate_left
  · rintro w' ⟨-, hb0, hb1, hb2⟩
    go_simp
    with_reducible rfl
  simp only [Act.put, List.getElem_toArray, List.getElem_cons_zero, List.getElem_cons_succ, List.setIfInBounds_toArray, List.set_cons_zero, List.set_cons_succ]
  refine wpAnyT_take (i := 1) (v := ?_) rfl (by kernel_rfl) (by kernel_rfl) (by kernel_rfl) (by kernel_rfl) (by kernel_rfl) (by kernel_rfl) (fun _ _ _ h => h) (Or.inl ⟨by rfl, ?_⟩) HS.out ?_
  rotate_left
  · rintro w' ⟨-, hb0, hb1, hb2⟩
    go_simp
    with_reducible rfl
  simp only [Act.put, List.getElem_toArray, List.getElem_cons_zero, List.getElem_cons_succ, List.setIfInBounds_toArray, List.set_cons_zero, List.set_cons_succ]
  refine wpAnyT_take (i := 2) (v := ?_) rfl (by kernel_rfl) (by kernel_rfl) (by kernel_rfl) (by kernel_rfl) (by kernel_rfl) (by kernel_rfl) (fun _ _ _ h => h) (Or.inl ⟨by rfl, ?_⟩) HS.out ?_
  rotate_left
  · rintro w' ⟨-, hb0, hb1, hb2⟩
    go_simp
    with_reducible rfl
  simp only [Act.put, List.getElem_toArray, List.getElem_cons_zero, List.getElem_cons_succ, List.setIfInBounds_toArray, List.set_cons_zero, List.set_cons_succ]
  refine wpAnyT_take (i := 3) (v := ?_) rfl (by kernel_rfl) (by kernel_rfl) (by kernel_rfl) (by kernel_rfl) (by kernel_rfl) (by kernel_rfl) (fun _ _ _ h => h) (Or.inl ⟨by rfl, ?_⟩) HS.out ?_
  rotate_left
  · rintro w' ⟨-, hb0, hb1, hb2⟩
    go_simp
    with_reducible rfl
  simp only [Act.put, List.getElem_toArray, List.getElem_cons_zero, List.getElem_cons_succ, List.setIfInBounds_toArray, List.set_cons_zero, List.set_cons_succ]
  refine wpAnyT_take (i := 4) (v := ?_) rfl (by kernel_rfl) (by kernel_rfl) (by kernel_rfl) (by kernel_rfl) (by kernel_rfl) (by kernel_rfl) (fun _ _ _ h => h) (Or.inl ⟨by rfl, ?_⟩) HS.out ?_
  rotate_left
  · rintro w' ⟨-, hb0, hb1, hb2⟩
    go_simp
    with_reducible rfl
  simp only [Act.put, List.getElem_toArray, List.getElem_cons_zero, List.getElem_cons_succ, List.setIfInBounds_toArray, List.set_cons_zero, List.set_cons_succ]
  refine wpAnyT_take (i := 5) (v := ?_) rfl (by kernel_rfl) (by kernel_rfl) (by kernel_rfl) (by kernel_rfl) (by kernel_rfl) (by kernel_rfl) (fun _ _ _ h => h) (Or.inl ⟨by rfl, ?_⟩) HS.out ?_
  rotate_left
  · rintro w' ⟨-, hb0, hb1, hb2⟩
    go_simp
    with_reducible rfl
  simp only [Act.put, List.getElem_toArray, List.getElem_cons_zero, List.getElem_cons_succ, List.setIfInBounds_toArray, List.set_cons_zero, List.set_cons_succ]
  refine wpAnyT_take (i := 6) (v := ?_) rfl (by kernel_rfl) (by kernel_rfl) (by kernel_rfl) (by kernel_rfl) (by kernel_rfl) (by kernel_rfl) (fun _ _ _ h => h) (Or.inl ⟨by rfl, ?_⟩) HS.out ?_
  rotate_left
  · rintro w' ⟨-, hb0, hb1, hb2⟩
    go_simp
    with_reducible rfl
  simp only [Act.put, List.getElem_toArray, List.getElem_cons_zero, List.getElem_cons_succ, List.setIfInBounds_toArray, List.set_cons_zero, List.set_cons_succ]
  refine wpAnyT_take (i := 7) (v := ?_) rfl (by kernel_rfl) (by kernel_rfl) (by kernel_rfl) (by kernel_rfl) (by kernel_rfl) (by kernel_rfl) (fun _ _ _ h => h) (Or.inl ⟨by rfl, ?_⟩) HS.out ?_
  rotate_left
  · rintro w' ⟨-, hb0, hb1, hb2⟩
    go_simp
    with_reducible rfl
  simp only [Act.put, List.getElem_toArray, List.getElem_cons_zero, List.getElem_cons_succ, List.setIfInBounds_toArray, List.set_cons_zero, List.set_cons_succ]
  refine wpAnyT_take (i := 8) (v := ?_) rfl (by kernel_rfl) (by kernel_rfl) (by kernel_rfl) (by kernel_rfl) (by kernel_rfl) (by kernel_rfl) (fun _ _ _ h => h) (Or.inl ⟨by rfl, ?_⟩) HS.out ?_
  rotate_left
  · rintro w' ⟨-, hb0, hb1, hb2⟩
    go_simp
    with_reducible rfl
  simp only [Act.put, List.getElem_toArray, List.getElem_cons_zero, List.getElem_cons_succ, List.setIfInBounds_toArray, List.set_cons_zero, List.set_cons_succ]
  refine wpAnyT_take (i := 9) (v := ?_) rfl (by kernel_rfl) (by kernel_rfl) (by kernel_rfl) (by kernel_rfl) (by kernel_rfl) (by kernel_rfl) (fun _ _ _ h => h) (Or.inl ⟨by rfl, ?_⟩) HS.out ?_
  rotate_left
  · rintro w' ⟨-, hb0, hb1, hb2⟩
    go_simp
    with_reducible rfl
  simp only [Act.put, List.getElem_toArray, List.getElem_cons_zero, List.getElem_cons_succ, List.setIfInBounds_toArray, List.set_cons_zero, List.set_cons_succ]
  refine wpAnyT_take (i := 10) (v := ?_) rfl (by kernel_rfl) (by kernel_rfl) (by kernel_rfl) (by kernel_rfl) (by kernel_rfl) (by kernel_rfl) (fun _ _ _ h => h) (Or.inl ⟨by rfl, ?_⟩) HS.out ?_
  rotate_left
  · rintro w' ⟨-, hb0, hb1, hb2⟩
    go_simp
    with_reducible rfl
  simp only [Act.put, List.getElem_toArray, List.getElem_cons_zero, List.getElem_cons_succ, List.setIfInBounds_toArray, List.set_cons_zero, List.set_cons_succ]
  refine wpAnyT_one (i := 11) (by kernel_rfl) rfl (fun K' hK => ?_)
  rw [if_pos (by rfl)]
  simp only [List.getElem_toArray, List.getElem_cons_zero, List.getElem_cons_succ, List.setIfInBounds_toArray, List.set_cons_zero, List.set_cons_succ] at hK ⊢
  have HK' := Lib.hid hK
  clear hK
  have mp := H1.out.mp
  dsimp only at mp
  obtain ⟨w2, hrun, hM2, hs1, hg2⟩ := mp.drop (c := pz) (by omega) (by rw [HON.out]; omega) 0
  refine wp_delete15 _ _ rfl b pz w1 w2 rfl rfl hrun ?_
  have H2 := Lib.hid (H1.out.turn hg2 hM2)
  clear hrun hM2 hg2 mp H1 HS
  refine HK'.out _ _ trivial (fun hh => absurd hh (by decide)) ?_
  clear HK'
  refine wpAnyT_done (by kernel_rfl) ?_ _
  go_wp2_with fail
  have H3 := Lib.hid H2.out.drew
  refine wp_regionT (m := 12) (R := fun _ => True) (B := (fun w' : World => w'.cell? ⟨g, 1, none⟩ = some (.map (some b)) ∧ w'.cell? ⟨g, 3, none⟩ = some (.slice (some ⟨ig, io, none⟩) n ic) ∧ w'.cell? ⟨ig, io + i, none⟩ = some (.int .i64 wz))) (by kernel_rfl) ?_
  clear H2
  generalize w2.drew = w3 at *
  have HS : Hid (True ∧ (fun w' : World => w'.cell? ⟨g, 1, none⟩ = some (.map (some b)) ∧ w'.cell? ⟨g, 3, none⟩ = some (.slice (some ⟨ig, io, none⟩) n ic) ∧ w'.cell? ⟨ig, io + i, none⟩ = some (.int .i64 wz)) w3) := ⟨trivial, C1.out H3.out, C3.out H3.out, CI.out H3.out⟩
  simp only [List.size_toArray, List.length_cons, List.length_nil, Nat.reduceAdd, Array.replicate_succ, Array.replicate_zero, List.push_toArray, List.nil_append, List.cons_append]
  refine wpAnyT_take (i := 0) (v := ?_) rfl (by kernel_rfl) (by kernel_rfl) (by kernel_rfl) (by kernel_rfl) (by kernel_rfl) (by kernel_rfl) (fun _ _ _ h => h) (Or.inl ⟨by rfl, ?_⟩) HS.out ?_
  rotate_left
  · rintro w' ⟨-, hb0, hb1, hb2⟩
    go_simp
    with_reducible rfl
  simp only [Act.put, List.getElem_toArray, List.getElem_cons_zero, List.getElem_cons_succ, List.setIfInBounds_toArray, List.set_cons_zero, List.set_cons_succ]
  refine wpAnyT_take (i := 1) (v := ?_) rfl (by kernel_rfl) (by kernel_rfl) (by kernel_rfl) (by kernel_rfl) (by kernel_rfl) (by kernel_rfl) (fun _ _ _ h => h) (Or.inl ⟨by rfl, ?_⟩) HS.out ?_
  rotate_left
  · rintro w' ⟨-, hb0, hb1, hb2⟩
    go_simp
    with_reducible rfl
  simp only [Act.put, List.getElem_toArray, List.getElem_cons_zero, List.getElem_cons_succ, List.setIfInBounds_toArray, List.set_cons_zero, List.set_cons_succ]
  refine wpAnyT_take (i := 2) (v := ?_) rfl (by kernel_rfl) (by kernel_rfl) (by kernel_rfl) (by kernel_rfl) (by kernel_rfl) (by kernel_rfl) (fun _ _ _ h => h) (Or.inl ⟨by rfl, ?_⟩) HS.out ?_
  rotate_left
  · rintro w' ⟨-, hb0, hb1, hb2⟩
    go_simp
    with_reducible rfl
  simp only [Act.put, List.getElem_toArray, List.getElem_cons_zero, List.getElem_cons_succ, List.setIfInBounds_toArray, List.set_cons_zero, List.set_cons_succ]
  refine wpAnyT_take (i := 3) (v := ?_) rfl (by kernel_rfl) (by kernel_rfl) (by kernel_rfl) (by kernel_rfl) (by kernel_rfl) (by kernel_rfl) (fun _ _ _ h => h) (Or.inl ⟨by rfl, ?_⟩) HS.out ?_
  rotate_left
  · rintro w' ⟨-, hb0, hb1, hb2⟩
    go_simp
    with_reducible rfl
  simp only [Act.put, List.getElem_toArray, List.getElem_cons_zero, List.getElem_cons_succ, List.setIfInBounds_toArray, List.set_cons_zero, List.set_cons_succ]
  refine wpAnyT_take (i := 4) (v := ?_) rfl (by kernel_rfl) (by kernel_rfl) (by kernel_rfl) (by kernel_rfl) (by kernel_rfl) (by kernel_rfl) (fun _ _ _ h => h) (Or.inl ⟨by rfl, ?_⟩) HS.out ?_
  rotate_left
  · rintro w' ⟨-, hb0, hb1, hb2⟩
    go_simp
    with_reducible rfl
  simp only [Act.put, List.getElem_toArray, List.getElem_cons_zero, List.getElem_cons_succ, List.setIfInBounds_toArray, List.set_cons_zero, List.set_cons_succ]
  refine wpAnyT_take (i := 5) (v := ?_) rfl (by kernel_rfl) (by kernel_rfl) (by kernel_rfl) (by kernel_rfl) (by kernel_rfl) (by kernel_rfl) (fun _ _ _ h => h) (Or.inl ⟨by rfl, ?_⟩) HS.out ?_
  rotate_left
  · rintro w' ⟨-, hb0, hb1, hb2⟩
    go_simp
    with_reducible rfl
  simp only [Act.put, List.getElem_toArray, List.getElem_cons_zero, List.getElem_cons_succ, List.setIfInBounds_toArray, List.set_cons_zero, List.set_cons_succ]
  refine wpAnyT_take (i := 6) (v := ?_) rfl (by kernel_rfl) (by kernel_rfl) (by kernel_rfl) (by kernel_rfl) (by kernel_rfl) (by kernel_rfl) (fun _ _ _ h => h) (Or.inl ⟨by rfl, ?_⟩) HS.out ?_
  rotate_left
  · rintro w' ⟨-, hb0, hb1, hb2⟩
    go_simp
    with_reducible rfl
  simp only [Act.put, List.getElem_toArray, List.getElem_cons_zero, List.getElem_cons_succ, List.setIfInBounds_toArray, List.set_cons_zero, List.set_cons_succ]
  refine wpAnyT_take (i := 7) (v := ?_) rfl (by kernel_rfl) (by kernel_rfl) (by kernel_rfl) (by kernel_rfl) (by kernel_rfl) (by kernel_rfl) (fun _ _ _ h => h) (Or.inl ⟨by rfl, ?_⟩) HS.out ?_
  rotate_left
  · rintro w' ⟨-, hb0, hb1, hb2⟩
    go_simp
    with_reducible rfl
  simp only [Act.put, List.getElem_toArray, List.getElem_cons_zero, List.getElem_cons_succ, List.setIfInBounds_toArray, List.set_cons_zero, List.set_cons_succ]
  refine wpAnyT_take (i := 8) (v := ?_) rfl (by kernel_rfl) (by kernel_rfl) (by kernel_rfl) (by kernel_rfl) (by kernel_rfl) (by kernel_rfl) (fun _ _ _ h => h) (Or.inl ⟨by rfl, ?_⟩) HS.out ?_
  rotate_left
  · rintro w' ⟨-, hb0, hb1, hb2⟩
    go_simp
    with_reducible rfl
  simp only [Act.put, List.getElem_toArray, List.getElem_cons_zero, List.getElem_cons_succ, List.setIfInBounds_toArray, List.set_cons_zero, List.set_cons_succ]
  refine wpAnyT_take (i := 9) (v := ?_) rfl (by kernel_rfl) (by kernel_rfl) (by kernel_rfl) (by kernel_rfl) (by kernel_rfl) (by kernel_rfl) (fun _ _ _ h => h) (Or.inl ⟨by rfl, ?_⟩) HS.out ?_
  rotate_left
  · rintro w' ⟨-, hb0, hb1, hb2⟩
    go_simp
    with_reducible rfl
  simp only [Act.put, List.getElem_toArray, List.getElem_cons_zero, List.getElem_cons_succ, List.setIfInBounds_toArray, List.set_cons_zero, List.set_cons_succ]
  refine wpAnyT_take (i := 10) (v := ?_) rfl (by kernel_rfl) (by kernel_rfl) (by kernel_rfl) (by kernel_rfl) (by kernel_rfl) (by kernel_rfl) (fun _ _ _ h => h) (Or.inl ⟨by rfl, ?_⟩) HS.out ?_
  rotate_left
  · rintro w' ⟨-, hb0, hb1, hb2⟩
    go_simp
    with_reducible rfl
  simp only [Act.put, List.getElem_toArray, List.getElem_cons_zero, List.getElem_cons_succ, List.setIfInBounds_toArray, List.set_cons_zero, List.set_cons_succ]
  refine wpAnyT_take (i := 11) (v := ?_) rfl (by kernel_rfl) (by kernel_rfl) (by kernel_rfl) (by kernel_rfl) (by kernel_rfl) (by kernel_rfl) (fun _ _ _ h => h) (Or.inl ⟨by rfl, ?_⟩) HS.out ?_
  rotate_left
  · rintro w' ⟨-, hb0, hb1, hb2⟩
    go_simp
    with_reducible rfl
  simp only [Act.put, List.getElem_toArray, List.getElem_cons_zero, List.getElem_cons_succ, List.setIfInBounds_toArray, List.set_cons_zero, List.set_cons_succ]
  refine wpAnyT_one (i := 12) (by kernel_rfl) rfl (fun K' hK => ?_)
  rw [if_pos (by rfl)]
  simp only [List.getElem_toArray, List.getElem_cons_zero, List.getElem_cons_succ, List.setIfInBounds_toArray, List.set_cons_zero, List.set_cons_succ] at hK ⊢
  have HK' := Lib.hid hK
  clear hK
  have mp := H3.out.mp
  dsimp only at mp
  have hneg : ¬ (0 ≤ cwZ (onZ s.P n) pz (-1) wz) := by
    unfold cwZ
    have := HWN.out
    split <;> omega
  obtain ⟨w4, hrun, hM4, hg4⟩ := mp.put (by omega) (c := wz) (v := (i : Int)) (by omega) (by omega)
  rw [if_neg hneg] at hM4
  refine wp_update15 _ _ _ rfl b wz (i : Int) w3 w4 rfl rfl rfl hrun ?_
  have H4 := Lib.hid (H3.out.turn hg4 hM4)
  clear hrun hM4 hg4 mp H3 HS hneg
  refine HK'.out _ _ trivial (fun hh => absurd hh (by decide)) ?_
  clear HK'
  refine wpAnyT_done (by kernel_rfl) ?_ _
  go_wp2_with fail
  have H5 := Lib.hid H4.out.drew
  refine wp_regionT (m := 13) (R := fun _ => True) (B := (fun w' : World => w'.cell? ⟨g, 2, none⟩ = some (.slice (some ⟨wg, 0, none⟩) n wc) ∧ w'.cell? ⟨g, 3, none⟩ = some (.slice (some ⟨ig, io, none⟩) n ic) ∧ w'.cell? ⟨ig, io + i, none⟩ = some (.int .i64 wz))) (by kernel_rfl) ?_
  clear H4
  generalize w4.drew = w5 at *
  have HS : Hid (True ∧ (fun w' : World => w'.cell? ⟨g, 2, none⟩ = some (.slice (some ⟨wg, 0, none⟩) n wc) ∧ w'.cell? ⟨g, 3, none⟩ = some (.slice (some ⟨ig, io, none⟩) n ic) ∧ w'.cell? ⟨ig, io + i, none⟩ = some (.int .i64 wz)) w5) := ⟨trivial, C2.out H5.out, C3.out H5.out, CI.out H5.out⟩
  simp only [List.size_toArray, List.length_cons, List.length_nil, Nat.reduceAdd, Array.replicate_succ, Array.replicate_zero, List.push_toArray, List.nil_append, List.cons_append]
  refine wpAnyT_take (i := 0) (v := ?_) rfl (by kernel_rfl) (by kernel_rfl) (by kernel_rfl) (by kernel_rfl) (by kernel_rfl) (by kernel_rfl) (fun _ _ _ h => h) (Or.inl ⟨by rfl, ?_⟩) HS.out ?_
  rotate_left
  · rintro w' ⟨-, hb0, hb1, hb2⟩
    go_simp
    with_reducible rfl
  simp only [Act.put, List.getElem_toArray, List.getElem_cons_zero, List.getElem_cons_succ, List.setIfInBounds_toArray, List.set_cons_zero, List.set_cons_succ]
  refine wpAnyT_take (i := 1) (v := ?_) rfl (by kernel_rfl) (by kernel_rfl) (by kernel_rfl) (by kernel_rfl) (by kernel_rfl) (by kernel_rfl) (fun _ _ _ h => h) (Or.inl ⟨by rfl, ?_⟩) HS.out ?_
  rotate_left
  · rintro w' ⟨-, hb0, hb1, hb2⟩
    go_simp
    with_reducible rfl
  simp only [Act.put, List.getElem_toArray, List.getElem_cons_zero, List.getElem_cons_succ, List.setIfInBounds_toArray, List.set_cons_zero, List.set_cons_succ]
  refine wpAnyT_take (i := 2) (v := ?_) rfl (by kernel_rfl) (by kernel_rfl) (by kernel_rfl) (by kernel_rfl) (by kernel_rfl) (by kernel_rfl) (fun _ _ _ h => h) (Or.inl ⟨by rfl, ?_⟩) HS.out ?_
  rotate_left
  · rintro w' ⟨-, hb0, hb1, hb2⟩
    go_simp
    with_reducible rfl
  simp only [Act.put, List.getElem_toArray, List.getElem_cons_zero, List.getElem_cons_succ, List.setIfInBounds_toArray, List.set_cons_zero, List.set_cons_succ]
  refine wpAnyT_take (i := 3) (v := ?_) rfl (by kernel_rfl) (by kernel_rfl) (by kernel_rfl) (by kernel_rfl) (by kernel_rfl) (by kernel_rfl) (fun _ _ _ h => h) (Or.inl ⟨by rfl, ?_⟩) HS.out ?_
  rotate_left
  · rintro w' ⟨-, hb0, hb1, hb2⟩
    go_simp
    with_reducible rfl
  simp only [Act.put, List.getElem_toArray, List.getElem_cons_zero, List.getElem_cons_succ, List.setIfInBounds_toArray, List.set_cons_zero, List.set_cons_succ]
  refine wpAnyT_take (i := 4) (v := ?_) rfl (by kernel_rfl) (by kernel_rfl) (by kernel_rfl) (by kernel_rfl) (by kernel_rfl) (by kernel_rfl) (fun _ _ _ h => h) (Or.inl ⟨by rfl, ?_⟩) HS.out ?_
  rotate_left
  · rintro w' ⟨-, hb0, hb1, hb2⟩
    go_simp
    with_reducible rfl
  simp only [Act.put, List.getElem_toArray, List.getElem_cons_zero, List.getElem_cons_succ, List.setIfInBounds_toArray, List.set_cons_zero, List.set_cons_succ]
  refine wpAnyT_take (i := 5) (v := ?_) rfl (by kernel_rfl) (by kernel_rfl) (by kernel_rfl) (by kernel_rfl) (by kernel_rfl) (by kernel_rfl) (fun _ _ _ h => h) (Or.inl ⟨by rfl, ?_⟩) HS.out ?_
  rotate_left
  · rintro w' ⟨-, hb0, hb1, hb2⟩
    go_simp
    with_reducible rfl
  simp only [Act.put, List.getElem_toArray, List.getElem_cons_zero, List.getElem_cons_succ, List.setIfInBounds_toArray, List.set_cons_zero, List.set_cons_succ]
  refine wpAnyT_take (i := 6) (v := ?_) rfl (by kernel_rfl) (by kernel_rfl) (by kernel_rfl) (by kernel_rfl) (by kernel_rfl) (by kernel_rfl) (fun _ _ _ h => h) (Or.inl ⟨by rfl, ?_⟩) HS.out ?_
  rotate_left
  · rintro w' ⟨-, hb0, hb1, hb2⟩
    go_simp
    with_reducible rfl
  simp only [Act.put, List.getElem_toArray, List.getElem_cons_zero, List.getElem_cons_succ, List.setIfInBounds_toArray, List.set_cons_zero, List.set_cons_succ]
  refine wpAnyT_take (i := 7) (v := ?_) rfl (by kernel_rfl) (by kernel_rfl) (by kernel_rfl) (by kernel_rfl) (by kernel_rfl) (by kernel_rfl) (fun _ _ _ h => h) (Or.inl ⟨by rfl, ?_⟩) HS.out ?_
  rotate_left
  · rintro w' ⟨-, hb0, hb1, hb2⟩
    go_simp
    with_reducible rfl
  simp only [Act.put, List.getElem_toArray, List.getElem_cons_zero, List.getElem_cons_succ, List.setIfInBounds_toArray, List.set_cons_zero, List.set_cons_succ]
  refine wpAnyT_take (i := 8) (v := ?_) rfl (by kernel_rfl) (by kernel_rfl) (by kernel_rfl) (by kernel_rfl) (by kernel_rfl) (by kernel_rfl) (fun _ _ _ h => h) (Or.inl ⟨by rfl, ?_⟩) HS.out ?_
  rotate_left
  · rintro w' ⟨-, hb0, hb1, hb2⟩
    go_simp
    with_reducible rfl
  simp only [Act.put, List.getElem_toArray, List.getElem_cons_zero, List.getElem_cons_succ, List.setIfInBounds_toArray, List.set_cons_zero, List.set_cons_succ]
  refine wpAnyT_take (i := 9) (v := ?_) rfl (by kernel_rfl) (by kernel_rfl) (by kernel_rfl) (by kernel_rfl) (by kernel_rfl) (by kernel_rfl) (fun _ _ _ h => h) (Or.inl ⟨by rfl, ?_⟩) HS.out ?_
  rotate_left
  · rintro w' ⟨-, hb0, hb1, hb2⟩
    go_simp
    with_reducible rfl
  simp only [Act.put, List.getElem_toArray, List.getElem_cons_zero, List.getElem_cons_succ, List.setIfInBounds_toArray, List.set_cons_zero, List.set_cons_succ]
  refine wpAnyT_take (i := 10) (v := ?_) rfl (by kernel_rfl) (by kernel_rfl) (by kernel_rfl) (by kernel_rfl) (by kernel_rfl) (by kernel_rfl) (fun _ _ _ h => h) (Or.inl ⟨by rfl, ?_⟩) HS.out ?_
  rotate_left
  · rintro w' ⟨-, hb0, hb1, hb2⟩
    go_simp
    with_reducible rfl
  simp only [Act.put, List.getElem_toArray, List.getElem_cons_zero, List.getElem_cons_succ, List.setIfInBounds_toArray, List.set_cons_zero, List.set_cons_succ]
  refine wpAnyT_take (i := 11) (v := ?_) rfl (by kernel_rfl) (by kernel_rfl) (by kernel_rfl) (by kernel_rfl) (by kernel_rfl) (by kernel_rfl) (fun _ _ _ h => h) (Or.inl ⟨by rfl, ?_⟩) HS.out ?_
  rotate_left
  · rintro w' ⟨-, hb0, hb1, hb2⟩
    go_simp
    with_reducible rfl
  simp only [Act.put, List.getElem_toArray, List.getElem_cons_zero, List.getElem_cons_succ, List.setIfInBounds_toArray, List.set_cons_zero, List.set_cons_succ]
  refine wpAnyT_take (i := 12) (v := ?_) rfl (by kernel_rfl) (by kernel_rfl) (by kernel_rfl) (by kernel_rfl) (by kernel_rfl) (by kernel_rfl) (fun _ _ _ h => h) (Or.inl ⟨by rfl, ?_⟩) HS.out ?_
  rotate_left
  · rintro w' ⟨-, hb0, hb1, hb2⟩
    go_simp
    with_reducible rfl
  simp only [Act.put, List.getElem_toArray, List.getElem_cons_zero, List.getElem_cons_succ, List.setIfInBounds_toArray, List.set_cons_zero, List.set_cons_succ]
  refine wpAnyT_one (i := 13) (by kernel_rfl) rfl (fun K' hK => ?_)
  rw [if_pos (by rfl)]
  simp only [List.getElem_toArray, List.getElem_cons_zero, List.getElem_cons_succ, List.setIfInBounds_toArray, List.set_cons_zero, List.set_cons_succ] at hK ⊢
  have HK' := Lib.hid hK
  clear hK
  obtain ⟨x0, x1, x2⟩ := CP.out H5.out
  have H6 := Lib.hid (x2 wz)
  clear x2
  go_simp
  refine HK'.out _ _ trivial (fun hh => absurd hh (by decide)) ?_
  clear HK' x0 x1 H5 HS
  refine wpAnyT_done (by kernel_rfl) ?_ _
  generalize w5.setCell ⟨wg, i, none⟩ (.int .i64 wz) = w6 at *
  obtain ⟨x0, x1, x2⟩ := CG.out H6.out
  have H7 := Lib.hid (x2 true)
  have x3 := C4.out H6.out
  clear x2
  go_wp2
  go_end0
  exact ⟨rfl, FIN.out _ H7.out hs1⟩
end Go.Proofs.Ytoibbnkpfplmbaa
