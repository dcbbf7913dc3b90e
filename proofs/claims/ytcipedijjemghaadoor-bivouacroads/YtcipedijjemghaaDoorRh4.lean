/- Contracts of the heap: put. -/
import Derived.Test.YtcipedijjemghaaDoorRh3
namespace Go.Proofs.YtcipedijjemghaaDoor
open Go.RowKit Go.Sort Go.Shelf
set_option linter.unusedVariables false
set_option linter.unusedSimpArgs false
attribute [local go_sem] Oper.semAt_some

theorem Tryd.infoV : (Tryd.prog.info? 72).map (fun i => (i.zero, i.size, i.bytes)) = some (some (.agg #[.int .i64 0, .int .i64 0]), 2, 16) := by kernel_rfl
/-- 'append(s, x)' at an operation: x lies in a new block of its own. -/
theorem wp_append_visit {o : Oper} {a : Act} {K' : Act → World → Prop} {Q : Exit → Act → World → Prop} (s x : Operand)
    (ho : o.op = .call { callee := .builtin .append, args := #[s, x], argTypes := #[91, 91] })
    (base : Nat) (l : List (Int × Int)) (c y : Int) (v : Value) (w : World) (hs : a.eval s = v) (hown : Rv w base v l) (hx : a.eval x = .slice (some ⟨w.heap.size, 0, none⟩) 1 1) (hn : l.length ≤ 4999999999) (hbase : base ≤ w.heap.size)
    (h : ∀ v' w', Rv w' base v' (l ++ [(c, y)]) → Ext w v w' v' → K' (a.put o.dst v') w') : Oper.wp Tryd.prog o a (w.alloc (.cells #[.int .i64 c, .int .i64 y] 72)) K' Q := by
  have hown0 : (w.alloc (.cells #[.int .i64 c, .int .i64 y] 72)).ownsRow base 72 2 v l.length (ves l) := hown.keep (newBox _)
  obtain ⟨i0, hi, hz0, hz1, hz2⟩ := info_parts Tryd.infoV
  obtain ⟨v', w', hr, hown', hgr, hwh⟩ := append_where (P := Tryd.prog) (w.alloc (.cells #[.int .i64 c, .int .i64 y] 72)) base 91 o.type 72 i0 (.agg #[.int .i64 0, .int .i64 0]) 2 16 Tryd.underlying91 hi hz0 hz1 hz2 rfl (by decide) v l.length (ves l) hown0 ⟨w.heap.size, 0, none⟩ 1 1 (ves [(c, y)]) (by rw [ves_len]; rfl)
    (by
      intro j u hj
      have e : (⟨w.heap.size, 0, none⟩ : Addr).add j = ⟨w.heap.size, j, none⟩ := by unfold Addr.add; split <;> simp_all
      rw [e]
      match j, hj with
      | 0, hj => simp [ves] at hj; subst hj; simp
      | 1, hj => simp [ves] at hj; subst hj; simp)
    (fun u hu => ves_one hu) (by decide) (by unfold maxLen; omega) (by omega) (by simp; omega)
  unfold Oper.wp execOp
  simp only [ho, resolve, invoke, builtin, Sem.run_bind, Sem.run_pure, Result.andThen_ok, List.map_toArray, List.map_cons, List.map_nil, hs, hx, hr]
  refine h v' w' ?_ ?_
  · unfold Rv
    rw [ves_append, List.length_append]
    exact hown'
  · refine (Ext.refl w v).trans (Ext.trans ⟨below_grownBy (newBox _), .inl rfl⟩ ⟨hgr, ?_⟩)
    rcases hwh with e | e
    · exact .inl e
    · exact .inr fun k hk => by rw [e] at hk; injection hk; omega

/-- Nothing that lay has turned but block hb and the row v. -/
structure Tw (hb : Nat) (v : Value) (w w' : World) : Prop where
  os : w'.os = w.os
  tape : w'.tape = w.tape
  output : w'.output = w.output
  size : w.heap.size ≤ w'.heap.size
  block : ∀ k, k < w.heap.size → k ≠ hb → some k ≠ v.ownBlock → w'.heap[k]? = w.heap[k]?
theorem Tw.of {hb : Nat} {v : Value} {w w' : World} (h : w.grownBy w' v.ownBlock) : Tw hb v w w' := ⟨h.os, h.tape, h.output, h.size, fun k hk _ hr => h.block k hk hr⟩
theorem Tw.ofB {hb : Nat} {v : Value} {w w' : World} (h : Below w.heap.size w w') : Tw hb v w w' := Tw.of (below_grownBy h)
theorem Tw.set {hb : Nat} (v : Value) (w : World) (i : Nat) (u : Value) : Tw hb v w (w.setCell ⟨hb, i, none⟩ u) :=
  ⟨rfl, rfl, rfl, by simp, fun k _ hk _ => heap_setCell_other _ _ _ _ hk⟩
/-- Where the row may have come to. -/
def Nw (w : World) (v v' : Value) : Prop := v'.ownBlock = v.ownBlock ∨ ∀ k, v'.ownBlock = some k → w.heap.size ≤ k
theorem Nw.refl (w : World) (v : Value) : Nw w v v := .inl rfl
theorem Nw.trans {w w1 : World} {v v1 v2 : Value} (h : Nw w v v1) (k : Nw w1 v1 v2) (hs : w.heap.size ≤ w1.heap.size) : Nw w v v2 := by
  rcases k with e | e
  · rcases h with e2 | e2
    · exact .inl (e.trans e2)
    · exact .inr fun q hq => e2 q (by rw [← e]; exact hq)
  · exact .inr fun q hq => Nat.le_trans hs (e q hq)
theorem Tw.trans {hb : Nat} {v v1 : Value} {w w1 w2 : World} (h : Tw hb v w w1) (k : Tw hb v1 w1 w2) (hn : Nw w v v1) : Tw hb v w w2 :=
  ⟨k.os.trans h.os, k.tape.trans h.tape, k.output.trans h.output, Nat.le_trans h.size k.size, fun q hq h1 h2 =>
    (k.block q (Nat.lt_of_lt_of_le hq h.size) h1 (fun e => by
      rcases hn with e2 | e2
      · exact h2 (e.trans e2)
      · have := e2 q e.symm; omega)).trans (h.block q hq h1 h2)⟩
theorem Tw.below {hb B : Nat} {v : Value} {w w' : World} (h : Tw hb v w w') (hB : B ≤ w.heap.size) (h1 : B ≤ hb) (h2 : ∀ k, v.ownBlock = some k → B ≤ k) : Below B w w' :=
  ⟨h.os, h.tape, h.output, h.size, fun k hk => h.block k (by omega) (by omega) (fun e => by have := h2 k e.symm; omega)⟩

/-- A heap comes back, of these visits and one more, or one less. -/
def RetPut (base hb : Nat) (v : Value) (l : List (Int × Int)) (x : Int × Int) (w : World) (e : Ending) (w' : World) : Prop :=
  e = .returned (.tuple #[]) ∧ ∃ v' l', Hp w' base hb v' l' ∧ Hpo l' ∧ (∀ y, y ∈ l' ↔ y = x ∨ y ∈ l) ∧ l'.length = l.length + 1 ∧ Tw hb v w w' ∧ Nw w v v'

set_option maxHeartbeats 4000000 in
theorem put13_any (base hb : Nat) (v : Value) (l : List (Int × Int)) (c y : Int) (w : World) (hH : Hp w base hb v l) (ho : Hpo l) (hn : l.length ≤ 4999999999) (hbase : base ≤ w.heap.size) :
    Calls Tryd.prog 41 #[.pointer (some ⟨hb, 0, none⟩), .agg #[.int .i64 c, .int .i64 y]] w (RetPut base hb v l (c, y) w) := by
  have HX := Lib.hid (Kx.new w 72 #[.int .i64 c, .int .i64 y])
  have H1 := Lib.hid (hH.keep (newBox (w := w) (.cells #[.int .i64 c, .int .i64 y] 72)))
  have HO := Lib.hid ho
  have hlt := hH.lt
  have HLT := Lib.hid (fun k => hH.row.lt k)
  clear hH ho
  go_enter Tryd.func41, Tryd.ntmps41
  go_wp2_with fail
  have T1 : Hid (Tw hb v w (w.alloc (.cells #[.int .i64 c, .int .i64 y] 72))) := Tw.ofB (newBox _)
  generalize w.alloc (.cells #[.int .i64 c, .int .i64 y] 72) = w1 at *
  have H2 : Hid (Hp w1.drew base hb v l) := H1.out.keep (Below.refl _ _).drew
  have X2 := Lib.hid HX.out.drew
  have T2 : Hid (Tw hb v w w1.drew) := T1.out.trans (Tw.ofB ((Below.refl _ _).drew)) (Nw.refl _ _)
  refine wp_regionT (m := 10) (R := fun _ => True) (B := fun w' : World => w'.cell? ⟨hb, 0, none⟩ = some v ∧ w'.cell? ⟨w.heap.size, 0, none⟩ = some (.int .i64 c) ∧ w'.cell? ⟨w.heap.size, 1, none⟩ = some (.int .i64 y)) (by kernel_rfl) ?_
  clear T1 H1 HX
  generalize w1.drew = w2 at *
  have HS : Hid (True ∧ (fun w' : World => w'.cell? ⟨hb, 0, none⟩ = some v ∧ w'.cell? ⟨w.heap.size, 0, none⟩ = some (.int .i64 c) ∧ w'.cell? ⟨w.heap.size, 1, none⟩ = some (.int .i64 y)) w2) := ⟨trivial, H2.out.c0, X2.out.cell 0 rfl, X2.out.cell 1 rfl⟩
  simp only [List.size_toArray, List.length_cons, List.length_nil, Nat.reduceAdd, Array.replicate_succ, Array.replicate_zero, List.push_toArray, List.nil_append, List.cons_append]
  refine wpAnyT_take (i := 0) (v := ?_) rfl (by kernel_rfl) (by kernel_rfl) (by kernel_rfl) (by kernel_rfl) (by kernel_rfl) (by kernel_rfl) (fun _ _ _ h => h) (Or.inl ⟨by rfl, ?_⟩) HS.out ?_
  rotate_left
  · rintro w' ⟨-, hb0, hb1, hb2⟩
    go_simp
    with_reducible rfl
  simp only [Act.put, List.getElem_toArray, List.getElem_cons_zero, List.getElem_cons_succ, List.setIfInBounds_toArray, List.set_cons_zero, List.set_cons_succ]
  refine wpAnyT_take (i := 1) (v := ?_) rfl (by kernel_rfl) (by kernel_rfl) (by kernel_rfl) (by kernel_rfl) (by kernel_rfl) (by kernel_rfl) (fun _ _ _ h => h) (Or.inl ⟨by rfl, ?_⟩) HS.out ?_
  rotate_left
  · rintro w' ⟨-, hb0, hb1, hb2⟩
    go_simp
    with_reducible rfl
  simp only [Act.put, List.getElem_toArray, List.getElem_cons_zero, List.getElem_cons_succ, List.setIfInBounds_toArray, List.set_cons_zero, List.set_cons_succ]
  refine wpAnyT_take (i := 2) (v := ?_) rfl (by kernel_rfl) (by kernel_rfl) (by kernel_rfl) (by kernel_rfl) (by kernel_rfl) (by kernel_rfl) (fun _ _ _ h => h) (Or.inl ⟨by rfl, ?_⟩) HS.out ?_
  rotate_left
  · rintro w' ⟨-, hb0, hb1, hb2⟩
    go_simp
    with_reducible rfl
  simp only [Act.put, List.getElem_toArray, List.getElem_cons_zero, List.getElem_cons_succ, List.setIfInBounds_toArray, List.set_cons_zero, List.set_cons_succ]
  refine wpAnyT_take (i := 3) (v := ?_) rfl (by kernel_rfl) (by kernel_rfl) (by kernel_rfl) (by kernel_rfl) (by kernel_rfl) (by kernel_rfl) (fun _ _ _ h => h) (Or.inl ⟨by rfl, ?_⟩) HS.out ?_
  rotate_left
  · rintro w' ⟨-, hb0, hb1, hb2⟩
    go_simp
    with_reducible rfl
  simp only [Act.put, List.getElem_toArray, List.getElem_cons_zero, List.getElem_cons_succ, List.setIfInBounds_toArray, List.set_cons_zero, List.set_cons_succ]
  refine wpAnyT_take (i := 4) (v := ?_) rfl (by kernel_rfl) (by kernel_rfl) (by kernel_rfl) (by kernel_rfl) (by kernel_rfl) (by kernel_rfl) (fun _ _ _ h => h) (Or.inl ⟨by rfl, ?_⟩) HS.out ?_
  rotate_left
  · rintro w' ⟨-, hb0, hb1, hb2⟩
    go_simp
    with_reducible rfl
  simp only [Act.put, List.getElem_toArray, List.getElem_cons_zero, List.getElem_cons_succ, List.setIfInBounds_toArray, List.set_cons_zero, List.set_cons_succ]
  refine wpAnyT_take (i := 5) (v := ?_) rfl (by kernel_rfl) (by kernel_rfl) (by kernel_rfl) (by kernel_rfl) (by kernel_rfl) (by kernel_rfl) (fun _ _ _ h => h) (Or.inl ⟨by rfl, ?_⟩) HS.out ?_
  rotate_left
  · rintro w' ⟨-, hb0, hb1, hb2⟩
    go_simp
    with_reducible rfl
  simp only [Act.put, List.getElem_toArray, List.getElem_cons_zero, List.getElem_cons_succ, List.setIfInBounds_toArray, List.set_cons_zero, List.set_cons_succ]
  refine wpAnyT_one (i := 6) (by kernel_rfl) rfl (fun K' hK => ?_)
  rw [if_pos (by rfl)]
  simp only [List.getElem_toArray, List.getElem_cons_zero, List.getElem_cons_succ, List.setIfInBounds_toArray, List.set_cons_zero, List.set_cons_succ] at hK ⊢
  have HK' := Lib.hid hK
  clear hK
  go_simp
  have HB6 : Hid ((fun w' : World => w'.cell? ⟨hb, 0, none⟩ = some v ∧ w'.cell? ⟨w.heap.size, 0, none⟩ = some (.int .i64 c) ∧ w'.cell? ⟨w.heap.size, 1, none⟩ = some (.int .i64 y)) (w2.alloc (.cells #[.int .i64 c, .int .i64 y] 72))) := ⟨kc (newBox _) HS.out.2.1, kc (newBox _) HS.out.2.2.1, kc (newBox _) HS.out.2.2.2⟩
  refine HK'.out _ _ trivial (fun _ => HB6.out) ?_
  clear HK' HB6
  refine wpAnyT_one (i := 7) (by kernel_rfl) rfl (fun K' hK => ?_)
  rw [if_pos (by rfl)]
  simp only [List.getElem_toArray, List.getElem_cons_zero, List.getElem_cons_succ, List.setIfInBounds_toArray, List.set_cons_zero, List.set_cons_succ] at hK ⊢
  have HK' := Lib.hid hK
  clear hK
  refine wp_append_visit (.tmp 9) (.tmp 11) rfl base l c y v w2 rfl H2.out.row rfl hn (Nat.le_trans hbase T2.out.size) ?_
  intro v' w3 hr3 he3
  have hlen : (l ++ [(c, y)]).length = l.length + 1 := by simp
  obtain ⟨g, cap, cur, ev, q1, q2, q3, q4, q5, q6, q7⟩ := hr3.big (by omega)
  rw [hlen] at ev q1
  subst ev
  unfold maxLen at q2
  clear q3 q4 q5 q6 q7
  have hs2 := X2.out.lt
  have hnr : some hb ≠ v.ownBlock := H2.out.not_row
  have BK3 : Hid (w3.heap[hb]? = some (.cells #[v, vfn] 93 (0, 0))) := (he3.grown.block hb H2.out.lt hnr).trans H2.out.blk
  have bx3 : w3.heap[w.heap.size]? = w2.heap[w.heap.size]? := he3.grown.block _ hs2 (fun e => by have := (HLT.out _ e.symm).2; omega)
  have HB7 : Hid ((fun w' : World => w'.cell? ⟨hb, 0, none⟩ = some v ∧ w'.cell? ⟨w.heap.size, 0, none⟩ = some (.int .i64 c) ∧ w'.cell? ⟨w.heap.size, 1, none⟩ = some (.int .i64 y)) w3) := by
    refine ⟨by rw [cell_of_row w3 hb 0 _ _ (0, 0) BK3.out]; rfl, ?_, ?_⟩
    · rw [cell_of_row w3 w.heap.size 0 _ _ (0, 0) (bx3.trans X2.out.blk)]; rfl
    · rw [cell_of_row w3 w.heap.size 1 _ _ (0, 0) (bx3.trans X2.out.blk)]; rfl
  refine HK'.out _ _ trivial (fun _ => HB7.out) ?_
  clear HK' bx3
  have R3 := Lib.hid hr3
  have T3 : Hid (Tw hb v w w3) := T2.out.trans (Tw.of he3.grown) (Nw.refl _ _)
  have N3 : Hid (Nw w v (.slice (some ⟨g, 0, none⟩) (l.length + 1) cap)) := by
    rcases he3.row with e | e
    · exact .inl e
    · exact .inr fun k hk => Nat.le_trans T2.out.size (e k hk)
  have hlt3 : hb < w3.heap.size := Nat.lt_of_lt_of_le hlt T3.out.size
  clear hr3 he3 hs2
  refine wpAnyT_one (i := 8) (by kernel_rfl) rfl (fun K' hK => ?_)
  rw [if_pos (by rfl)]
  simp only [List.getElem_toArray, List.getElem_cons_zero, List.getElem_cons_succ, List.setIfInBounds_toArray, List.set_cons_zero, List.set_cons_succ] at hK ⊢
  have HK' := Lib.hid hK
  clear hK
  go_simp
  refine HK'.out _ _ trivial (fun _ => HB7.out) ?_
  clear HK'
  refine wpAnyT_one (i := 9) (by kernel_rfl) rfl (fun K' hK => ?_)
  rw [if_pos (by rfl)]
  simp only [List.getElem_toArray, List.getElem_cons_zero, List.getElem_cons_succ, List.setIfInBounds_toArray, List.set_cons_zero, List.set_cons_succ] at hK ⊢
  have HK' := Lib.hid hK
  clear hK
  go_simp
  refine HK'.out _ _ trivial (fun _ => HB7.out) ?_
  clear HK'
  refine wpAnyT_one (i := 10) (by kernel_rfl) rfl (fun K' hK => ?_)
  rw [if_pos (by rfl)]
  simp only [List.getElem_toArray, List.getElem_cons_zero, List.getElem_cons_succ, List.setIfInBounds_toArray, List.set_cons_zero, List.set_cons_succ] at hK ⊢
  have HK' := Lib.hid hK
  clear hK
  have c0 := HB7.out.1
  have f0 : w3.frozen? ⟨hb, 0, none⟩ = false := by simp [World.frozen?, BK3.out]
  go_simp
  refine HK'.out _ _ trivial (fun hh => absurd hh (by decide)) ?_
  clear HK' c0 f0 HB7
  refine wpAnyT_done (by kernel_rfl) ?_ _
  have hnr3 : some hb ≠ (Value.slice (some ⟨g, 0, none⟩) (l.length + 1) cap).ownBlock := blk_not_row BK3.out (by decide) R3.out
  have H4 : Hid (Hp (w3.setCell ⟨hb, 0, none⟩ (.slice (some ⟨g, 0, none⟩) (l.length + 1) cap)) base hb (.slice (some ⟨g, 0, none⟩) (l.length + 1) cap) (l ++ [(c, y)])) :=
    ⟨H2.out.ge, setCell_blk BK3.out _, R3.out.kept (grown_set w3 hb 0 _) (.inr (Ne.symm hnr3)), by simp; omega⟩
  have T4 : Hid (Tw hb v w (w3.setCell ⟨hb, 0, none⟩ (.slice (some ⟨g, 0, none⟩) (l.length + 1) cap))) := T3.out.trans (Tw.set v w3 0 _) (Nw.refl _ _)
  have U4 := Lib.hid (Upo.start HO.out (c, y))
  have M4 : Hid (∀ z, z ∈ l ++ [(c, y)] ↔ z = (c, y) ∨ z ∈ l) := by
    intro z; simp; exact Or.comm
  clear hnr hnr3 BK3 T3 T2 H2 X2 HS HO HLT hlt3
  generalize hW : w3.setCell ⟨hb, 0, none⟩ (.slice (some ⟨g, 0, none⟩) (l.length + 1) cap) = w4 at *
  clear hW
  have c0 := H4.out.c0
  go_wp2
  clear c0
  go_loopw [4] (fun s4 wr => ∃ (k : Nat) (l2 : List (Int × Int)), s4 = .int .i64 (k : Int) ∧ Hid (Hp wr base hb (.slice (some ⟨g, 0, none⟩) (l.length + 1) cap) l2) ∧ Hid (Upo l2 k) ∧ Hid (∀ z, z ∈ l2 ↔ z = (c, y) ∨ z ∈ l) ∧ l2.length = l.length + 1 ∧ Hid (w4.grownBy wr (some g))) (fun s4 _ => (intOf s4).toNat)
  case atStart => exact ⟨l.length, l ++ [(c, y)], by go_num, H4.out, U4.out, M4.out, hlen, ⟨rfl, rfl, rfl, Nat.le_refl _, fun _ _ _ => rfl⟩⟩
  case round =>
    obtain ⟨k, l2, rfl, hP, hU, hM, hl2, hG⟩ := hrel
    have hkl : k < l.length + 1 := by have := hU.out.1; omega
    have FIN : Hid (∀ l3 wz, Hp wz base hb (.slice (some ⟨g, 0, none⟩) (l.length + 1) cap) l3 → Hpo l3 → (∀ z, z ∈ l3 ↔ z = (c, y) ∨ z ∈ l) → l3.length = l.length + 1 → w4.grownBy wz (some g) → ∃ v' l', Hp wz base hb v' l' ∧ Hpo l' ∧ (∀ z, z ∈ l' ↔ z = (c, y) ∨ z ∈ l) ∧ l'.length = l.length + 1 ∧ Tw hb v w wz ∧ Nw w v v') :=
      fun l3 wz a1 a2 a3 a4 a5 => ⟨_, l3, a1, a2, a3, a4, T4.out.trans (v1 := .slice (some ⟨g, 0, none⟩) (l.length + 1) cap) (Tw.of a5) N3.out, N3.out⟩
    by_cases h0 : k = 0
    · subst h0
      have HF := Lib.hid (FIN.out l2 wr hP.out (hU.out.stop (.inl rfl)) hM.out hl2 hG.out)
      clear hU hM FIN hP hG
      go_wp2
      go_end0
      exact ⟨rfl, HF.out⟩
    · have hk1 : k ≠ (k - 1) / 2 := by omega
      have hkp : (k - 1) / 2 < l2.length := by omega
      have hms : (k - 1) / 2 < k := by omega
      have hk0 : 0 < k := by omega
      have hkl2 : k < l2.length := by omega
      have C := Lib.hid (rises13_any base hb (.slice (some ⟨g, 0, none⟩) (l.length + 1) cap) l2 k ((k - 1) / 2) wr hP.out hkl2 hkp hk1)
      have hkI : (0 : Int) < (k : Int) := by omega
      have HQ : Hid (((k : Int) - 1) / 2 = (((k - 1) / 2 : Nat) : Int)) := by show _ = _; omega
      have HS := Lib.hid (fun hlt => hU.out.swap hk0 hlt)
      have HST := Lib.hid (fun hlt => hU.out.stop (.inr hlt))
      have HMS : Hid (∀ z, z ∈ sw l2 k ((k - 1) / 2) ↔ z = (c, y) ∨ z ∈ l) := fun z => (mem_sw hkl2 hkp).trans (hM.out z)
      clear hU hP
      generalize hpp : (k - 1) / 2 = p at *
      clear hpp hk1
      have hkd : decide ((0 : Int) < (k : Int)) = true := decide_eq_true hkI
      clear h0
      go_wp2_with fail
      rw [HQ.out]
      refine C.out.mono ?_
      rintro e w5 ⟨rfl, hP5, hG5⟩
      have G5 : Hid (w4.grownBy w5 (some g)) := grownBy_trans hG.out hG5 (fun r e => .inr e)
      clear hG5 C hG
      cases hd : decide (ky l2 k < ky l2 p) with
      | true =>
        have hy : ky l2 k < ky l2 p := of_decide_eq_true hd
        rw [if_pos hy] at hP5
        have HP5 := Lib.hid hP5
        have HU5 := Lib.hid (HS.out hy)
        have hl5 : (sw l2 k p).length = l.length + 1 := by rw [sw_len]; exact hl2
        clear hd hy hP5 HS HST FIN hM
        go_wp2
        go_roundw
        case rel => exact ⟨p, _, by rw [HQ.out], HP5.out, HU5.out, HMS.out, hl5, G5.out⟩
        case measure => simp [intOf]; omega
      | false =>
        have hy : ¬ ky l2 k < ky l2 p := of_decide_eq_false hd
        rw [if_neg hy] at hP5
        have HF := Lib.hid (FIN.out l2 w5 hP5 (HST.out (Int.not_lt.1 hy)) hM.out hl2 G5.out)
        clear hd hy hP5 HS HST FIN hM HMS
        go_wp2
        go_end0
        exact ⟨rfl, HF.out⟩
end Go.Proofs.YtcipedijjemghaaDoor
