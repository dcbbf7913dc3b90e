/- Contracts of the heap: take. -/
import Derived.Test.YtcipedijjemghaaDoorRh4
namespace Go.Proofs.YtcipedijjemghaaDoor
open Go.RowKit Go.Sort Go.Shelf
set_option linter.unusedVariables false
set_option linter.unusedSimpArgs false
attribute [local go_sem] Oper.semAt_some

theorem Rv.shrink {w : World} {base g n cap m : Nat} {l : List (Int × Int)} (h : Rv w base (.slice (some ⟨g, 0, none⟩) n cap) l) (h0 : 0 < l.length) (hm : m ≤ l.length) : Rv w base (.slice (some ⟨g, 0, none⟩) m cap) (l.take m) := by
  obtain ⟨g', cap', cur, e, h1, h2, h3, h4, hh, hcs, htk⟩ := h.big h0
  injection e with e1 e2 e3
  injection e1 with e1
  injection e1 with e1
  subst e1 e2 e3
  have hl : (l.take m).length = m := by simp; omega
  refine ⟨by rw [ves_len], .inr ⟨g, cap, cur, by rw [hl], h3, hh, by rw [hl]; omega, h2, hcs, ?_⟩⟩
  rw [hl]
  refine arr_take (by rw [ves_len, hl]) fun j hj => ?_
  have old : cur[j]? = (ves l)[j]? := by rw [← htk, List.getElem?_take_of_lt (by omega), Array.getElem?_toList]
  rw [old, ves_at _ _ (by omega), ves_at _ _ (by omega)]
  have e : at13 (l.take m) (j / 2) = at13 l (j / 2) := by
    unfold at13
    simp only [List.getD_eq_getElem?_getD]
    rw [List.getElem?_take_of_lt (by omega)]
  rw [e]

/-- Nothing is taken from an empty heap. -/
def RetT0 (base hb : Nat) (v : Value) (w : World) (e : Ending) (w' : World) : Prop :=
  e = .returned (.tuple #[.agg #[.int .i64 0, .int .i64 0], .bool false]) ∧ Hp w' base hb v [] ∧ Below w.heap.size w w'
/-- The first one is taken. -/
def RetT1 (base hb : Nat) (v : Value) (l : List (Int × Int)) (w : World) (e : Ending) (w' : World) : Prop :=
  e = .returned (.tuple #[.agg #[.int .i64 (at13 l 0).1, .int .i64 (at13 l 0).2], .bool true]) ∧ ∃ v' l', Hp w' base hb v' l' ∧ Hpo l' ∧ (∀ y, y ∈ l ↔ y = at13 l 0 ∨ y ∈ l') ∧ l'.length + 1 = l.length ∧ Tw hb v w w' ∧ Nw w v v'

set_option maxHeartbeats 4000000 in
theorem take13_none (base hb : Nat) (v : Value) (w : World) (hH : Hp w base hb v []) :
    Calls Tryd.prog 42 #[.pointer (some ⟨hb, 0, none⟩)] w (RetT0 base hb v w) := by
  obtain ⟨A, cap, ev, q1, q2⟩ := hH.row.slice
  simp only [List.length_nil] at ev
  subst ev
  have K0 := Lib.hid ((Kx.new w 72 #[.int .i64 0, .int .i64 0]).alloc (.cells #[.int .i64 0, .int .i64 0] 72))
  have K1 : Hid (Kx w (w.heap.size + 1) ((w.alloc (.cells #[.int .i64 0, .int .i64 0] 72)).alloc (.cells #[.int .i64 0, .int .i64 0] 72)) 72 #[.int .i64 0, .int .i64 0]) := by
    have := Kx.next (newBox (w := w) (.cells #[.int .i64 0, .int .i64 0] 72)) 72 #[.int .i64 0, .int .i64 0]
    rw [size_alloc] at this
    exact this
  have H1 := Lib.hid (hH.keep K0.out.below)
  have hlt := hH.lt
  clear hH
  go_enter Tryd.func42, Tryd.ntmps42
  have c0 := H1.out.c0
  go_wp2
  generalize (w.alloc (.cells #[.int .i64 0, .int .i64 0] 72)).alloc (.cells #[.int .i64 0, .int .i64 0] 72) = w1 at *
  have d0 := K0.out.cell 0 rfl
  have d1 := K0.out.cell 1 rfl
  refine bodyPost_ret (v := .tuple #[.agg #[.int .i64 0, .int .i64 0], .bool false]) (by simp [results, Tryd.results42, go_sem, d0, d1]) rfl ?_
  exact ⟨rfl, H1.out, K0.out.below⟩

theorem Tw.over {hb b : Nat} {v : Value} {w w1 w2 : World} (h : Tw hb v w w1) (g : w1.grownBy w2 (some b)) (hb' : w.heap.size ≤ b) : Tw hb v w w2 :=
  ⟨g.os.trans h.os, g.tape.trans h.tape, g.output.trans h.output, Nat.le_trans h.size g.size, fun k hk h1 h2 =>
    (g.block k (Nat.lt_of_lt_of_le hk h.size) (fun e => by injection e with e; omega)).trans (h.block k hk h1 h2)⟩
theorem grown_two (W : World) (b i j : Nat) (v x : Value) : W.grownBy ((W.setCell ⟨b, i, none⟩ v).setCell ⟨b, j, none⟩ x) (some b) :=
  grownBy_trans (grown_set _ _ _ _) (grown_set _ _ _ _) (fun r e => .inr e)

set_option maxHeartbeats 8000000 in
theorem take13_some (base hb : Nat) (v : Value) (l : List (Int × Int)) (w : World) (hH : Hp w base hb v l) (ho : Hpo l) (h0 : 0 < l.length) :
    Calls Tryd.prog 42 #[.pointer (some ⟨hb, 0, none⟩)] w (RetT1 base hb v l w) := by
  obtain ⟨g, cap, cur, rfl, q1, q2, q3, q4, q5, q6, q7⟩ := hH.row.big h0
  have hl := hH.len
  unfold maxLen at q2
  have HO := Lib.hid ho
  have K0 := Lib.hid ((Kx.new w 72 #[.int .i64 0, .int .i64 0]).alloc (.cells #[.int .i64 0, .int .i64 0] 72))
  have K1 : Hid (Kx w (w.heap.size + 1) ((w.alloc (.cells #[.int .i64 0, .int .i64 0] 72)).alloc (.cells #[.int .i64 0, .int .i64 0] 72)) 72 #[.int .i64 0, .int .i64 0]) := by
    have := Kx.next (newBox (w := w) (.cells #[.int .i64 0, .int .i64 0] 72)) 72 #[.int .i64 0, .int .i64 0]
    rw [size_alloc] at this
    exact this
  have H1 := Lib.hid (hH.keep K0.out.below)
  have hlt := hH.lt
  have c0 := H1.out.c0
  have hne0 : ((l.length : Int) == 0) = false := beq_eq_false_iff_ne.2 (by omega)
  have hlI : (l.length : Int) ≤ 5000000000 := by omega
  have LE : Hid ((l.length : Int) - 1 = ((l.length - 1 : Nat) : Int)) := by show _ = _; omega
  clear hH ho q5 q6 q7 q3
  go_enter Tryd.func42, Tryd.ntmps42
  go_wp2_with fail
  rw [LE.out]
  have T1 : Hid (Tw hb (.slice (some ⟨g, 0, none⟩) l.length cap) w ((w.alloc (.cells #[.int .i64 0, .int .i64 0] 72)).alloc (.cells #[.int .i64 0, .int .i64 0] 72))) := Tw.ofB K0.out.below
  generalize (w.alloc (.cells #[.int .i64 0, .int .i64 0] 72)).alloc (.cells #[.int .i64 0, .int .i64 0] 72) = w1 at *
  clear c0
  have HB0 : Hid ((fun w' : World => w'.cell? ⟨hb, 0, none⟩ = some (.slice (some ⟨g, 0, none⟩) l.length cap) ∧ w'.cell? ⟨g, 0, none⟩ = some (.int .i64 (at13 l 0).1) ∧ w'.cell? ⟨g, 1, none⟩ = some (.int .i64 (at13 l 0).2) ∧ w'.cell? ⟨g, (l.length - 1) * 2, none⟩ = some (.int .i64 (at13 l (l.length - 1)).1) ∧ w'.cell? ⟨g, (l.length - 1) * 2 + 1, none⟩ = some (.int .i64 (at13 l (l.length - 1)).2)) w1) := by
    obtain ⟨r1, r2, _, _⟩ := H1.out.row.cells (i := 0) h0
    obtain ⟨r3, r4, _, _⟩ := H1.out.row.cells (i := l.length - 1) (by omega)
    exact ⟨H1.out.c0, r1, r2, r3, r4⟩
  have FZ : Hid (w1.frozen? ⟨g, 0, none⟩ = false ∧ w1.frozen? ⟨g, 1, none⟩ = false) := by
    obtain ⟨_, _, r3, r4⟩ := H1.out.row.cells (i := 0) h0
    exact ⟨r3, r4⟩
  have HSET := Lib.hid (H1.out.row.set (i := 0) h0 (at13 l (l.length - 1)).1 (at13 l (l.length - 1)).2)
  have HLAST := Lib.hid (mem_tk (e := at13 l 0) h0)
  have DN := Lib.hid (Dno.start HO.out)
  have MT : Hid (∀ e, e ∈ l ↔ e = at13 l 0 ∨ e ∈ tk l) := fun e => mem_tk h0
  have TL : Hid (tk l = (l.set 0 ((at13 l (l.length - 1)).1, (at13 l (l.length - 1)).2)).take (l.length - 1)) := rfl
  clear HLAST HO
  obtain ⟨fc, hfc⟩ : ∃ z, (at13 l 0).1 = z := ⟨_, rfl⟩
  obtain ⟨fx, hfx⟩ : ∃ z, (at13 l 0).2 = z := ⟨_, rfl⟩
  obtain ⟨ec, hec⟩ : ∃ z, (at13 l (l.length - 1)).1 = z := ⟨_, rfl⟩
  obtain ⟨ex, hex⟩ : ∃ z, (at13 l (l.length - 1)).2 = z := ⟨_, rfl⟩
  have HFIN : Hid (at13 l 0 = (fc, fx)) := by show _ = _; rw [← hfc, ← hfx]
  rw [hfc, hfx, hec, hex] at HB0
  rw [hec, hex] at HSET TL
  clear hfc hfx hec hex
  obtain ⟨m, hm⟩ : ∃ m, l.length - 1 = m := ⟨_, rfl⟩
  rw [hm] at HB0 TL ⊢
  have hmI : (m : Int) < (l.length : Int) := by omega
  have hm0 : (0 : Int) < (l.length : Int) := by omega
  refine wp_regionT (m := 19) (R := fun _ => True) (B := fun w' : World => w'.cell? ⟨hb, 0, none⟩ = some (.slice (some ⟨g, 0, none⟩) l.length cap) ∧ w'.cell? ⟨g, 0, none⟩ = some (.int .i64 fc) ∧ w'.cell? ⟨g, 1, none⟩ = some (.int .i64 fx) ∧ w'.cell? ⟨g, m * 2, none⟩ = some (.int .i64 ec) ∧ w'.cell? ⟨g, m * 2 + 1, none⟩ = some (.int .i64 ex)) (by kernel_rfl) ?_
  have H2 : Hid (Hp w1.drew base hb (.slice (some ⟨g, 0, none⟩) l.length cap) l) := H1.out.keep (Below.refl _ _).drew
  have T2 : Hid (Tw hb (.slice (some ⟨g, 0, none⟩) l.length cap) w w1.drew) := T1.out.trans (Tw.ofB ((Below.refl _ _).drew)) (Nw.refl _ _)
  have X0 := Lib.hid K0.out.drew
  have X1 := Lib.hid K1.out.drew
  have HB1 : Hid ((fun w' : World => w'.cell? ⟨hb, 0, none⟩ = some (.slice (some ⟨g, 0, none⟩) l.length cap) ∧ w'.cell? ⟨g, 0, none⟩ = some (.int .i64 fc) ∧ w'.cell? ⟨g, 1, none⟩ = some (.int .i64 fx) ∧ w'.cell? ⟨g, m * 2, none⟩ = some (.int .i64 ec) ∧ w'.cell? ⟨g, m * 2 + 1, none⟩ = some (.int .i64 ex)) w1.drew) := HB0.out
  have F1 : Hid (w1.drew.frozen? ⟨g, 0, none⟩ = false ∧ w1.drew.frozen? ⟨g, 1, none⟩ = false) := FZ.out
  have HSET2 : Hid (Rv ((w1.drew.setCell ⟨g, 0, none⟩ (.int .i64 ec)).setCell ⟨g, 1, none⟩ (.int .i64 ex)) base (.slice (some ⟨g, 0, none⟩) l.length cap) (l.set 0 (ec, ex))) := by
    show Rv _ _ _ _
    have := H2.out.row.set (i := 0) h0 ec ex
    simpa using this
  clear T1 H1 K0 K1 HB0 FZ HSET
  generalize w1.drew = w2 at *
  have HS : Hid (True ∧ (fun w' : World => w'.cell? ⟨hb, 0, none⟩ = some (.slice (some ⟨g, 0, none⟩) l.length cap) ∧ w'.cell? ⟨g, 0, none⟩ = some (.int .i64 fc) ∧ w'.cell? ⟨g, 1, none⟩ = some (.int .i64 fx) ∧ w'.cell? ⟨g, m * 2, none⟩ = some (.int .i64 ec) ∧ w'.cell? ⟨g, m * 2 + 1, none⟩ = some (.int .i64 ex)) w2) := ⟨trivial, HB1.out⟩
  simp only [List.size_toArray, List.length_cons, List.length_nil, Nat.reduceAdd, Array.replicate_succ, Array.replicate_zero, List.push_toArray, List.nil_append, List.cons_append]
  refine wpAnyT_take (i := 0) (v := ?_) rfl (by kernel_rfl) (by kernel_rfl) (by kernel_rfl) (by kernel_rfl) (by kernel_rfl) (by kernel_rfl) (fun _ _ _ h => h) (Or.inl ⟨by rfl, ?_⟩) HS.out ?_
  rotate_left
  · rintro w' ⟨-, hb0, hb1, hb2, hb3, hb4⟩
    go_simp
    with_reducible rfl
  simp only [Act.put, List.getElem_toArray, List.getElem_cons_zero, List.getElem_cons_succ, List.setIfInBounds_toArray, List.set_cons_zero, List.set_cons_succ]
  refine wpAnyT_take (i := 1) (v := ?_) rfl (by kernel_rfl) (by kernel_rfl) (by kernel_rfl) (by kernel_rfl) (by kernel_rfl) (by kernel_rfl) (fun _ _ _ h => h) (Or.inl ⟨by rfl, ?_⟩) HS.out ?_
  rotate_left
  · rintro w' ⟨-, hb0, hb1, hb2, hb3, hb4⟩
    go_simp
    with_reducible rfl
  simp only [Act.put, List.getElem_toArray, List.getElem_cons_zero, List.getElem_cons_succ, List.setIfInBounds_toArray, List.set_cons_zero, List.set_cons_succ]
  refine wpAnyT_take (i := 2) (v := ?_) rfl (by kernel_rfl) (by kernel_rfl) (by kernel_rfl) (by kernel_rfl) (by kernel_rfl) (by kernel_rfl) (fun _ _ _ h => h) (Or.inl ⟨by rfl, ?_⟩) HS.out ?_
  rotate_left
  · rintro w' ⟨-, hb0, hb1, hb2, hb3, hb4⟩
    go_simp
    with_reducible rfl
  simp only [Act.put, List.getElem_toArray, List.getElem_cons_zero, List.getElem_cons_succ, List.setIfInBounds_toArray, List.set_cons_zero, List.set_cons_succ]
  refine wpAnyT_take (i := 3) (v := ?_) rfl (by kernel_rfl) (by kernel_rfl) (by kernel_rfl) (by kernel_rfl) (by kernel_rfl) (by kernel_rfl) (fun _ _ _ h => h) (Or.inl ⟨by rfl, ?_⟩) HS.out ?_
  rotate_left
  · rintro w' ⟨-, hb0, hb1, hb2, hb3, hb4⟩
    go_simp
    with_reducible rfl
  simp only [Act.put, List.getElem_toArray, List.getElem_cons_zero, List.getElem_cons_succ, List.setIfInBounds_toArray, List.set_cons_zero, List.set_cons_succ]
  refine wpAnyT_take (i := 4) (v := ?_) rfl (by kernel_rfl) (by kernel_rfl) (by kernel_rfl) (by kernel_rfl) (by kernel_rfl) (by kernel_rfl) (fun _ _ _ h => h) (Or.inl ⟨by rfl, ?_⟩) HS.out ?_
  rotate_left
  · rintro w' ⟨-, hb0, hb1, hb2, hb3, hb4⟩
    go_simp
    with_reducible rfl
  simp only [Act.put, List.getElem_toArray, List.getElem_cons_zero, List.getElem_cons_succ, List.setIfInBounds_toArray, List.set_cons_zero, List.set_cons_succ]
  refine wpAnyT_take (i := 5) (v := ?_) rfl (by kernel_rfl) (by kernel_rfl) (by kernel_rfl) (by kernel_rfl) (by kernel_rfl) (by kernel_rfl) (fun _ _ _ h => h) (Or.inl ⟨by rfl, ?_⟩) HS.out ?_
  rotate_left
  · rintro w' ⟨-, hb0, hb1, hb2, hb3, hb4⟩
    go_simp
    with_reducible rfl
  simp only [Act.put, List.getElem_toArray, List.getElem_cons_zero, List.getElem_cons_succ, List.setIfInBounds_toArray, List.set_cons_zero, List.set_cons_succ]
  refine wpAnyT_take (i := 6) (v := ?_) rfl (by kernel_rfl) (by kernel_rfl) (by kernel_rfl) (by kernel_rfl) (by kernel_rfl) (by kernel_rfl) (fun _ _ _ h => h) (Or.inl ⟨by rfl, ?_⟩) HS.out ?_
  rotate_left
  · rintro w' ⟨-, hb0, hb1, hb2, hb3, hb4⟩
    go_simp
    with_reducible rfl
  simp only [Act.put, List.getElem_toArray, List.getElem_cons_zero, List.getElem_cons_succ, List.setIfInBounds_toArray, List.set_cons_zero, List.set_cons_succ]
  refine wpAnyT_take (i := 7) (v := ?_) rfl (by kernel_rfl) (by kernel_rfl) (by kernel_rfl) (by kernel_rfl) (by kernel_rfl) (by kernel_rfl) (fun _ _ _ h => h) (Or.inl ⟨by rfl, ?_⟩) HS.out ?_
  rotate_left
  · rintro w' ⟨-, hb0, hb1, hb2, hb3, hb4⟩
    go_simp
    with_reducible rfl
  simp only [Act.put, List.getElem_toArray, List.getElem_cons_zero, List.getElem_cons_succ, List.setIfInBounds_toArray, List.set_cons_zero, List.set_cons_succ]
  refine wpAnyT_take (i := 8) (v := ?_) rfl (by kernel_rfl) (by kernel_rfl) (by kernel_rfl) (by kernel_rfl) (by kernel_rfl) (by kernel_rfl) (fun _ _ _ h => h) (Or.inl ⟨by rfl, ?_⟩) HS.out ?_
  rotate_left
  · rintro w' ⟨-, hb0, hb1, hb2, hb3, hb4⟩
    go_simp
    with_reducible rfl
  simp only [Act.put, List.getElem_toArray, List.getElem_cons_zero, List.getElem_cons_succ, List.setIfInBounds_toArray, List.set_cons_zero, List.set_cons_succ]
  refine wpAnyT_take (i := 9) (v := ?_) rfl (by kernel_rfl) (by kernel_rfl) (by kernel_rfl) (by kernel_rfl) (by kernel_rfl) (by kernel_rfl) (fun _ _ _ h => h) (Or.inl ⟨by rfl, ?_⟩) HS.out ?_
  rotate_left
  · rintro w' ⟨-, hb0, hb1, hb2, hb3, hb4⟩
    go_simp
    with_reducible rfl
  simp only [Act.put, List.getElem_toArray, List.getElem_cons_zero, List.getElem_cons_succ, List.setIfInBounds_toArray, List.set_cons_zero, List.set_cons_succ]
  refine wpAnyT_take (i := 10) (v := ?_) rfl (by kernel_rfl) (by kernel_rfl) (by kernel_rfl) (by kernel_rfl) (by kernel_rfl) (by kernel_rfl) (fun _ _ _ h => h) (Or.inl ⟨by rfl, ?_⟩) HS.out ?_
  rotate_left
  · rintro w' ⟨-, hb0, hb1, hb2, hb3, hb4⟩
    go_simp
    with_reducible rfl
  simp only [Act.put, List.getElem_toArray, List.getElem_cons_zero, List.getElem_cons_succ, List.setIfInBounds_toArray, List.set_cons_zero, List.set_cons_succ]
  refine wpAnyT_take (i := 11) (v := ?_) rfl (by kernel_rfl) (by kernel_rfl) (by kernel_rfl) (by kernel_rfl) (by kernel_rfl) (by kernel_rfl) (fun _ _ _ h => h) (Or.inl ⟨by rfl, ?_⟩) HS.out ?_
  rotate_left
  · rintro w' ⟨-, hb0, hb1, hb2, hb3, hb4⟩
    go_simp
    with_reducible rfl
  simp only [Act.put, List.getElem_toArray, List.getElem_cons_zero, List.getElem_cons_succ, List.setIfInBounds_toArray, List.set_cons_zero, List.set_cons_succ]
  refine wpAnyT_take (i := 12) (v := ?_) rfl (by kernel_rfl) (by kernel_rfl) (by kernel_rfl) (by kernel_rfl) (by kernel_rfl) (by kernel_rfl) (fun _ _ _ h => h) (Or.inl ⟨by rfl, ?_⟩) HS.out ?_
  rotate_left
  · rintro w' ⟨-, hb0, hb1, hb2, hb3, hb4⟩
    go_simp
    with_reducible rfl
  simp only [Act.put, List.getElem_toArray, List.getElem_cons_zero, List.getElem_cons_succ, List.setIfInBounds_toArray, List.set_cons_zero, List.set_cons_succ]
  refine wpAnyT_take (i := 13) (v := ?_) rfl (by kernel_rfl) (by kernel_rfl) (by kernel_rfl) (by kernel_rfl) (by kernel_rfl) (by kernel_rfl) (fun _ _ _ h => h) (Or.inl ⟨by rfl, ?_⟩) HS.out ?_
  rotate_left
  · rintro w' ⟨-, hb0, hb1, hb2, hb3, hb4⟩
    go_simp
    with_reducible rfl
  simp only [Act.put, List.getElem_toArray, List.getElem_cons_zero, List.getElem_cons_succ, List.setIfInBounds_toArray, List.set_cons_zero, List.set_cons_succ]
  refine wpAnyT_take (i := 14) (v := ?_) rfl (by kernel_rfl) (by kernel_rfl) (by kernel_rfl) (by kernel_rfl) (by kernel_rfl) (by kernel_rfl) (fun _ _ _ h => h) (Or.inl ⟨by rfl, ?_⟩) HS.out ?_
  rotate_left
  · rintro w' ⟨-, hb0, hb1, hb2, hb3, hb4⟩
    go_simp
    with_reducible rfl
  simp only [Act.put, List.getElem_toArray, List.getElem_cons_zero, List.getElem_cons_succ, List.setIfInBounds_toArray, List.set_cons_zero, List.set_cons_succ]
  refine wpAnyT_take (i := 15) (v := ?_) rfl (by kernel_rfl) (by kernel_rfl) (by kernel_rfl) (by kernel_rfl) (by kernel_rfl) (by kernel_rfl) (fun _ _ _ h => h) (Or.inl ⟨by rfl, ?_⟩) HS.out ?_
  rotate_left
  · rintro w' ⟨-, hb0, hb1, hb2, hb3, hb4⟩
    go_simp
    with_reducible rfl
  simp only [Act.put, List.getElem_toArray, List.getElem_cons_zero, List.getElem_cons_succ, List.setIfInBounds_toArray, List.set_cons_zero, List.set_cons_succ]
  refine wpAnyT_take (i := 16) (v := ?_) rfl (by kernel_rfl) (by kernel_rfl) (by kernel_rfl) (by kernel_rfl) (by kernel_rfl) (by kernel_rfl) (fun _ _ _ h => h) (Or.inl ⟨by rfl, ?_⟩) HS.out ?_
  rotate_left
  · rintro w' ⟨-, hb0, hb1, hb2, hb3, hb4⟩
    go_simp
    with_reducible rfl
  simp only [Act.put, List.getElem_toArray, List.getElem_cons_zero, List.getElem_cons_succ, List.setIfInBounds_toArray, List.set_cons_zero, List.set_cons_succ]
  refine wpAnyT_one (i := 17) (by kernel_rfl) rfl (fun K' hK => ?_)
  rw [if_pos (by rfl)]
  simp only [List.getElem_toArray, List.getElem_cons_zero, List.getElem_cons_succ, List.setIfInBounds_toArray, List.set_cons_zero, List.set_cons_succ] at hK ⊢
  have HK' := Lib.hid hK
  clear hK
  have x0 := X1.out.cell 0 rfl
  have x1 := X1.out.cell 1 rfl
  have xf0 := X1.out.free 0
  have xf1 := X1.out.free 1
  go_simp
  have gne : w.heap.size + 1 ≠ g := by omega
  have hne : w.heap.size + 1 ≠ hb := by omega
  have hgh : hb ≠ g := fun e => H2.out.not_row (by rw [e]; rfl)
  have HB3 : Hid ((fun w' : World => w'.cell? ⟨hb, 0, none⟩ = some (.slice (some ⟨g, 0, none⟩) l.length cap) ∧ w'.cell? ⟨g, 0, none⟩ = some (.int .i64 fc) ∧ w'.cell? ⟨g, 1, none⟩ = some (.int .i64 fx) ∧ w'.cell? ⟨g, m * 2, none⟩ = some (.int .i64 ec) ∧ w'.cell? ⟨g, m * 2 + 1, none⟩ = some (.int .i64 ex)) ((w2.setCell ⟨w.heap.size + 1, 0, none⟩ (.int .i64 fc)).setCell ⟨w.heap.size + 1, 1, none⟩ (.int .i64 fx))) :=
    ⟨cell_far (cell_far HB1.out.1 (.inl hne)) (.inl hne), cell_far (cell_far HB1.out.2.1 (.inl gne)) (.inl gne), cell_far (cell_far HB1.out.2.2.1 (.inl gne)) (.inl gne), cell_far (cell_far HB1.out.2.2.2.1 (.inl gne)) (.inl gne), cell_far (cell_far HB1.out.2.2.2.2 (.inl gne)) (.inl gne)⟩
  have G3 := Lib.hid (grown_two w2 (w.heap.size + 1) 0 1 (.int .i64 fc) (.int .i64 fx))
  have BK4 : Hid (((w2.setCell ⟨w.heap.size + 1, 0, none⟩ (.int .i64 fc)).setCell ⟨w.heap.size + 1, 1, none⟩ (.int .i64 fx)).heap[w.heap.size + 1]? = some (.cells #[.int .i64 fc, .int .i64 fx] 72 (0, 0))) := by
    show _ = _
    rw [setCell_blk (setCell_blk X1.out.blk _) _]; rfl
  have BK2 : Hid (((w2.setCell ⟨w.heap.size + 1, 0, none⟩ (.int .i64 fc)).setCell ⟨w.heap.size + 1, 1, none⟩ (.int .i64 fx)).heap[w.heap.size]? = some (.cells #[.int .i64 0, .int .i64 0] 72 (0, 0))) :=
    (G3.out.block _ X0.out.lt (by simp)).trans X0.out.blk
  have H3 : Hid (Hp ((w2.setCell ⟨w.heap.size + 1, 0, none⟩ (.int .i64 fc)).setCell ⟨w.heap.size + 1, 1, none⟩ (.int .i64 fx)) base hb (.slice (some ⟨g, 0, none⟩) l.length cap) l) :=
    ⟨H2.out.ge, (G3.out.block hb H2.out.lt (by simp; omega)).trans H2.out.blk, H2.out.row.kept G3.out (.inr (by simp [Value.ownBlock]; omega)), H2.out.len⟩
  have T3 := Lib.hid (T2.out.over G3.out (by omega))
  have FZ3 : Hid (((w2.setCell ⟨w.heap.size + 1, 0, none⟩ (.int .i64 fc)).setCell ⟨w.heap.size + 1, 1, none⟩ (.int .i64 fx)).frozen? ⟨g, 0, none⟩ = false ∧ ((w2.setCell ⟨w.heap.size + 1, 0, none⟩ (.int .i64 fc)).setCell ⟨w.heap.size + 1, 1, none⟩ (.int .i64 fx)).frozen? ⟨g, 1, none⟩ = false) := by
    obtain ⟨_, _, r3, r4⟩ := H3.out.row.cells (i := 0) h0
    exact ⟨r3, r4⟩
  refine HK'.out _ _ trivial (fun _ => HB3.out) ?_
  clear HK' x0 x1 xf0 xf1 G3 H2 T2 X0 X1 HS HB1 HSET2 F1
  generalize (w2.setCell ⟨w.heap.size + 1, 0, none⟩ (.int .i64 fc)).setCell ⟨w.heap.size + 1, 1, none⟩ (.int .i64 fx) = w3 at *
  refine wpAnyT_one (i := 18) (by kernel_rfl) rfl (fun K' hK => ?_)
  rw [if_pos (by rfl)]
  simp only [List.getElem_toArray, List.getElem_cons_zero, List.getElem_cons_succ, List.setIfInBounds_toArray, List.set_cons_zero, List.set_cons_succ] at hK ⊢
  have HK' := Lib.hid hK
  clear hK
  go_simp
  refine HK'.out _ _ trivial (fun _ => HB3.out) ?_
  clear HK'
  refine wpAnyT_one (i := 19) (by kernel_rfl) rfl (fun K' hK => ?_)
  rw [if_pos (by rfl)]
  simp only [List.getElem_toArray, List.getElem_cons_zero, List.getElem_cons_succ, List.setIfInBounds_toArray, List.set_cons_zero, List.set_cons_succ] at hK ⊢
  have HK' := Lib.hid hK
  clear hK
  obtain ⟨f0, f1⟩ := FZ3.out
  obtain ⟨-, r1, r2, -, -⟩ := HB3.out
  go_simp
  have G4 := Lib.hid (grown_two w3 g 0 1 (.int .i64 ec) (.int .i64 ex))
  have H4 : Hid (Hp ((w3.setCell ⟨g, 0, none⟩ (.int .i64 ec)).setCell ⟨g, 1, none⟩ (.int .i64 ex)) base hb (.slice (some ⟨g, 0, none⟩) l.length cap) (l.set 0 (ec, ex))) := by
    have hs := H3.out.row.set (i := 0) h0 ec ex
    exact ⟨H3.out.ge, (G4.out.block hb H3.out.lt (by simp; omega)).trans H3.out.blk, by simpa using hs, by rw [List.length_set]; exact H3.out.len⟩
  have T4 : Hid (Tw hb (.slice (some ⟨g, 0, none⟩) l.length cap) w ((w3.setCell ⟨g, 0, none⟩ (.int .i64 ec)).setCell ⟨g, 1, none⟩ (.int .i64 ex))) := T3.out.trans (v1 := .slice (some ⟨g, 0, none⟩) l.length cap) (Tw.of G4.out) (Nw.refl _ _)
  have s3 : w.heap.size + 1 < w3.heap.size := (Array.getElem?_eq_some_iff.1 BK4.out).1
  have C4 : Hid (_ = _) := (G4.out.block _ s3 (by simp; omega)).trans BK4.out
  have C2 : Hid (_ = _) := (G4.out.block w.heap.size (by omega) (by simp; omega)).trans BK2.out
  refine HK'.out _ _ trivial (fun hh => absurd hh (by decide)) ?_
  clear HK' f0 f1 r1 r2 HB3 FZ3 BK4 BK2 T3 H3 G4
  refine wpAnyT_done (by kernel_rfl) ?_ _
  generalize (w3.setCell ⟨g, 0, none⟩ (.int .i64 ec)).setCell ⟨g, 1, none⟩ (.int .i64 ex) = w4 at *
  have c0 := H4.out.c0
  have f0 : w4.frozen? ⟨hb, 0, none⟩ = false := by simp [World.frozen?, H4.out.blk]
  have hmc : (m : Int) ≤ (cap : Int) := by omega
  have H5 : Hid (Hp (w4.setCell ⟨hb, 0, none⟩ (.slice (some ⟨g, 0, none⟩) m cap)) base hb (.slice (some ⟨g, 0, none⟩) m cap) (tk l)) := by
    have hr := H4.out.row.shrink (m := m) (by rw [List.length_set]; exact h0) (by rw [List.length_set]; omega)
    rw [TL.out]
    exact ⟨H4.out.ge, setCell_blk H4.out.blk _, hr.kept (grown_set w4 hb 0 _) (.inr (by simp [Value.ownBlock]; omega)), by have := H4.out.len; simp at this ⊢; omega⟩
  have T5 : Hid (Tw hb (.slice (some ⟨g, 0, none⟩) l.length cap) w (w4.setCell ⟨hb, 0, none⟩ (.slice (some ⟨g, 0, none⟩) m cap))) := T4.out.trans (v1 := .slice (some ⟨g, 0, none⟩) l.length cap) (Tw.set _ w4 0 _) (Nw.refl _ _)
  have s4 : w.heap.size + 1 < w4.heap.size := (Array.getElem?_eq_some_iff.1 C4.out).1
  have D4 : Hid ((w4.setCell ⟨hb, 0, none⟩ (.slice (some ⟨g, 0, none⟩) m cap)).heap[w.heap.size + 1]? = some (.cells #[.int .i64 fc, .int .i64 fx] 72 (0, 0))) := (heap_setCell_other _ _ _ _ hne).trans C4.out
  have D2 : Hid ((w4.setCell ⟨hb, 0, none⟩ (.slice (some ⟨g, 0, none⟩) m cap)).heap[w.heap.size]? = some (.cells #[.int .i64 0, .int .i64 0] 72 (0, 0))) := (heap_setCell_other _ _ _ _ (by simp; omega)).trans C2.out
  clear T4 C4 C2 H4 TL
  go_wp2
  clear c0 f0
  generalize w4.setCell ⟨hb, 0, none⟩ (.slice (some ⟨g, 0, none⟩) m cap) = w5 at *
  have ltk : (tk l).length = m := by rw [tk_len]; exact hm
  go_loopw [6] (fun s6 wr => ∃ (k : Nat) (l2 : List (Int × Int)), s6 = .int .i64 (k : Int) ∧ k ≤ m ∧ Hid (Hp wr base hb (.slice (some ⟨g, 0, none⟩) m cap) l2) ∧ Hid (Dno l2 k) ∧ Hid (∀ z, z ∈ l2 ↔ z ∈ tk l) ∧ l2.length = m ∧ Hid (Tw hb (.slice (some ⟨g, 0, none⟩) l.length cap) w wr) ∧ Hid (wr.heap[w.heap.size + 1]? = some (.cells #[.int .i64 fc, .int .i64 fx] 72 (0, 0))) ∧ Hid (wr.heap[w.heap.size]? = some (.cells #[.int .i64 0, .int .i64 0] 72 (0, 0)))) (fun s6 _ => m - (intOf s6).toNat)
  case atStart => exact ⟨0, tk l, rfl, by omega, H5.out, DN.out, fun z => Iff.rfl, ltk, T5.out, D4.out, D2.out⟩
  case round =>
    obtain ⟨k, l2, rfl, hkm, hP, hD, hM, hl2, hT, hB4, hB2⟩ := hrel
    have FIN : Hid (∀ wz l3, Hp wz base hb (.slice (some ⟨g, 0, none⟩) m cap) l3 → Hpo l3 → (∀ z, z ∈ l3 ↔ z ∈ tk l) → l3.length = m → Tw hb (.slice (some ⟨g, 0, none⟩) l.length cap) w wz → wz.heap[w.heap.size]? = some (.cells #[.int .i64 0, .int .i64 0] 72 (0, 0)) →
        (∃ v' l', Hp ((wz.setCell ⟨w.heap.size, 0, none⟩ (.int .i64 fc)).setCell ⟨w.heap.size, 1, none⟩ (.int .i64 fx)) base hb v' l' ∧ Hpo l' ∧ (∀ y, y ∈ l ↔ y = at13 l 0 ∨ y ∈ l') ∧ l'.length + 1 = l.length ∧ Tw hb (.slice (some ⟨g, 0, none⟩) l.length cap) w ((wz.setCell ⟨w.heap.size, 0, none⟩ (.int .i64 fc)).setCell ⟨w.heap.size, 1, none⟩ (.int .i64 fx)) ∧ Nw w (.slice (some ⟨g, 0, none⟩) l.length cap) v') ∧
        ((wz.setCell ⟨w.heap.size, 0, none⟩ (.int .i64 fc)).setCell ⟨w.heap.size, 1, none⟩ (.int .i64 fx)).heap[w.heap.size]? = some (.cells #[.int .i64 fc, .int .i64 fx] 72 (0, 0))) := by
      intro wz l3 a1 a2 a3 a4 a5 a6
      have G8 := grown_two wz w.heap.size 0 1 (.int .i64 fc) (.int .i64 fx)
      refine ⟨⟨_, l3, ⟨a1.ge, (G8.block hb a1.lt (by simp; omega)).trans a1.blk, a1.row.kept G8 (.inr (by simp [Value.ownBlock]; omega)), a1.len⟩, a2, fun y => (MT.out y).trans (or_congr Iff.rfl (a3 y).symm), by omega, a5.over G8 (Nat.le_refl _), .inl rfl⟩, ?_⟩
      rw [setCell_blk (setCell_blk a6 _) _]; rfl
    by_cases hc : 2 * k + 1 < m
    · have hcI : decide (2 * (k : Int) + 1 < (m : Int)) = true := decide_eq_true (by omega)
      have C := Lib.hid (child13_any base hb (.slice (some ⟨g, 0, none⟩) m cap) l2 k wr hP.out (by omega))
      have hml : (m : Int) ≤ 5000000000 := by omega
      have hkI : (k : Int) < (m : Int) := by omega
      go_wp2_with fail
      refine C.out.mono ?_
      rintro e w6 ⟨c, hK, rfl, b6⟩
      have P6 := Lib.hid (hP.out.keep b6)
      have T6 : Hid (Tw hb (.slice (some ⟨g, 0, none⟩) l.length cap) w w6) := hT.out.trans (v1 := .slice (some ⟨g, 0, none⟩) l.length cap) (Tw.ofB b6) (Nw.refl _ _)
      have E4 : Hid (w6.heap[w.heap.size + 1]? = some (.cells #[.int .i64 fc, .int .i64 fx] 72 (0, 0))) := (b6.block _ (Array.getElem?_eq_some_iff.1 hB4.out).1).trans hB4.out
      have E2 : Hid (w6.heap[w.heap.size]? = some (.cells #[.int .i64 0, .int .i64 0] 72 (0, 0))) := (b6.block _ (Array.getElem?_eq_some_iff.1 hB2.out).1).trans hB2.out
      obtain ⟨c0, c1, c2, c3⟩ := id hK
      have hck : c ≠ k := by omega
      have hcm : c < m := by omega
      have hkc : k < c := by omega
      have hkl : k < l2.length := by omega
      have RC := Lib.hid (rises13_any base hb (.slice (some ⟨g, 0, none⟩) m cap) l2 c k w6 P6.out c1 hkl hck)
      have HS := Lib.hid (fun hlt => hD.out.swap hK hlt)
      have HST := Lib.hid (fun hlt => hD.out.stop hK hlt)
      have HMS : Hid (∀ z, z ∈ sw l2 c k ↔ z ∈ tk l) := fun z => (mem_sw c1 hkl).trans (hM.out z)
      clear c0 c2 c3 hK b6 C hP hT hB4 hB2 hD hcI hc
      go_wp2_with fail
      refine RC.out.mono ?_
      rintro e w7 ⟨rfl, hP7, hG7⟩
      have T7 : Hid (Tw hb (.slice (some ⟨g, 0, none⟩) l.length cap) w w7) := T6.out.trans (v1 := .slice (some ⟨g, 0, none⟩) l.length cap) (Tw.of hG7) (Nw.refl _ _)
      have F4 : Hid (w7.heap[w.heap.size + 1]? = some (.cells #[.int .i64 fc, .int .i64 fx] 72 (0, 0))) := (hG7.block _ (Array.getElem?_eq_some_iff.1 E4.out).1 (by simp [Value.ownBlock]; omega)).trans E4.out
      have F2 : Hid (w7.heap[w.heap.size]? = some (.cells #[.int .i64 0, .int .i64 0] 72 (0, 0))) := (hG7.block _ (Array.getElem?_eq_some_iff.1 E2.out).1 (by simp [Value.ownBlock]; omega)).trans E2.out
      clear hG7 RC T6 E4 E2 P6
      cases hd : decide (ky l2 c < ky l2 k) with
      | true =>
        have hy : ky l2 c < ky l2 k := of_decide_eq_true hd
        rw [if_pos hy] at hP7
        have P7 := Lib.hid hP7
        have D7 := Lib.hid (HS.out hy)
        have hl7 : (sw l2 c k).length = m := by rw [sw_len]; exact hl2
        clear hd hy hP7 HS HST FIN hM
        go_wp2
        go_roundw
        case rel => exact ⟨c, _, rfl, by omega, P7.out, D7.out, HMS.out, hl7, T7.out, F4.out, F2.out⟩
        case measure => simp [intOf]; omega
      | false =>
        have hy : ¬ ky l2 c < ky l2 k := of_decide_eq_false hd
        rw [if_neg hy] at hP7
        have HF := Lib.hid (FIN.out w7 l2 hP7 (HST.out (Int.not_lt.1 hy)) hM.out hl2 T7.out F2.out)
        have x0 : w7.cell? ⟨w.heap.size + 1, 0, none⟩ = some (.int .i64 fc) := by rw [cell_of_row w7 _ 0 _ _ (0, 0) F4.out]; rfl
        have x1 : w7.cell? ⟨w.heap.size + 1, 1, none⟩ = some (.int .i64 fx) := by rw [cell_of_row w7 _ 1 _ _ (0, 0) F4.out]; rfl
        have y0 : w7.cell? ⟨w.heap.size, 0, none⟩ = some (.int .i64 0) := by rw [cell_of_row w7 _ 0 _ _ (0, 0) F2.out]; rfl
        have y1 : w7.cell? ⟨w.heap.size, 1, none⟩ = some (.int .i64 0) := by rw [cell_of_row w7 _ 1 _ _ (0, 0) F2.out]; rfl
        have z0 : w7.frozen? ⟨w.heap.size, 0, none⟩ = false := by simp [World.frozen?, F2.out]
        have z1 : w7.frozen? ⟨w.heap.size, 1, none⟩ = false := by simp [World.frozen?, F2.out]
        clear hd hy hP7 HS HST FIN hM HMS
        go_wp2
        obtain ⟨hf1, hf2⟩ := HF.out
        have d0 : ((w7.setCell ⟨w.heap.size, 0, none⟩ (.int .i64 fc)).setCell ⟨w.heap.size, 1, none⟩ (.int .i64 fx)).cell? ⟨w.heap.size, 0, none⟩ = some (.int .i64 fc) := by rw [cell_of_row _ _ 0 _ _ (0, 0) hf2]; rfl
        have d1 : ((w7.setCell ⟨w.heap.size, 0, none⟩ (.int .i64 fc)).setCell ⟨w.heap.size, 1, none⟩ (.int .i64 fx)).cell? ⟨w.heap.size, 1, none⟩ = some (.int .i64 fx) := by rw [cell_of_row _ _ 1 _ _ (0, 0) hf2]; rfl
        generalize (w7.setCell ⟨w.heap.size, 0, none⟩ (.int .i64 fc)).setCell ⟨w.heap.size, 1, none⟩ (.int .i64 fx) = w9 at *
        refine bodyPost_ret (v := .tuple #[.agg #[.int .i64 fc, .int .i64 fx], .bool true]) (by simp [results, Tryd.results42, go_sem, d0, d1]) rfl ?_
        exact ⟨by rw [HFIN.out], hf1⟩
    · have hcI : decide (2 * (k : Int) + 1 < (m : Int)) = false := decide_eq_false (by omega)
      have hml : (m : Int) ≤ 5000000000 := by omega
      have hkI : (k : Int) ≤ (m : Int) := by omega
      have HF := Lib.hid (FIN.out wr l2 hP.out (hD.out.leaf (by omega)) hM.out hl2 hT.out hB2.out)
      have x0 : wr.cell? ⟨w.heap.size + 1, 0, none⟩ = some (.int .i64 fc) := by rw [cell_of_row wr _ 0 _ _ (0, 0) hB4.out]; rfl
      have x1 : wr.cell? ⟨w.heap.size + 1, 1, none⟩ = some (.int .i64 fx) := by rw [cell_of_row wr _ 1 _ _ (0, 0) hB4.out]; rfl
      have y0 : wr.cell? ⟨w.heap.size, 0, none⟩ = some (.int .i64 0) := by rw [cell_of_row wr _ 0 _ _ (0, 0) hB2.out]; rfl
      have y1 : wr.cell? ⟨w.heap.size, 1, none⟩ = some (.int .i64 0) := by rw [cell_of_row wr _ 1 _ _ (0, 0) hB2.out]; rfl
      have z0 : wr.frozen? ⟨w.heap.size, 0, none⟩ = false := by simp [World.frozen?, hB2.out]
      have z1 : wr.frozen? ⟨w.heap.size, 1, none⟩ = false := by simp [World.frozen?, hB2.out]
      clear hP hD hM hT hB4 hB2 FIN hc
      go_wp2
      obtain ⟨hf1, hf2⟩ := HF.out
      have d0 : ((wr.setCell ⟨w.heap.size, 0, none⟩ (.int .i64 fc)).setCell ⟨w.heap.size, 1, none⟩ (.int .i64 fx)).cell? ⟨w.heap.size, 0, none⟩ = some (.int .i64 fc) := by rw [cell_of_row _ _ 0 _ _ (0, 0) hf2]; rfl
      have d1 : ((wr.setCell ⟨w.heap.size, 0, none⟩ (.int .i64 fc)).setCell ⟨w.heap.size, 1, none⟩ (.int .i64 fx)).cell? ⟨w.heap.size, 1, none⟩ = some (.int .i64 fx) := by rw [cell_of_row _ _ 1 _ _ (0, 0) hf2]; rfl
      generalize (wr.setCell ⟨w.heap.size, 0, none⟩ (.int .i64 fc)).setCell ⟨w.heap.size, 1, none⟩ (.int .i64 fx) = w9 at *
      refine bodyPost_ret (v := .tuple #[.agg #[.int .i64 fc, .int .i64 fx], .bool true]) (by simp [results, Tryd.results42, go_sem, d0, d1]) rfl ?_
      exact ⟨by rw [HFIN.out], hf1⟩
end Go.Proofs.YtcipedijjemghaaDoor
