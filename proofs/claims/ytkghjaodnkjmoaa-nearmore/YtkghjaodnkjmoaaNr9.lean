/- Contracts: indexes. -/
import Derived.Test.YtkghjaodnkjmoaaNr8
namespace Go.Proofs.Ytkghjaodnkjmoaa
open Go.RowKit Go.Shelf
set_option linter.unusedVariables false
attribute [local go_sem] Oper.semAt_some

section
variable {F : Fence} {n : Nat} {ops : Array Oper} {rest : List Oper} {o : Oper} {a : Act} {Q : Exit → Act → World → Prop}
/-- 'append', inside a fence, by its run. -/
theorem append_inF {ty : TypeId} {s x : Operand} {u v v' : Value} {w w' : World} (hrun : (Builtin.append_ #[ty, ty] o.type #[u, v]).run Try.prog w = .ok v' w') (hgd : o.guard = none)
    (ho : o.op = .call { callee := .builtin .append, args := #[s, x], argTypes := #[ty, ty] }) (hs : a.eval s = u) (hx : a.eval x = v) (h : wpListIn F n Try.prog ops Q rest (a.put o.dst v') w') : wpListIn F n Try.prog ops Q (o :: rest) a w := by
  refine wpListIn_plain hgd fun K hK => ?_
  unfold Oper.wpIn
  refine ⟨?_, ?_⟩
  · simp [Oper.about, ho, resolve, Target.leads, Sem.run_pure]
  · rw [Oper.semAt_plain F _ _ (by rw [ho]; intro c hc; cases hc)]
    simp [execOp, ho, resolve, invoke, builtin, hs, hx, hrun, Result.andThen]
    exact hK _ _ h
end
theorem run_append_int (ty : TypeId) (base : Nat) (l : List Int) (z : Int) (v : Value) (w : World) (hown : Rn w base v l) (hmn : l.length ≤ 1000000) (hbase : base ≤ w.heap.size) :
    ∃ v' w', (Builtin.append_ #[30, 30] ty #[v, .slice (some ⟨w.heap.size, 0, none⟩) 1 1]).run Try.prog (w.alloc (.cells #[.int .i64 z] 3)) = .ok v' w' ∧ Rn w' base v' (l ++ [z]) ∧ Ext w v w' v' := by
  have hown0 : (w.alloc (.cells #[.int .i64 z] 3)).ownsRow base 3 1 v l.length (iv l) := hown.keep (below_box _)
  obtain ⟨i0, hi, hz0, hz1, hz2⟩ := info_parts Try.infoN
  obtain ⟨v', w', hr, hown', hgr, hwh⟩ := append_where (P := Try.prog) (w.alloc (.cells #[.int .i64 z] 3)) base 30 ty 3 i0 (.int .i64 0) 1 8 Try.underlying30 hi hz0 hz1 hz2 rfl (by decide) v l.length (iv l) hown0 ⟨w.heap.size, 0, none⟩ 1 1 (iv [z]) (by simp [iv])
    (by
      intro j u hj
      match j, hj with
      | 0, hj => simp [iv] at hj; subst hj; simp [Addr.add])
    (by intro u hu; simp [iv] at hu; subst hu; rfl) (by decide) (by unfold maxLen; omega) (by omega) (by simp; omega)
  refine ⟨v', w', hr, ?_, ?_⟩
  · unfold Rn
    rw [iv_append, List.length_append]
    exact hown'
  · refine (Ext.refl w v).trans (Ext.trans ⟨grownBy_below (below_box _) _, .inl rfl⟩ ⟨hgr, ?_⟩)
    rcases hwh with e | e
    · exact .inl e
    · exact .inr fun k hk => by rw [e] at hk; injection hk; omega

theorem Rn.some1 {w : World} {base : Nat} {v : Value} {l : List Int} (h : Rn w base v l) (h0 : 0 < l.length) : ∃ g k, v = .slice (some ⟨g, 0, none⟩) l.length k := by
  rcases h.2 with ⟨_, hn⟩ | ⟨g, cap, _, hv, _⟩
  · omega
  · exact ⟨g, cap, hv⟩
/-- Of a list those from the least on, as numbers. -/
def sel (least : Int) (l : List Nat) : List Int := (l.filter fun i : Nat => decide (least ≤ (i : Int))).map fun i : Nat => (i : Int)
theorem sel_append (least : Int) (l m : List Nat) : sel least (l ++ m) = sel least l ++ sel least m := by simp [sel]
theorem sel_len (least : Int) (l : List Nat) : (sel least l).length ≤ l.length := by simp [sel]; exact List.length_filter_le _ _
theorem take_at {l : List Nat} {q : Nat} (h : q < l.length) : l.take (q + 1) = l.take q ++ [l.getD q 0] := by
  rw [List.take_add_one, List.getElem?_eq_getElem h]
  simp [List.getD, h]

theorem setCell_grown (W : World) (b i : Nat) (v : Value) : W.grownBy (W.setCell ⟨b, i, none⟩ v) (some b) :=
  ⟨rfl, rfl, rfl, by simp, fun k _ hk => heap_setCell_other _ _ _ _ (fun e => hk (by rw [e]))⟩
theorem row_cells {X : World} {base size k : Nat} {e : TypeId} {v : Value} {xs : List Value} (hr : X.ownsRow base e size v k xs) {g : Nat} (hg : v.ownBlock = some g) : ∃ c, X.heap[g]? = some (.cells c e (0, 0)) := by
  rcases hr.2 with ⟨rfl, _⟩ | ⟨b, cap, cur, rfl, _, hh, _⟩
  · simp [Value.ownBlock] at hg
  · simp [Value.ownBlock] at hg
    subst hg
    exact ⟨cur, hh⟩
/-- A list that a loop makes, in its box lb; beside it a number in its box gl; s.2: what the loop writes. -/
def Lb (w : World) (B gl lb : Nat) (tl te : TypeId) (sz : Nat) (u0 : Value) (ks : Nat → Nat) (xs : Nat → List Value) (s : Nat × (Nat → Prop)) (X : World) : Prop :=
  ∃ v, X.heap[lb]? = some (.cells #[v] tl (0, 0)) ∧ X.ownsRow B te sz v (ks s.1) (xs s.1) ∧ X.cell? ⟨gl, 0, none⟩ = some u0 ∧ Below w.heap.size w X ∧ B ≤ X.heap.size ∧ s.2 = fun b => b = lb ∨ v.ownBlock = some b
theorem Lb.abn (w : World) {B gl lb : Nat} {tl te : TypeId} {sz : Nat} {u0 : Value} {ks : Nat → Nat} {xs : Nat → List Value} (hB : w.heap.size ≤ B) : Abn B (Lb w B gl lb tl te sz u0 ks xs) := by
  refine ⟨?_, ?_⟩
  · rintro s A C ⟨v, i1, i2, i3, i4, i5, i6⟩ hb
    exact ⟨v, (hb.block lb (Array.getElem?_eq_some_iff.1 i1).1).trans i1, i2.kept (grownBy_below hb none) (by cases v.ownBlock <;> simp), kc hb i3, i4.trans (hb.mono i4.size), Nat.le_trans i5 hb.size, i6⟩
  · rintro s A l o o' ⟨v, i1, i2, i3, i4, i5, i6⟩ hl ho hd
    have hg := grownBy_putObj' A l o'
    have hne : ∀ k c t f, A.heap[k]? = some (.cells c t f) → k ≠ l := by
      rintro k c t f h rfl
      rw [h] at ho; cases ho; cases hd
    refine ⟨v, (World.putObj_heap_other (hne _ _ _ _ i1)).trans i1, World.ownsRow.kept i2 hg ?_, ?_, i4.grown hg i4.size (fun r e => by cases e; omega), Nat.le_trans i5 hg.size, i6⟩
    · cases hv : v.ownBlock with
      | none => exact .inl rfl
      | some g =>
        obtain ⟨c, hc⟩ := row_cells i2 hv
        exact .inr fun e => hne _ _ _ _ hc (by injection e)
    · exact (hg.cell i3 (by
        intro e
        simp at e
        unfold World.cell? at i3
        split at i3
        · rename_i c t f hh
          exact hne _ _ _ _ hh e
        · cases i3))
/-- A round that has appended. -/
theorem Lb.next {w X W3 : World} {B gl lb : Nat} {tl te : TypeId} {sz : Nat} {u0 : Value} {ks : Nat → Nat} {xs : Nat → List Value} {q : Nat} {S : Nat → Prop} {v v' : Value} {a : Act} {Ix : Nat → World → Prop} (hB : w.heap.size ≤ B) (hlB : lb < B) (hlw : w.heap.size ≤ lb) (hgB : gl < B) (hgl : gl ≠ lb) (ht : tl ≠ te)
    (i1 : X.heap[lb]? = some (.cells #[v] tl (0, 0))) (i2 : X.ownsRow B te sz v (ks q) (xs q)) (i3 : X.cell? ⟨gl, 0, none⟩ = some u0) (i4 : Below w.heap.size w X) (i5 : B ≤ X.heap.size) (i6 : S = fun b => b = lb ∨ v.ownBlock = some b)
    (hN : W3.ownsRow B te sz v' (ks (q + 1)) (xs (q + 1))) (hE : Ext X v W3 v') : post12 B (Lb w B gl lb tl te sz u0 ks xs) Ix q S X .normal a (W3.setCell ⟨lb, 0, none⟩ v') := by
  have hrow : ∀ r, v.ownBlock = some r → B ≤ r := fun r e => (i2.lt r e).1
  have b3 : W3.heap[lb]? = some (.cells #[v] tl (0, 0)) := (hE.grown.block lb (by omega) (blk_not_row i1 ht i2)).trans i1
  have n3 : some lb ≠ v'.ownBlock := blk_not_row b3 ht hN
  have hs := setCell_grown W3 lb 0 v'
  subst i6
  refine ⟨fun b => b = lb ∨ v'.ownBlock = some b, ?_, ?_, ?_, v', ?_, ?_, ?_, ?_, ?_, rfl⟩
  · refine ((KeepsOthers.of_grownBy hE.grown (fun j o ej hj => ?_)).trans (KeepsOthers.setCell _ _ _)).from _
    obtain ⟨c, hc⟩ := row_cells i2 ej
    rw [hc] at hj
    cases hj
    rfl
  · exact (Frm.turn hE.grown (fun r e => .inr e)).trans (Frm.turn hs (fun r e => .inl (by injection e with e; exact e.symm)))
  · rintro b (rfl | hb)
    · exact .inl (.inl rfl)
    · rcases hE.row with e | e
      · exact .inl (.inr (by rw [← e]; exact hb))
      · exact .inr (e b hb)
  · have := setCell_blk (i := 0) b3 v'
    simpa using this
  · exact hN.kept hs (by cases hv : v'.ownBlock with
      | none => exact .inl rfl
      | some g => exact .inr fun e => n3 (by rw [hv, e]))
  · have c3 := hE.grown.cell i3 (fun e => by have := hrow _ e.symm; dsimp only at this; omega)
    exact hs.cell c3 (fun e => hgl (by injection e))
  · exact (i4.grown hE.grown i4.size (fun r e => by have := hrow r e; omega)).grown hs (by have := hE.grown.size; have := i4.size; omega) (fun r e => by injection e with e; omega)
  · have := hE.grown.size
    have := hs.size
    omega
/-- A round that has done nothing. -/
theorem Lb.idle {w X : World} {B gl lb : Nat} {tl te : TypeId} {sz : Nat} {u0 : Value} {ks : Nat → Nat} {xs : Nat → List Value} {q : Nat} {S : Nat → Prop} {a : Act} {Ix : Nat → World → Prop} (hI : Lb w B gl lb tl te sz u0 ks xs (q, S) X) (h1 : ks (q + 1) = ks q) (h2 : xs (q + 1) = xs q) :
    post12 B (Lb w B gl lb tl te sz u0 ks xs) Ix q S X .normal a X := by
  refine ⟨S, KeepsFrom.refl _ _, Frm.refl _ _, fun b hb => .inl hb, ?_⟩
  obtain ⟨v, i1, i2, i3, i4, i5, i6⟩ := hI
  exact ⟨v, i1, by dsimp only at i2 ⊢; rw [h1, h2]; exact i2, i3, i4, i5, i6⟩

theorem Rn.lower {w : World} {base b : Nat} {v : Value} {l : List Int} (h : Rn w base v l) (hb : b ≤ base) : Rn w b v l := by
  refine ⟨h.1, ?_⟩
  rcases h.2 with h2 | ⟨g, cap, cur, e, hg, hr⟩
  · exact .inl h2
  · exact .inr ⟨g, cap, cur, e, Nat.le_trans hb hg, hr⟩
/-- Numbers come back. -/
def RetI (l : List Int) (w : World) (e : Ending) (w' : World) : Prop :=
  ∃ A k, e = .returned (.slice A l.length k) ∧ l.length ≤ k ∧ k ≤ maxLen ∧ Is w' A l.length (fun i => l.getD i 0) ∧ Below w.heap.size w w' ∧ Rn w' w.heap.size (.slice A l.length k) l
section
variable (X Y : Nat → Int)
/-- Those within r from the least on, in ascending order. -/
def wsel (n : Nat) (x y r least : Int) : List Int := sel least (win X Y n x y r)
theorem wsel_sorted (n : Nat) (x y r least : Int) (hr : 0 ≤ r) : ((sel least (wlist X Y n x y r)).mergeSort fun a b => decide (a ≤ b)) = wsel X Y n x y r least := by
  have hp : (sel least (wlist X Y n x y r)).Perm (wsel X Y n x y r least) := ((wlist_perm X Y n x y r hr).filter _).map _
  refine List.Perm.eq_of_pairwise (le := fun a b => a ≤ b) (fun a b _ _ h1 h2 => Int.le_antisymm h1 h2) ?_ ?_ ((List.mergeSort_perm _ _).trans hp)
  · have := List.pairwise_mergeSort (le := fun a b : Int => decide (a ≤ b)) (fun a b c h1 h2 => by simp at *; omega) (fun a b => by simp; omega) (sel least (wlist X Y n x y r))
    exact this.imp fun h => by simpa using h
  · unfold wsel sel
    rw [List.pairwise_map]
    exact ((win_asc X Y n x y r).filter _).imp fun h => by omega

/-- Block g holds an entry, and may be written. -/
def E3 (W : World) (g e : Nat) : Prop := W.heap[g]? = some (.cells #[.int .i64 (e : Int), .int .i64 (X e), .int .i64 (Y e)] 58 (0, 0))
theorem E3.lt {W : World} {g e : Nat} (h : E3 X Y W g e) : g < W.heap.size := (Array.getElem?_eq_some_iff.1 h).1
theorem E3.c {W : World} {g e : Nat} (h : E3 X Y W g e) : W.cell? ⟨g, 0, none⟩ = some (.int .i64 (e : Int)) ∧ W.cell? ⟨g, 1, none⟩ = some (.int .i64 (X e)) ∧ W.cell? ⟨g, 2, none⟩ = some (.int .i64 (Y e)) := by
  refine ⟨?_, ?_, ?_⟩ <;> (rw [cell_of_row W g _ _ 58 (0, 0) h]; rfl)

set_option maxRecDepth 100000 in
set_option maxHeartbeats 4000000 in
theorem indexes_any (p n : Nat) (x y r least : Int) (w : World) (hI : Ix X Y w p n) (hO : oks X Y n) (hn : n ≤ 256) (hx : 0 ≤ x ∧ x ≤ 67108864) (hy : 0 ≤ y ∧ y ≤ 67108864) (hr : 0 ≤ r ∧ r ≤ 134217728) :
    Calls Try.prog 21 #[.pointer (some ⟨p, 0, none⟩), .int .i64 x, .int .i64 y, .int .i64 r, .int .i64 least] w (RetI (wsel X Y n x y r least) w) := by
  obtain ⟨wl, hwl⟩ : ∃ wl, wlist X Y n x y r = wl := ⟨_, rfl⟩
  have HWS : Hid ((sel least wl).mergeSort (fun a b => decide (a ≤ b)) = wsel X Y n x y r least) := by rw [← hwl]; exact wsel_sorted X Y n x y r least hr.1
  have HWL : Hid (wl.length ≤ 256) := by show _ ≤ _; rw [← hwl]; exact Nat.le_trans (wlist_len X Y n x y r hr.1) hn
  have HSq := Lib.hid (fun D gx gr gy gn w1 hb hwa hDa hDg hD => within_seq X Y D (3 - 1) gx gr gy gn p n x y r w1 w (by decide) hb hI hwa hDa hDg hD hO hx hy hr)
  rw [hwl] at HSq
  have KL := Lib.hid (((Kx.new w 3 #[.int .i64 least]).alloc (.cells #[.slice none 0 0] 30)))
  have KB : Hid (Kx w (w.heap.size + 1) ((w.alloc (.cells #[.int .i64 least] 3)).alloc (.cells #[.slice none 0 0] 30)) 30 #[.slice none 0 0]) := by
    have := Kx.next (below_box (w := w) (.cells #[.int .i64 least] 3)) 30 #[.slice none 0 0]
    rw [size_alloc] at this
    exact this
  have HVs : Hid (((w.alloc (.cells #[.int .i64 least] 3)).alloc (.cells #[.slice none 0 0] 30)).heap.size = w.heap.size + 2) := by show _ = _; simp
  clear hI hO hx hy hr hwl
  have hn3 : 1 ≤ 3 := by decide
  refine (callsIn_wide (n := 3)).1 ?_
  refine callsIn_of_wp_marks Try.func21 rfl trivial ?_ rfl
  simp only [Try.ntmps21, List.size_toArray, List.length_cons, List.length_nil, Nat.reduceAdd, Nat.reduceSub, Array.replicate_succ, Array.replicate_zero, List.push_toArray, List.append_toArray, List.nil_append, List.cons_append]
  gi_wp2_with fail
  generalize (w.alloc (.cells #[.int .i64 least] 3)).alloc (.cells #[.slice none 0 0] 30) = V at *
  refine ⟨trivial, (callsIn_wide.2 (within_any p x y r V)).mono ?_⟩
  rintro e w1 ⟨gx, gr, gy, gn, rfl, hb, b1, hgx, hgr, hgy, hgn⟩
  have KL1 := Lib.hid (KL.out.keep b1)
  have KB1 := Lib.hid (KB.out.keep b1)
  have HV1 : Hid (w.heap.size + 2 ≤ w1.heap.size) := by show _ ≤ _; rw [← HVs.out]; exact b1.size
  have HS1 := Lib.hid (HSq.out (fun b => b < w1.heap.size ∧ b ≠ w.heap.size + 1) gx gr gy gn w1 hb KB1.out.below (fun b h => ⟨by have := HV1.out; omega, by omega⟩)
    (by obtain ⟨l0, l1, l2, l3⟩ := hb.lt; have := HVs.out; exact ⟨⟨l0, by omega⟩, ⟨l1, by omega⟩, ⟨l2, by omega⟩, ⟨l3, by omega⟩⟩) (fun b h => h.1))
  clear hb b1 KL KB HSq HVs hgx hgr hgy hgn
  gi_wp2_with fail
  refine range12 rfl hn3 (gf := 37) (lb := #[.pointer (some ⟨gx, 0, none⟩), .pointer (some ⟨gr, 0, none⟩), .pointer (some ⟨gy, 0, none⟩), .pointer (some ⟨gn, 0, none⟩)]) rfl trivial (enters_of Try.func37 (by kernel_rfl) rfl)
    HS1.out (Below.refl _ _) (fun _ => rfl)
    (Lb w w1.heap.size w.heap.size (w.heap.size + 1) 30 3 1 (.int .i64 least) (fun q => (sel least (wl.take q)).length) (fun q => iv (sel least (wl.take q)))) (fun _ _ => False) (Lb.abn w KB1.out.below.size) ⟨fun _ _ _ h _ => h, fun _ _ _ _ _ h _ _ _ => h⟩ (fun b => b = w.heap.size + 1) ?s0 ?i0
    (fun q a' X' => ∃ g3, E3 X Y X' g3 (wl.getD q 0) ∧ w1.heap.size ≤ g3 ∧ a' = { tmps := #[.pointer (some ⟨p, 0, none⟩), .int .i64 x, .int .i64 y, .int .i64 r, .int .i64 least, undef, undef, undef, undef, .pointer (some ⟨w.heap.size, 0, none⟩), .slice none 0 0, .pointer (some ⟨w.heap.size + 1, 0, none⟩), .pointer (some ⟨g3, 0, none⟩), .pointer (some ⟨p, 0, none⟩), .int .i64 x, .int .i64 y, .int .i64 r, .func (.func 37) #[] #[.pointer (some ⟨gx, 0, none⟩), .pointer (some ⟨gr, 0, none⟩), .pointer (some ⟨gy, 0, none⟩), .pointer (some ⟨gn, 0, none⟩)], .agg #[.int .i64 ((wl.getD q 0 : Nat) : Int), .int .i64 (X (wl.getD q 0)), .int .i64 (Y (wl.getD q 0))], undef, undef, undef, undef, undef, undef, undef, undef, undef, undef, undef, undef], defers := [] }) ?ax ?assign ?body ?done ?stop
  case s0 =>
    rintro b rfl
    exact ⟨fun h => h.2 rfl, by have := HV1.out; omega⟩
  case i0 =>
    refine ⟨.slice none 0 0, KB1.out.blk, World.ownsRow_nil _ _ _ _, KL1.out.cell 0 rfl, KB1.out.below, Nat.le_refl _, ?_⟩
    funext b
    simp [Value.ownBlock]
  case ax =>
    rintro q a' - X' Y' row ⟨g3, hp, hge, e⟩ hg hr
    exact ⟨g3, (hg.block g3 (E3.lt X Y hp) (fun e' => by obtain ⟨_, o, ho, hc⟩ := hr g3 e'.symm; rw [show X'.heap[g3]? = _ from hp] at ho; cases ho; cases hc)).trans hp, hge, e⟩
  case assign =>
    rintro l q S X' K hq i1 hK
    have HK := Lib.hid hK
    have hsz := i1
    obtain ⟨-, -, -, -, -, i5, -⟩ := hsz
    have I5 := Lib.hid i5
    clear i1 hK i5
    obtain ⟨e0, he0⟩ : ∃ e0, wl.getD q 0 = e0 := ⟨_, rfl⟩
    unfold wen
    rw [he0]
    have HE0 := Lib.hid he0
    clear he0
    gi_wp2
    exact HK.out _ _ ((KeepsOthers.alloc X' _).from _) (below_box _) ⟨X'.heap.size, by rw [HE0.out]; exact World.alloc_heap_new X' _, I5.out, by rw [HE0.out]⟩
  case body =>
    rintro l q S a' X' hq hIb ⟨g3, hP, hge, rfl⟩
    have HIb := Lib.hid hIb
    obtain ⟨v, i1, i2, i3, i4, i5, i6⟩ := hIb
    dsimp only at i2 i6
    obtain ⟨e0, he0⟩ : ∃ e0, wl.getD q 0 = e0 := ⟨_, rfl⟩
    have HT : Hid (wl.take (q + 1) = wl.take q ++ [e0]) := by rw [← he0]; exact take_at hq
    rw [he0] at hP ⊢
    obtain ⟨c0, c1, c2⟩ := E3.c X Y hP
    have HLq : Hid ((sel least (wl.take q)).length ≤ 1000000) := by
      have h1 := sel_len least (wl.take q)
      have h2 := HWL.out
      rw [List.length_take] at h1
      show _ ≤ _
      omega
    by_cases hle : least ≤ (e0 : Int)
    · have HS2 : Hid (sel least (wl.take (q + 1)) = sel least (wl.take q) ++ [(e0 : Int)]) := by
        show _ = _
        rw [HT.out, sel_append]
        simp [sel, hle]
      obtain ⟨v', W3, hrun, hN, hE⟩ := run_append_int 30 w1.heap.size (sel least (wl.take q)) (e0 : Int) v X' i2 HLq.out i5
      have hlt1 := HV1.out
      have b3 : W3.heap[w.heap.size + 1]? = some (.cells #[v] 30 (0, 0)) := (hE.grown.block _ (by omega) (blk_not_row i1 (by decide) i2)).trans i1
      have d0 : X'.cell? ⟨w.heap.size + 1, 0, none⟩ = some v := by rw [cell_of_row X' _ _ _ _ (0, 0) i1]; rfl
      have d3 : W3.cell? ⟨w.heap.size + 1, 0, none⟩ = some v := by rw [cell_of_row W3 _ _ _ _ (0, 0) b3]; rfl
      have f3 : W3.frozen? ⟨w.heap.size + 1, 0, none⟩ = false := frozen_of_row W3 _ _ _ _ b3
      obtain ⟨g', k', rfl⟩ := hN.some1 (by simp)
      have HRun := Lib.hid hrun
      have HP12 : Hid (∀ a, post12 w1.heap.size (Lb w w1.heap.size w.heap.size (w.heap.size + 1) 30 3 1 (.int .i64 least) (fun q => (sel least (wl.take q)).length) (fun q => iv (sel least (wl.take q)))) (fun _ _ => False) q S X' .normal a (W3.setCell ⟨w.heap.size + 1, 0, none⟩ (.slice (some ⟨g', 0, none⟩) (sel least (wl.take q) ++ [(e0 : Int)]).length k'))) := by
        intro a
        refine Lb.next KB1.out.below.size (by omega) (by omega) (by omega) (by omega) (by decide) i1 i2 i3 i4 i5 i6 ?_ hE
        rw [HS2.out]
        exact hN
      clear hrun hN hE i1 i2 i4 i5 i6 b3 hP
      gi_wp2_with (gi_at_builtin; refine append_inF HRun.out rfl rfl rfl rfl ?_)
      have h12 := HP12.out
      simp only [List.length_append, List.length_singleton] at h12
      exact h12 _
    · have HS2 : Hid (sel least (wl.take (q + 1)) = sel least (wl.take q)) := by
        show _ = _
        rw [HT.out, sel_append]
        simp [sel, hle]
      clear i1 i2 i4 i5 i6 hP
      gi_wp2
      exact Lb.idle HIb.out (by show (sel _ _).length = _; rw [HS2.out]) (by show iv (sel _ _) = _; rw [HS2.out])
  case done =>
    rintro Dm S X' hD ⟨v, i1, i2, i3, i4, i5, i6⟩ hK
    dsimp only at i2
    rw [List.take_length] at i2
    have hlt1 := HV1.out
    have hlb : w.heap.size + 1 < X'.heap.size := by omega
    have d0 : X'.cell? ⟨w.heap.size + 1, 0, none⟩ = some v := by rw [cell_of_row X' _ _ _ _ (0, 0) i1]; rfl
    have SO := Lib.hid (sort_ints w1.heap.size v (sel least wl) X' i2 (by have := sel_len least wl; have := HWL.out; omega))
    have J1 := Lib.hid i1
    have J2 := Lib.hid i2
    have J4 := Lib.hid i4
    have HK := Lib.hid hK
    clear i1 i2 i3 i4 i6 hK
    gi_wp2_with fail
    refine ⟨trivial, (callsIn_wide.2 SO.out).mono ?_⟩
    rintro e W5 ⟨rfl, hN5, hg5⟩
    have b5 : W5.heap[w.heap.size + 1]? = some (.cells #[v] 30 (0, 0)) := (hg5.block _ hlb (blk_not_row J1.out (by decide) J2.out)).trans J1.out
    have k5 : W5.heap[Dm]? = some (.deferred (some [])) := (hg5.block _ (Array.getElem?_eq_some_iff.1 HK.out).1 (fun e => by
      obtain ⟨c, hc⟩ := row_cells J2.out e.symm
      have hk := HK.out
      rw [hc] at hk; cases hk)).trans HK.out
    have d5 : W5.cell? ⟨w.heap.size + 1, 0, none⟩ = some v := by rw [cell_of_row W5 _ _ _ _ (0, 0) b5]; rfl
    have hB5 : Below w.heap.size w W5 := J4.out.grown hg5 J4.out.size (fun r e => by have := (J2.out.lt r e).1; have := KB1.out.below.size; omega)
    have hgP := grownBy_putObj' W5 Dm (.deferred none)
    have hNP : Rn (W5.putObj Dm (.deferred none)) w1.heap.size v (wsel X Y n x y r least) := by
      rw [← HWS.out]
      refine World.ownsRow.kept hN5 hgP ?_
      cases hv : v.ownBlock with
      | none => exact .inl rfl
      | some g =>
        obtain ⟨c, hc⟩ := row_cells hN5 hv
        refine .inr fun e => ?_
        injection e with e
        subst e
        rw [k5] at hc; cases hc
    have HRet : Hid (RetI (wsel X Y n x y r least) w (.returned v) (W5.putObj Dm (.deferred none))) := by
      obtain ⟨A, k, rfl, h1, h2, h3⟩ := hNP.is
      exact ⟨A, k, rfl, h1, h2, h3, hB5.grown hgP hB5.size (fun r e => by cases e; have := KB1.out.below.size; omega), hNP.lower KB1.out.below.size⟩
    have HK5 := Lib.hid k5
    clear hN5 hg5 b5 k5 hB5 hgP hNP d0 SO
    gi_wp2
    refine ⟨by simp, .inl ⟨Dm, _, rfl, run_takeDeferred HK5.out, ?_⟩⟩
    refine ⟨v, ?_, HRet.out⟩
    exact results_tmp Try.results21 _ _ _
  case stop =>
    rintro Dm q X' _ _ hf _
    exact hf.elim
end
end Go.Proofs.Ytkghjaodnkjmoaa
