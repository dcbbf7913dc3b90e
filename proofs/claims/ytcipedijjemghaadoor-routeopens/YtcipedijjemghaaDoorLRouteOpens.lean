/- The law RouteOpens. -/
import Derived.Test.YtcipedijjemghaaDoorLRtStart
import Derived.Test.YtcipedijjemghaaDoorTak10
namespace Go.Proofs.YtcipedijjemghaaDoor
open Go.RowKit Go.Sort Go.Shelf
set_option linter.unusedVariables false
set_option linter.unusedSimpArgs false
attribute [local go_sem] Oper.semAt_some

theorem er13_mono {W H : Int} {O O' : Nat → Bool} {n : Nat} {f t : Int} (ho : ∀ i, O i = true → O' i = true) (h : er13 W H O n f t = 0) : er13 W H O' n f t = 0 ∧ vl13 W H O' n f t ≤ vl13 W H O n f t := by
  obtain ⟨a1, a2, a3, a4⟩ := er13_zero.1 h
  obtain ⟨_, c1, c2⟩ := cst_of ((cst_wk a4).mono ho)
  have h3 := er13_zero.2 ⟨a1, a2, a3, c1⟩
  refine ⟨h3, ?_⟩
  unfold vl13
  rw [if_pos h, if_pos h3]
  exact c2
/-- 'append(s, x...)' of bools, at an operation: s is empty, and the call's own. -/
theorem wp_append_bools {o : Oper} {a : Act} {K' : Act → World → Prop} {Q : Exit → Act → World → Prop} (s x : Operand)
    (ho : o.op = .call { callee := .builtin .append, args := #[s, x], argTypes := #[22, 22] })
    (base n c : Nat) (O : Nat → Bool) (A : Option Addr) (v : Value) (w : World) (hs : a.eval s = v) (hown : w.ownsRow base 4 1 v 0 []) (hx : a.eval x = .slice A n c) (hO : Bo w A n O) (hn0 : 0 < n) (hn : n ≤ 5000) (hbase : base ≤ w.heap.size)
    (h : ∀ v' w', w'.ownsRow base 4 1 v' n (bl O n) → w.grownBy w' v.ownBlock → K' (a.put o.dst v') w') : Oper.wp Tryd.prog o a w K' Q := by
  obtain ⟨i0, hi, hz0, hz1, hz2⟩ := info_parts Tryd.infoT
  obtain ⟨g, off, rfl, hg, hc⟩ := hO hn0
  obtain ⟨v', w', hr, hown', hgr, hwh⟩ := append_where (P := Tryd.prog) w base 22 o.type 4 i0 (.bool false) 1 1 Tryd.underlying22 hi hz0 hz1 hz2 rfl (by decide) v 0 [] hown ⟨g, off, none⟩ n c (bl O n) (by rw [bl_length]; omega)
    (by
      intro j u hj
      have hjn : j < n := by
        rcases Nat.lt_or_ge j n with h | h
        · exact h
        · rw [List.getElem?_eq_none (by rw [bl_length]; exact h)] at hj; cases hj
      have e : (⟨g, off, none⟩ : Addr).add j = ⟨g, off + j, none⟩ := by unfold Addr.add; split <;> simp_all
      rw [e, hc j hjn, ← hj, bl_at O n j hjn])
    (by intro u hu; simp [bl] at hu; obtain ⟨i, _, rfl⟩ := hu; rfl) hn0 (by unfold maxLen; omega) (by omega) hbase
  unfold Oper.wp execOp
  simp only [ho, resolve, invoke, builtin, Sem.run_bind, Sem.run_pure, Result.andThen_ok, List.map_toArray, List.map_cons, List.map_nil, hs, hx, hr]
  rw [Nat.zero_add, List.nil_append] at hown'
  exact h v' w' hown' hgr

section
variable {P : Program} {ops : Array Oper} {Q : Exit → Act → World → Prop} {md : Region.Mode} {m : Nat} {R B : World → Prop}
/-- Only numbers i and j may come up. -/
theorem wpAnyT_two {i j : Nat} {oi oj : Oper} {f : Nat} {l : Array Bool} {a : Act} {w : World} (hr : Region.ready md ops l = [i, j]) (hi : ops[i]? = some oi) (hj : ops[j]? = some oj)
    (h1 : ∀ K' : Act → World → Prop, (∀ a' w', R w' → ((l.setIfInBounds i true).getD m false = false → B w') → wpAnyT P md ops Q m R B f (l.setIfInBounds i true) a' w' → K' a' w') →
      if Region.wanted oi (yielded ops a.tmps) = true then Oper.wp P oi a w K' Q else K' (a.put oi.dst undef) w)
    (h2 : ∀ K' : Act → World → Prop, (∀ a' w', R w' → ((l.setIfInBounds j true).getD m false = false → B w') → wpAnyT P md ops Q m R B f (l.setIfInBounds j true) a' w' → K' a' w') →
      if Region.wanted oj (yielded ops a.tmps) = true then Oper.wp P oj a w K' Q else K' (a.put oj.dst undef) w) : wpAnyT P md ops Q m R B (f + 1) l a w :=
  ⟨fun h0 => (by rw [hr] at h0; cases h0), fun q hq => by
    rw [hr] at hq
    rcases List.mem_cons.1 hq with rfl | hq
    · exact wpOp_step hi (fun K' hK => h1 K' (fun a' w' x1 x2 x3 => hK a' w' ⟨⟨x1, x2⟩, x3⟩))
    · obtain rfl := List.mem_singleton.1 hq
      exact wpOp_step hj (fun K' hK => h2 K' (fun a' w' x1 x2 x3 => hK a' w' ⟨⟨x1, x2⟩, x3⟩))⟩
end
set_option maxHeartbeats 8000000 in
theorem walk_RouteOpens (W H : Int) (A : Option Addr) (n c : Nat) (O : Nat → Bool) (f t k b : Int) (w : World) (hl : Lin w A n c O) :
    Calls Tryd.prog 7 #[.agg #[.int .i64 W, .int .i64 H, .slice A n c, .int .i64 f, .int .i64 t, .int .i64 k, .int .i64 b]] w (Ret (.bool true) w) := by
  have HL := Lib.hid hl.cut
  have HT := Lib.hid hl.tb
  have FC := Lib.hid (fun u => few13_any W H A n c u hl.nc hl.cm)
  have K0 := Lib.hid (Kx.new w 35 #[.int .i64 W, .int .i64 H, .slice A n c, .int .i64 f, .int .i64 t, .int .i64 k, .int .i64 b])
  have hm0 := (cut13_le n).2
  clear hl
  generalize hm : cut13 n = m at *
  clear hm
  go_enter Tryd.func7, Tryd.ntmps7
  go_wp2_with fail
  refine (FC.out _).mono ?_
  rintro e w1 ⟨rfl, b1⟩
  have K1 := Lib.hid (K0.out.keep b1)
  have B1 : Hid (Bx2 w w.heap.size w1.heap.size (w1.alloc (.cells #[.int .i64 W, .int .i64 H, .slice A m c] 24)) W H A n m c f t k b) := ⟨K1.out.alloc _, Kx.next K1.out.below _ _⟩
  have hw1 := K1.out.below.size
  clear b1 K0 K1 FC
  obtain ⟨y0, y1, y2, x3, x4, x5, x6⟩ := B1.out.c
  go_wp2_with fail
  refine (small13_any W H A m c _).mono ?_
  rintro e w2 ⟨rfl, b1⟩
  have B2 := Lib.hid (B1.out.keep b1)
  clear b1 B1 y0 y1 y2 x3 x4 x5 x6
  have AW : Hid (∀ u, RowKit.Below w2.heap.size w2 u → Calls Tryd.prog 12 #[] u (fun e w' => e = .returned (.bool true) ∧ RowKit.Below w.heap.size w w')) := by
    intro u hu
    refine (awake13_any u (HT.out.keep (B2.out.x.below.trans (hu.mono B2.out.x.below.size)))).mono ?_
    rintro e w' ⟨rfl, hb⟩
    exact ⟨rfl, (B2.out.x.below.trans (hu.mono B2.out.x.below.size)).trans (hb.mono (Nat.le_trans B2.out.x.below.size hu.size))⟩
  obtain ⟨y0, y1, y2, x3, x4, x5, x6⟩ := B2.out.c
  cases hsm : decide ((m : Int) ≤ 160) with
  | false =>
    clear hsm
    go_wp2_with fail
    refine (AW.out _ (Below.refl _ _)).mono ?_
    rintro e w3 ⟨rfl, b1⟩
    have HB := Lib.hid b1
    clear b1 B2
    go_wp2
    go_ret
    exact Ret.mk rfl HB.out
  | true =>
    clear hsm
    by_cases hb0 : b < 0
    · have hd0 : decide (b < 0) = true := decide_eq_true hb0
      go_wp2_with fail
      refine (AW.out _ (Below.refl _ _)).mono ?_
      rintro e w3 ⟨rfl, b1⟩
      have HB := Lib.hid b1
      clear b1 B2
      go_wp2
      go_ret
      exact Ret.mk rfl HB.out
    · have hd0 : decide (b < 0) = false := decide_eq_false hb0
      by_cases hbm : (m : Int) ≤ b
      · have hd1 : decide ((m : Int) ≤ b) = true := decide_eq_true hbm
        go_wp2_with fail
        refine (AW.out _ (Below.refl _ _)).mono ?_
        rintro e w3 ⟨rfl, b1⟩
        have HB := Lib.hid b1
        clear b1 B2
        go_wp2
        go_ret
        exact Ret.mk rfl HB.out
      · have hd1 : decide ((m : Int) ≤ b) = false := decide_eq_false hbm
        obtain ⟨bN, hbN⟩ : ∃ bN : Nat, b = (bN : Int) := ⟨b.toNat, by omega⟩
        subst hbN
        have hbn : bN < m := by omega
        have CC := Lib.hid (fun u (hb : RowKit.Below w.heap.size w u) => cost13_any W H O m c f t A u (HL.out.keep hb))
        go_wp2_with fail
        refine (CC.out _ B2.out.x.below).mono ?_
        rintro e w3 ⟨⟨rfl, b1⟩, v1, v2⟩
        have B3 := Lib.hid (B2.out.keep b1)
        clear b1 B2 AW CC y0 y1 y2 x3 x4 x5 x6
        have HMO := Lib.hid (fun (O' : Nat → Bool) (ho : ∀ i, O i = true → O' i = true) => er13_mono (W := W) (H := H) (n := m) (f := f) (t := t) ho)
        generalize er13 W H O m f t = E at *
        generalize vl13 W H O m f t = V at *
        go_wp2_with fail
        have Cw4 : Hid (Bx2 w w.heap.size w1.heap.size w3.drew W H A n m c f t k (bN : Int)) := ⟨B3.out.x.drew, B3.out.y.drew⟩
        refine wp_regionT (m := 10) (R := fun _ => True) (B := fun w' : World => w'.cell? ⟨w1.heap.size, 0, none⟩ = some (.int .i64 W) ∧ w'.cell? ⟨w1.heap.size, 1, none⟩ = some (.int .i64 H) ∧ w'.cell? ⟨w1.heap.size, 2, none⟩ = some (.slice A m c)) (by kernel_rfl) ?_
        clear B3
        generalize w3.drew = w4 at *
        have HS : Hid (True ∧ (fun w' : World => w'.cell? ⟨w1.heap.size, 0, none⟩ = some (.int .i64 W) ∧ w'.cell? ⟨w1.heap.size, 1, none⟩ = some (.int .i64 H) ∧ w'.cell? ⟨w1.heap.size, 2, none⟩ = some (.slice A m c)) w4) := ⟨trivial, Cw4.out.c.y0, Cw4.out.c.y1, Cw4.out.c.y2⟩
        simp only [List.size_toArray, List.length_cons, List.length_nil, Nat.reduceAdd, Array.replicate_succ, Array.replicate_zero, List.push_toArray, List.nil_append, List.cons_append]
        refine wpAnyT_take (i := 0) (v := ?_) rfl (by kernel_rfl) (by kernel_rfl) (by kernel_rfl) (by kernel_rfl) (by kernel_rfl) (by kernel_rfl) (fun _ _ _ h => h) (Or.inl ⟨by rfl, ?_⟩) HS.out ?_
        rotate_left
        · rintro w' ⟨-, hb0, hb1, hb2⟩
          go_simp
          with_reducible rfl
        simp only [Act.put, List.getElem_toArray, List.getElem_cons_zero, List.getElem_cons_succ, List.setIfInBounds_toArray, List.set_cons_zero, List.set_cons_succ]
        refine wpAnyT_take (i := 1) (v := ?_) rfl (by kernel_rfl) (by kernel_rfl) (by kernel_rfl) (by kernel_rfl) (by kernel_rfl) (by kernel_rfl) (fun _ _ _ h => h) (Or.inl ⟨by rfl, ?_⟩) HS.out ?_
        rotate_left
        · rintro w' ⟨-, hb0, hb1, hb2⟩
          go_simp
          with_reducible rfl
        simp only [Act.put, List.getElem_toArray, List.getElem_cons_zero, List.getElem_cons_succ, List.setIfInBounds_toArray, List.set_cons_zero, List.set_cons_succ]
        refine wpAnyT_take (i := 2) (v := ?_) rfl (by kernel_rfl) (by kernel_rfl) (by kernel_rfl) (by kernel_rfl) (by kernel_rfl) (by kernel_rfl) (fun _ _ _ h => h) (Or.inl ⟨by rfl, ?_⟩) HS.out ?_
        rotate_left
        · rintro w' ⟨-, hb0, hb1, hb2⟩
          go_simp
          with_reducible rfl
        simp only [Act.put, List.getElem_toArray, List.getElem_cons_zero, List.getElem_cons_succ, List.setIfInBounds_toArray, List.set_cons_zero, List.set_cons_succ]
        refine wpAnyT_take (i := 3) (v := ?_) rfl (by kernel_rfl) (by kernel_rfl) (by kernel_rfl) (by kernel_rfl) (by kernel_rfl) (by kernel_rfl) (fun _ _ _ h => h) (Or.inl ⟨by rfl, ?_⟩) HS.out ?_
        rotate_left
        · rintro w' ⟨-, hb0, hb1, hb2⟩
          go_simp
          with_reducible rfl
        simp only [Act.put, List.getElem_toArray, List.getElem_cons_zero, List.getElem_cons_succ, List.setIfInBounds_toArray, List.set_cons_zero, List.set_cons_succ]
        refine wpAnyT_take (i := 5) (v := ?_) rfl (by kernel_rfl) (by kernel_rfl) (by kernel_rfl) (by kernel_rfl) (by kernel_rfl) (by kernel_rfl) (fun _ _ _ h => h) (Or.inl ⟨by rfl, ?_⟩) HS.out ?_
        rotate_left
        · rintro w' ⟨-, hb0, hb1, hb2⟩
          go_simp
          with_reducible rfl
        simp only [Act.put, List.getElem_toArray, List.getElem_cons_zero, List.getElem_cons_succ, List.setIfInBounds_toArray, List.set_cons_zero, List.set_cons_succ]
        refine wpAnyT_take (i := 6) (v := ?_) rfl (by kernel_rfl) (by kernel_rfl) (by kernel_rfl) (by kernel_rfl) (by kernel_rfl) (by kernel_rfl) (fun _ _ _ h => h) (Or.inl ⟨by rfl, ?_⟩) HS.out ?_
        rotate_left
        · rintro w' ⟨-, hb0, hb1, hb2⟩
          go_simp
          with_reducible rfl
        simp only [Act.put, List.getElem_toArray, List.getElem_cons_zero, List.getElem_cons_succ, List.setIfInBounds_toArray, List.set_cons_zero, List.set_cons_succ]
        refine wpAnyT_two (i := 4) (j := 9) (by kernel_rfl) rfl rfl (fun K' hK => ?_) (fun K' hK => ?_)
        · rw [if_pos (by rfl)]
          simp only [List.getElem_toArray, List.getElem_cons_zero, List.getElem_cons_succ, List.setIfInBounds_toArray, List.set_cons_zero, List.set_cons_succ] at hK ⊢
          have HK' := Lib.hid hK
          clear hK
          go_simp
          have Cw5 := Lib.hid (Cw4.out.keep (newBox (.cells #[] 4)))
          have Dw5 : Hid ((fun w' : World => w'.cell? ⟨w1.heap.size, 0, none⟩ = some (.int .i64 W) ∧ w'.cell? ⟨w1.heap.size, 1, none⟩ = some (.int .i64 H) ∧ w'.cell? ⟨w1.heap.size, 2, none⟩ = some (.slice A m c)) (w4.alloc (.cells #[] 4))) := ⟨Cw5.out.c.y0, Cw5.out.c.y1, Cw5.out.c.y2⟩
          have OW : Hid ((w4.alloc (.cells #[] 4)).ownsRow w.heap.size 4 1 (.slice (some ⟨w4.heap.size, 0, none⟩) 0 0) 0 []) :=
            ⟨rfl, .inr ⟨w4.heap.size, 0, #[], rfl, Cw4.out.x.below.size, World.alloc_heap_new _ _, Nat.le_refl _, by unfold maxLen; omega, rfl, rfl⟩⟩
          refine HK'.out _ _ trivial (fun _ => Dw5.out) ?_
          clear HK' Dw5
          generalize hW5 : w4.alloc (.cells #[] 4) = w5 at *
          clear hW5
          refine wpAnyT_two (i := 7) (j := 9) (by kernel_rfl) rfl rfl (fun K' hK => ?_) (fun K' hK => ?_)
          · rw [if_pos (by rfl)]
            simp only [List.getElem_toArray, List.getElem_cons_zero, List.getElem_cons_succ, List.setIfInBounds_toArray, List.set_cons_zero, List.set_cons_succ] at hK ⊢
            have HK' := Lib.hid hK
            clear hK
            refine wp_append_bools (.tmp 42) (.tmp 44) rfl w.heap.size m c O A _ w5 rfl OW.out rfl (HL.out.bo.keep Cw5.out.x.below) (by omega) (by omega) Cw5.out.x.below.size ?_
            intro v' w6 hr6 hg6
            obtain ⟨RA, rk, rfl, rk1, rk2, rbv⟩ := bv_own (by omega) hr6
            obtain ⟨gb, rfl, hgb, -⟩ := rbv
            have Rw6 := Lib.hid hr6
            have hgw : w.heap.size ≤ gb := (hr6.lt gb rfl).1
            have Cw6 : Hid (Bx2 w w.heap.size w1.heap.size w6 W H A n m c f t k (bN : Int)) := ⟨Cw5.out.x.grown hg6 (blk_not_row Cw5.out.x.blk (by decide) OW.out) (fun r e => (OW.out.lt r e).1), Cw5.out.y.grown hg6 (blk_not_row Cw5.out.y.blk (by decide) OW.out) (fun r e => (OW.out.lt r e).1)⟩
            have Gw6 := Lib.hid hg6
            refine HK'.out _ _ trivial (fun _ => ⟨Cw6.out.c.y0, Cw6.out.c.y1, Cw6.out.c.y2⟩) ?_
            clear HK' hr6 hg6
            have HS : Hid (True ∧ (fun w' : World => w'.cell? ⟨w1.heap.size, 0, none⟩ = some (.int .i64 W) ∧ w'.cell? ⟨w1.heap.size, 1, none⟩ = some (.int .i64 H) ∧ w'.cell? ⟨w1.heap.size, 2, none⟩ = some (.slice A m c)) w6) := ⟨trivial, Cw6.out.c.y0, Cw6.out.c.y1, Cw6.out.c.y2⟩
            refine wpAnyT_take (i := 8) (v := ?_) rfl (by kernel_rfl) (by kernel_rfl) (by kernel_rfl) (by kernel_rfl) (by kernel_rfl) (by kernel_rfl) (fun _ _ _ h => h) (Or.inl ⟨by rfl, ?_⟩) HS.out ?_
            rotate_left
            · rintro w' ⟨-, hb0, hb1, hb2⟩
              go_simp
              with_reducible rfl
            simp only [Act.put, List.getElem_toArray, List.getElem_cons_zero, List.getElem_cons_succ, List.setIfInBounds_toArray, List.set_cons_zero, List.set_cons_succ]
            refine wpAnyT_one (i := 9) (by kernel_rfl) rfl (fun K' hK => ?_)
            rw [if_pos (by rfl)]
            simp only [List.getElem_toArray, List.getElem_cons_zero, List.getElem_cons_succ, List.setIfInBounds_toArray, List.set_cons_zero, List.set_cons_succ] at hK ⊢
            have HK' := Lib.hid hK
            clear hK
            go_simp
            have Cw7 := Lib.hid (Cw6.out.keep (newBox (.cells #[.int .i64 0, .int .i64 0, .slice none 0 0] 24)))
            have Dw7 : Hid ((fun w' : World => w'.cell? ⟨w1.heap.size, 0, none⟩ = some (.int .i64 W) ∧ w'.cell? ⟨w1.heap.size, 1, none⟩ = some (.int .i64 H) ∧ w'.cell? ⟨w1.heap.size, 2, none⟩ = some (.slice A m c)) (w6.alloc (.cells #[.int .i64 0, .int .i64 0, .slice none 0 0] 24))) := ⟨Cw7.out.c.y0, Cw7.out.c.y1, Cw7.out.c.y2⟩
            have KY : Hid (Kx w w6.heap.size (w6.alloc (.cells #[.int .i64 0, .int .i64 0, .slice none 0 0] 24)) 24 #[.int .i64 0, .int .i64 0, .slice none 0 0]) := Kx.next Cw6.out.x.below _ _
            have HYM : Hid (w1.heap.size < w6.heap.size) := Cw6.out.y.lt
            have Rw7 := Lib.hid (Rw6.out.kept (below_grownBy (row := none) (newBox (.cells #[.int .i64 0, .int .i64 0, .slice none 0 0] 24))) (by simp [Value.ownBlock]))
            refine HK'.out _ _ trivial (fun _ => Dw7.out) ?_
            clear HK' Dw7
            generalize hW7 : w6.alloc (.cells #[.int .i64 0, .int .i64 0, .slice none 0 0] 24) = w7 at *
            clear hW7 HS
            refine wpAnyT_one (i := 10) (by kernel_rfl) rfl (fun K' hK => ?_)
            rw [if_pos (by rfl)]
            simp only [List.getElem_toArray, List.getElem_cons_zero, List.getElem_cons_succ, List.setIfInBounds_toArray, List.set_cons_zero, List.set_cons_succ] at hK ⊢
            have HK' := Lib.hid hK
            clear hK
            have hy1 : w1.heap.size < w6.heap.size := HYM.out
            have y0' := KY.out.cell 0 rfl
            have y1' := KY.out.cell 1 rfl
            have y2' := KY.out.cell 2 rfl
            have f0' := KY.out.free 0
            have f1' := KY.out.free 1
            have f2' := KY.out.free 2
            have hyb : some w6.heap.size ≠ (Value.slice (some ⟨gb, 0, none⟩) m rk).ownBlock := blk_not_row KY.out.blk (by decide) Rw7.out
            go_simp
            have G1 := grown_set w7 w6.heap.size 0 (.int .i64 W)
            have K1 := (KY.out.set 0 (.int .i64 W)).set 1 (.int .i64 H) |>.set 2 (.slice (some ⟨gb, 0, none⟩) m rk)
            have hgy : gb ≠ w6.heap.size := fun e => hyb (by rw [e]; rfl)
            have G3 : w7.grownBy (((w7.setCell ⟨w6.heap.size, 0, none⟩ (.int .i64 W)).setCell ⟨w6.heap.size, 1, none⟩ (.int .i64 H)).setCell ⟨w6.heap.size, 2, none⟩ (.slice (some ⟨gb, 0, none⟩) m rk)) (some w6.heap.size) :=
              grownBy_trans (grownBy_trans (grown_set _ _ _ _) (grown_set _ _ _ _) (fun r e => .inr e)) (grown_set _ _ _ _) (fun r e => .inr e)
            have R9 : Hid ((((w7.setCell ⟨w6.heap.size, 0, none⟩ (.int .i64 W)).setCell ⟨w6.heap.size, 1, none⟩ (.int .i64 H)).setCell ⟨w6.heap.size, 2, none⟩ (.slice (some ⟨gb, 0, none⟩) m rk)).ownsRow w.heap.size 4 1 (.slice (some ⟨gb, 0, none⟩) m rk) m (bl O m)) := Rw7.out.kept G3 (.inr (Ne.symm hyb))
            have C9 : Hid (Bx2 w w.heap.size w1.heap.size (((w7.setCell ⟨w6.heap.size, 0, none⟩ (.int .i64 W)).setCell ⟨w6.heap.size, 1, none⟩ (.int .i64 H)).setCell ⟨w6.heap.size, 2, none⟩ (.slice (some ⟨gb, 0, none⟩) m rk)) W H A n m c f t k (bN : Int)) := ⟨Cw7.out.x.grown G3 (by simp; omega) (fun r e => by injection e with e; omega), Cw7.out.y.grown G3 (by simp; omega) (fun r e => by injection e with e; omega)⟩
            have K9 : Hid (Kx w w6.heap.size (((w7.setCell ⟨w6.heap.size, 0, none⟩ (.int .i64 W)).setCell ⟨w6.heap.size, 1, none⟩ (.int .i64 H)).setCell ⟨w6.heap.size, 2, none⟩ (.slice (some ⟨gb, 0, none⟩) m rk)) 24 #[.int .i64 W, .int .i64 H, .slice (some ⟨gb, 0, none⟩) m rk]) := K1
            refine HK'.out _ _ trivial (fun hh => absurd hh (by decide)) ?_
            clear HK' y0' y1' y2' f0' f1' f2' G1 K1 G3 hyb
            refine wpAnyT_done (by kernel_rfl) ?_ _
            generalize ((w7.setCell ⟨w6.heap.size, 0, none⟩ (.int .i64 W)).setCell ⟨w6.heap.size, 1, none⟩ (.int .i64 H)).setCell ⟨w6.heap.size, 2, none⟩ (.slice (some ⟨gb, 0, none⟩) m rk) = w9 at *
            obtain ⟨y0, y1, y2, x3, x4, x5, x6⟩ := C9.out.c
            have z0 := K9.out.cell 0 rfl
            have z1 := K9.out.cell 1 rfl
            have z2 := K9.out.cell 2 rfl
            have cb : w9.cell? ⟨gb, bN, none⟩ = some (.bool (O bN)) := by rw [World.ownsRow.cellAt R9.out bN (by omega)]; exact bl_at O m bN hbn
            obtain ⟨_, hgl, cur, hcur, _, _⟩ := own_row R9.out
            have fb : w9.frozen? ⟨gb, bN, none⟩ = false := by simp [World.frozen?, hcur]
            have G := grown_set w9 gb bN (.bool true)
            have CA : Hid (Bx2 w w.heap.size w1.heap.size (w9.setCell ⟨gb, bN, none⟩ (.bool true)) W H A n m c f t k (bN : Int)) := ⟨C9.out.x.grown G (blk_not_row C9.out.x.blk (by decide) R9.out) (fun r e => by injection e with e; omega), C9.out.y.grown G (blk_not_row C9.out.y.blk (by decide) R9.out) (fun r e => by injection e with e; omega)⟩
            have KA : Hid (Kx w w6.heap.size (w9.setCell ⟨gb, bN, none⟩ (.bool true)) 24 #[.int .i64 W, .int .i64 H, .slice (some ⟨gb, 0, none⟩) m rk]) := K9.out.grown G (by simp; omega) (fun r e => by injection e with e; omega)
            have BA : Hid (Bo (w9.setCell ⟨gb, bN, none⟩ (.bool true)) (some ⟨gb, 0, none⟩) m (fun i => if i = bN then true else O i)) := by
              intro _
              refine ⟨gb, 0, rfl, by simpa using hgl, fun i hi => ?_⟩
              rw [Nat.zero_add]
              show _ = some (Value.bool (if i = bN then true else O i))
              by_cases e : i = bN
              · subst e
                rw [if_pos rfl]
                exact World.cell?_setCell_same _ _ _ cb
              · rw [if_neg e]
                refine cell_far ?_ (.inr (Ne.symm e))
                rw [World.ownsRow.cellAt R9.out i (by omega)]; exact bl_at O m i hi
            have LA : Hid (Lin (w9.setCell ⟨gb, bN, none⟩ (.bool true)) (some ⟨gb, 0, none⟩) m rk (fun i => if i = bN then true else O i)) := ⟨BA.out, rk1, rk2, HT.out.keep CA.out.x.below⟩
            have CC := Lib.hid (cost13_any W H (fun i => if i = bN then true else O i) m rk f t (some ⟨gb, 0, none⟩) _ LA.out)
            have HM := Lib.hid (HMO.out (fun i => if i = bN then true else O i) (fun i h => by show (if i = bN then true else O i) = true; split; rfl; exact h))
            have z0' := KA.out.cell 0 rfl
            have z1' := KA.out.cell 1 rfl
            have z2' := KA.out.cell 2 rfl
            obtain ⟨a0, a1, a2, a3, a4, a5, a6⟩ := CA.out.c
            clear G C9 K9 R9 BA LA hcur Cw7 KY HYM
            go_wp2_with fail
            refine CC.out.mono ?_
            rintro e wA ⟨⟨rfl, b1⟩, u1, u2⟩
            have AW : Hid (Calls Tryd.prog 12 #[] wA (fun e w' => e = .returned (.bool true) ∧ RowKit.Below w.heap.size w w')) := by
              refine (awake13_any wA (HT.out.keep (CA.out.x.below.trans (b1.mono CA.out.x.below.size)))).mono ?_
              rintro e w' ⟨rfl, hb⟩
              have := CA.out.x.below.trans (b1.mono CA.out.x.below.size)
              exact ⟨rfl, this.trans (hb.mono this.size)⟩
            generalize er13 W H (fun i => if i = bN then true else O i) m f t = E' at *
            generalize vl13 W H (fun i => if i = bN then true else O i) m f t = V' at *
            clear b1 CA KA CC z0 z1 z2 z0' z1' z2' a0 a1 a2 a3 a4 a5 a6 y0 y1 y2 x3 x4 x5 x6 cb fb HMO
            by_cases hE : E = 0
            · obtain ⟨h1, h2⟩ := HM.out hE
              subst hE h1
              have hz : ((0 : Int) != 0) = false := by decide
              have hz2 : ((0 : Int) == 0) = true := by decide
              have hv : decide (V' ≤ V) = true := decide_eq_true h2
              clear HM
              go_wp2_with fail
              refine AW.out.mono ?_
              rintro e wB ⟨rfl, hb⟩
              have HB := Lib.hid hb
              clear hb AW
              go_wp2
              go_ret
              exact Ret.mk rfl HB.out
            · have hz : (E != 0) = true := by simp [hE]
              clear HM hE
              go_wp2_with fail
              refine AW.out.mono ?_
              rintro e wB ⟨rfl, hb⟩
              have HB := Lib.hid hb
              clear hb AW
              go_wp2
              go_ret
              exact Ret.mk rfl HB.out
          · rw [if_pos (by rfl)]
            simp only [List.getElem_toArray, List.getElem_cons_zero, List.getElem_cons_succ, List.setIfInBounds_toArray, List.set_cons_zero, List.set_cons_succ] at hK ⊢
            have HK' := Lib.hid hK
            clear hK
            go_simp
            have Cw6 := Lib.hid (Cw5.out.keep (newBox (.cells #[.int .i64 0, .int .i64 0, .slice none 0 0] 24)))
            have Dw6 : Hid ((fun w' : World => w'.cell? ⟨w1.heap.size, 0, none⟩ = some (.int .i64 W) ∧ w'.cell? ⟨w1.heap.size, 1, none⟩ = some (.int .i64 H) ∧ w'.cell? ⟨w1.heap.size, 2, none⟩ = some (.slice A m c)) (w5.alloc (.cells #[.int .i64 0, .int .i64 0, .slice none 0 0] 24))) := ⟨Cw6.out.c.y0, Cw6.out.c.y1, Cw6.out.c.y2⟩
            have KY : Hid (Kx w w5.heap.size (w5.alloc (.cells #[.int .i64 0, .int .i64 0, .slice none 0 0] 24)) 24 #[.int .i64 0, .int .i64 0, .slice none 0 0]) := Kx.next Cw5.out.x.below _ _
            have HYM : Hid (w1.heap.size < w5.heap.size) := Cw5.out.y.lt
            have OW2 : Hid ((w5.alloc (.cells #[.int .i64 0, .int .i64 0, .slice none 0 0] 24)).ownsRow w.heap.size 4 1 (.slice (some ⟨w4.heap.size, 0, none⟩) 0 0) 0 []) := World.ownsRow.kept OW.out (below_grownBy (row := none) (newBox (.cells #[.int .i64 0, .int .i64 0, .slice none 0 0] 24))) (by simp [Value.ownBlock])
            refine HK'.out _ _ trivial (fun _ => Dw6.out) ?_
            clear HK' Dw6
            clear OW
            have OW := OW2
            clear OW2
            generalize hW6 : w5.alloc (.cells #[.int .i64 0, .int .i64 0, .slice none 0 0] 24) = w6 at *
            clear hW6 HS
            refine wpAnyT_one (i := 7) (by kernel_rfl) rfl (fun K' hK => ?_)
            rw [if_pos (by rfl)]
            simp only [List.getElem_toArray, List.getElem_cons_zero, List.getElem_cons_succ, List.setIfInBounds_toArray, List.set_cons_zero, List.set_cons_succ] at hK ⊢
            have HK' := Lib.hid hK
            clear hK
            refine wp_append_bools (.tmp 42) (.tmp 44) rfl w.heap.size m c O A _ w6 rfl OW.out rfl (HL.out.bo.keep Cw6.out.x.below) (by omega) (by omega) Cw6.out.x.below.size ?_
            intro v' w7 hr6 hg6
            obtain ⟨RA, rk, rfl, rk1, rk2, rbv⟩ := bv_own (by omega) hr6
            obtain ⟨gb, rfl, hgb, -⟩ := rbv
            have Rw7 := Lib.hid hr6
            have hgw : w.heap.size ≤ gb := (hr6.lt gb rfl).1
            have Cw7 : Hid (Bx2 w w.heap.size w1.heap.size w7 W H A n m c f t k (bN : Int)) := ⟨Cw6.out.x.grown hg6 (blk_not_row Cw6.out.x.blk (by decide) OW.out) (fun r e => (OW.out.lt r e).1), Cw6.out.y.grown hg6 (blk_not_row Cw6.out.y.blk (by decide) OW.out) (fun r e => (OW.out.lt r e).1)⟩
            have Gw7 := Lib.hid hg6
            refine HK'.out _ _ trivial (fun _ => ⟨Cw7.out.c.y0, Cw7.out.c.y1, Cw7.out.c.y2⟩) ?_
            clear HK' hr6 hg6
            have KY2 : Hid (Kx w w5.heap.size w7 24 #[.int .i64 0, .int .i64 0, .slice none 0 0]) := KY.out.grown (by exact Gw7.out) (blk_not_row KY.out.blk (by decide) OW.out) (fun r e => (OW.out.lt r e).1)
            clear KY Gw7
            have KY := KY2
            clear KY2
            have HS : Hid (True ∧ (fun w' : World => w'.cell? ⟨w1.heap.size, 0, none⟩ = some (.int .i64 W) ∧ w'.cell? ⟨w1.heap.size, 1, none⟩ = some (.int .i64 H) ∧ w'.cell? ⟨w1.heap.size, 2, none⟩ = some (.slice A m c)) w7) := ⟨trivial, Cw7.out.c.y0, Cw7.out.c.y1, Cw7.out.c.y2⟩
            refine wpAnyT_take (i := 8) (v := ?_) rfl (by kernel_rfl) (by kernel_rfl) (by kernel_rfl) (by kernel_rfl) (by kernel_rfl) (by kernel_rfl) (fun _ _ _ h => h) (Or.inl ⟨by rfl, ?_⟩) HS.out ?_
            rotate_left
            · rintro w' ⟨-, hb0, hb1, hb2⟩
              go_simp
              with_reducible rfl
            simp only [Act.put, List.getElem_toArray, List.getElem_cons_zero, List.getElem_cons_succ, List.setIfInBounds_toArray, List.set_cons_zero, List.set_cons_succ]
            clear HS
            refine wpAnyT_one (i := 10) (by kernel_rfl) rfl (fun K' hK => ?_)
            rw [if_pos (by rfl)]
            simp only [List.getElem_toArray, List.getElem_cons_zero, List.getElem_cons_succ, List.setIfInBounds_toArray, List.set_cons_zero, List.set_cons_succ] at hK ⊢
            have HK' := Lib.hid hK
            clear hK
            have hy1 : w1.heap.size < w5.heap.size := HYM.out
            have y0' := KY.out.cell 0 rfl
            have y1' := KY.out.cell 1 rfl
            have y2' := KY.out.cell 2 rfl
            have f0' := KY.out.free 0
            have f1' := KY.out.free 1
            have f2' := KY.out.free 2
            have hyb : some w5.heap.size ≠ (Value.slice (some ⟨gb, 0, none⟩) m rk).ownBlock := blk_not_row KY.out.blk (by decide) Rw7.out
            go_simp
            have G1 := grown_set w7 w5.heap.size 0 (.int .i64 W)
            have K1 := (KY.out.set 0 (.int .i64 W)).set 1 (.int .i64 H) |>.set 2 (.slice (some ⟨gb, 0, none⟩) m rk)
            have hgy : gb ≠ w5.heap.size := fun e => hyb (by rw [e]; rfl)
            have G3 : w7.grownBy (((w7.setCell ⟨w5.heap.size, 0, none⟩ (.int .i64 W)).setCell ⟨w5.heap.size, 1, none⟩ (.int .i64 H)).setCell ⟨w5.heap.size, 2, none⟩ (.slice (some ⟨gb, 0, none⟩) m rk)) (some w5.heap.size) :=
              grownBy_trans (grownBy_trans (grown_set _ _ _ _) (grown_set _ _ _ _) (fun r e => .inr e)) (grown_set _ _ _ _) (fun r e => .inr e)
            have R9 : Hid ((((w7.setCell ⟨w5.heap.size, 0, none⟩ (.int .i64 W)).setCell ⟨w5.heap.size, 1, none⟩ (.int .i64 H)).setCell ⟨w5.heap.size, 2, none⟩ (.slice (some ⟨gb, 0, none⟩) m rk)).ownsRow w.heap.size 4 1 (.slice (some ⟨gb, 0, none⟩) m rk) m (bl O m)) := Rw7.out.kept G3 (.inr (Ne.symm hyb))
            have C9 : Hid (Bx2 w w.heap.size w1.heap.size (((w7.setCell ⟨w5.heap.size, 0, none⟩ (.int .i64 W)).setCell ⟨w5.heap.size, 1, none⟩ (.int .i64 H)).setCell ⟨w5.heap.size, 2, none⟩ (.slice (some ⟨gb, 0, none⟩) m rk)) W H A n m c f t k (bN : Int)) := ⟨Cw7.out.x.grown G3 (by simp; omega) (fun r e => by injection e with e; omega), Cw7.out.y.grown G3 (by simp; omega) (fun r e => by injection e with e; omega)⟩
            have K9 : Hid (Kx w w5.heap.size (((w7.setCell ⟨w5.heap.size, 0, none⟩ (.int .i64 W)).setCell ⟨w5.heap.size, 1, none⟩ (.int .i64 H)).setCell ⟨w5.heap.size, 2, none⟩ (.slice (some ⟨gb, 0, none⟩) m rk)) 24 #[.int .i64 W, .int .i64 H, .slice (some ⟨gb, 0, none⟩) m rk]) := K1
            refine HK'.out _ _ trivial (fun hh => absurd hh (by decide)) ?_
            clear HK' y0' y1' y2' f0' f1' f2' G1 K1 G3 hyb
            refine wpAnyT_done (by kernel_rfl) ?_ _
            generalize ((w7.setCell ⟨w5.heap.size, 0, none⟩ (.int .i64 W)).setCell ⟨w5.heap.size, 1, none⟩ (.int .i64 H)).setCell ⟨w5.heap.size, 2, none⟩ (.slice (some ⟨gb, 0, none⟩) m rk) = w9 at *
            obtain ⟨y0, y1, y2, x3, x4, x5, x6⟩ := C9.out.c
            have z0 := K9.out.cell 0 rfl
            have z1 := K9.out.cell 1 rfl
            have z2 := K9.out.cell 2 rfl
            have cb : w9.cell? ⟨gb, bN, none⟩ = some (.bool (O bN)) := by rw [World.ownsRow.cellAt R9.out bN (by omega)]; exact bl_at O m bN hbn
            obtain ⟨_, hgl, cur, hcur, _, _⟩ := own_row R9.out
            have fb : w9.frozen? ⟨gb, bN, none⟩ = false := by simp [World.frozen?, hcur]
            have G := grown_set w9 gb bN (.bool true)
            have CA : Hid (Bx2 w w.heap.size w1.heap.size (w9.setCell ⟨gb, bN, none⟩ (.bool true)) W H A n m c f t k (bN : Int)) := ⟨C9.out.x.grown G (blk_not_row C9.out.x.blk (by decide) R9.out) (fun r e => by injection e with e; omega), C9.out.y.grown G (blk_not_row C9.out.y.blk (by decide) R9.out) (fun r e => by injection e with e; omega)⟩
            have KA : Hid (Kx w w5.heap.size (w9.setCell ⟨gb, bN, none⟩ (.bool true)) 24 #[.int .i64 W, .int .i64 H, .slice (some ⟨gb, 0, none⟩) m rk]) := K9.out.grown G (by simp; omega) (fun r e => by injection e with e; omega)
            have BA : Hid (Bo (w9.setCell ⟨gb, bN, none⟩ (.bool true)) (some ⟨gb, 0, none⟩) m (fun i => if i = bN then true else O i)) := by
              intro _
              refine ⟨gb, 0, rfl, by simpa using hgl, fun i hi => ?_⟩
              rw [Nat.zero_add]
              show _ = some (Value.bool (if i = bN then true else O i))
              by_cases e : i = bN
              · subst e
                rw [if_pos rfl]
                exact World.cell?_setCell_same _ _ _ cb
              · rw [if_neg e]
                refine cell_far ?_ (.inr (Ne.symm e))
                rw [World.ownsRow.cellAt R9.out i (by omega)]; exact bl_at O m i hi
            have LA : Hid (Lin (w9.setCell ⟨gb, bN, none⟩ (.bool true)) (some ⟨gb, 0, none⟩) m rk (fun i => if i = bN then true else O i)) := ⟨BA.out, rk1, rk2, HT.out.keep CA.out.x.below⟩
            have CC := Lib.hid (cost13_any W H (fun i => if i = bN then true else O i) m rk f t (some ⟨gb, 0, none⟩) _ LA.out)
            have HM := Lib.hid (HMO.out (fun i => if i = bN then true else O i) (fun i h => by show (if i = bN then true else O i) = true; split; rfl; exact h))
            have z0' := KA.out.cell 0 rfl
            have z1' := KA.out.cell 1 rfl
            have z2' := KA.out.cell 2 rfl
            obtain ⟨a0, a1, a2, a3, a4, a5, a6⟩ := CA.out.c
            clear G C9 K9 R9 BA LA hcur Cw7 KY HYM
            go_wp2_with fail
            refine CC.out.mono ?_
            rintro e wA ⟨⟨rfl, b1⟩, u1, u2⟩
            have AW : Hid (Calls Tryd.prog 12 #[] wA (fun e w' => e = .returned (.bool true) ∧ RowKit.Below w.heap.size w w')) := by
              refine (awake13_any wA (HT.out.keep (CA.out.x.below.trans (b1.mono CA.out.x.below.size)))).mono ?_
              rintro e w' ⟨rfl, hb⟩
              have := CA.out.x.below.trans (b1.mono CA.out.x.below.size)
              exact ⟨rfl, this.trans (hb.mono this.size)⟩
            generalize er13 W H (fun i => if i = bN then true else O i) m f t = E' at *
            generalize vl13 W H (fun i => if i = bN then true else O i) m f t = V' at *
            clear b1 CA KA CC z0 z1 z2 z0' z1' z2' a0 a1 a2 a3 a4 a5 a6 y0 y1 y2 x3 x4 x5 x6 cb fb HMO
            by_cases hE : E = 0
            · obtain ⟨h1, h2⟩ := HM.out hE
              subst hE h1
              have hz : ((0 : Int) != 0) = false := by decide
              have hz2 : ((0 : Int) == 0) = true := by decide
              have hv : decide (V' ≤ V) = true := decide_eq_true h2
              clear HM
              go_wp2_with fail
              refine AW.out.mono ?_
              rintro e wB ⟨rfl, hb⟩
              have HB := Lib.hid hb
              clear hb AW
              go_wp2
              go_ret
              exact Ret.mk rfl HB.out
            · have hz : (E != 0) = true := by simp [hE]
              clear HM hE
              go_wp2_with fail
              refine AW.out.mono ?_
              rintro e wB ⟨rfl, hb⟩
              have HB := Lib.hid hb
              clear hb AW
              go_wp2
              go_ret
              exact Ret.mk rfl HB.out
        · rw [if_pos (by rfl)]
          simp only [List.getElem_toArray, List.getElem_cons_zero, List.getElem_cons_succ, List.setIfInBounds_toArray, List.set_cons_zero, List.set_cons_succ] at hK ⊢
          have HK' := Lib.hid hK
          clear hK
          go_simp
          have Cw5 := Lib.hid (Cw4.out.keep (newBox (.cells #[.int .i64 0, .int .i64 0, .slice none 0 0] 24)))
          have Dw5 : Hid ((fun w' : World => w'.cell? ⟨w1.heap.size, 0, none⟩ = some (.int .i64 W) ∧ w'.cell? ⟨w1.heap.size, 1, none⟩ = some (.int .i64 H) ∧ w'.cell? ⟨w1.heap.size, 2, none⟩ = some (.slice A m c)) (w4.alloc (.cells #[.int .i64 0, .int .i64 0, .slice none 0 0] 24))) := ⟨Cw5.out.c.y0, Cw5.out.c.y1, Cw5.out.c.y2⟩
          have KY : Hid (Kx w w4.heap.size (w4.alloc (.cells #[.int .i64 0, .int .i64 0, .slice none 0 0] 24)) 24 #[.int .i64 0, .int .i64 0, .slice none 0 0]) := Kx.next Cw4.out.x.below _ _
          have HYM : Hid (w1.heap.size < w4.heap.size) := Cw4.out.y.lt
          refine HK'.out _ _ trivial (fun _ => Dw5.out) ?_
          clear HK' Dw5
          generalize hW5 : w4.alloc (.cells #[.int .i64 0, .int .i64 0, .slice none 0 0] 24) = w5 at *
          clear hW5 HS
          refine wpAnyT_one (i := 4) (by kernel_rfl) rfl (fun K' hK => ?_)
          rw [if_pos (by rfl)]
          simp only [List.getElem_toArray, List.getElem_cons_zero, List.getElem_cons_succ, List.setIfInBounds_toArray, List.set_cons_zero, List.set_cons_succ] at hK ⊢
          have HK' := Lib.hid hK
          clear hK
          go_simp
          have Cw6 := Lib.hid (Cw5.out.keep (newBox (.cells #[] 4)))
          have Dw6 : Hid ((fun w' : World => w'.cell? ⟨w1.heap.size, 0, none⟩ = some (.int .i64 W) ∧ w'.cell? ⟨w1.heap.size, 1, none⟩ = some (.int .i64 H) ∧ w'.cell? ⟨w1.heap.size, 2, none⟩ = some (.slice A m c)) (w5.alloc (.cells #[] 4))) := ⟨Cw6.out.c.y0, Cw6.out.c.y1, Cw6.out.c.y2⟩
          have OW : Hid ((w5.alloc (.cells #[] 4)).ownsRow w.heap.size 4 1 (.slice (some ⟨w5.heap.size, 0, none⟩) 0 0) 0 []) :=
            ⟨rfl, .inr ⟨w5.heap.size, 0, #[], rfl, Cw5.out.x.below.size, World.alloc_heap_new _ _, Nat.le_refl _, by unfold maxLen; omega, rfl, rfl⟩⟩
          have KY2 := Lib.hid (KY.out.keep (newBox (.cells #[] 4)))
          refine HK'.out _ _ trivial (fun _ => Dw6.out) ?_
          clear HK' Dw6
          clear KY
          have KY := KY2
          clear KY2
          generalize hW6 : w5.alloc (.cells #[] 4) = w6 at *
          clear hW6
          refine wpAnyT_one (i := 7) (by kernel_rfl) rfl (fun K' hK => ?_)
          rw [if_pos (by rfl)]
          simp only [List.getElem_toArray, List.getElem_cons_zero, List.getElem_cons_succ, List.setIfInBounds_toArray, List.set_cons_zero, List.set_cons_succ] at hK ⊢
          have HK' := Lib.hid hK
          clear hK
          refine wp_append_bools (.tmp 42) (.tmp 44) rfl w.heap.size m c O A _ w6 rfl OW.out rfl (HL.out.bo.keep Cw6.out.x.below) (by omega) (by omega) Cw6.out.x.below.size ?_
          intro v' w7 hr6 hg6
          obtain ⟨RA, rk, rfl, rk1, rk2, rbv⟩ := bv_own (by omega) hr6
          obtain ⟨gb, rfl, hgb, -⟩ := rbv
          have Rw7 := Lib.hid hr6
          have hgw : w.heap.size ≤ gb := (hr6.lt gb rfl).1
          have Cw7 : Hid (Bx2 w w.heap.size w1.heap.size w7 W H A n m c f t k (bN : Int)) := ⟨Cw6.out.x.grown hg6 (blk_not_row Cw6.out.x.blk (by decide) OW.out) (fun r e => (OW.out.lt r e).1), Cw6.out.y.grown hg6 (blk_not_row Cw6.out.y.blk (by decide) OW.out) (fun r e => (OW.out.lt r e).1)⟩
          have Gw7 := Lib.hid hg6
          refine HK'.out _ _ trivial (fun _ => ⟨Cw7.out.c.y0, Cw7.out.c.y1, Cw7.out.c.y2⟩) ?_
          clear HK' hr6 hg6
          have KY2 : Hid (Kx w w4.heap.size w7 24 #[.int .i64 0, .int .i64 0, .slice none 0 0]) := KY.out.grown (by exact Gw7.out) (blk_not_row KY.out.blk (by decide) OW.out) (fun r e => (OW.out.lt r e).1)
          clear KY Gw7
          have KY := KY2
          clear KY2
          have HS : Hid (True ∧ (fun w' : World => w'.cell? ⟨w1.heap.size, 0, none⟩ = some (.int .i64 W) ∧ w'.cell? ⟨w1.heap.size, 1, none⟩ = some (.int .i64 H) ∧ w'.cell? ⟨w1.heap.size, 2, none⟩ = some (.slice A m c)) w7) := ⟨trivial, Cw7.out.c.y0, Cw7.out.c.y1, Cw7.out.c.y2⟩
          refine wpAnyT_take (i := 8) (v := ?_) rfl (by kernel_rfl) (by kernel_rfl) (by kernel_rfl) (by kernel_rfl) (by kernel_rfl) (by kernel_rfl) (fun _ _ _ h => h) (Or.inl ⟨by rfl, ?_⟩) HS.out ?_
          rotate_left
          · rintro w' ⟨-, hb0, hb1, hb2⟩
            go_simp
            with_reducible rfl
          simp only [Act.put, List.getElem_toArray, List.getElem_cons_zero, List.getElem_cons_succ, List.setIfInBounds_toArray, List.set_cons_zero, List.set_cons_succ]
          clear HS
          refine wpAnyT_one (i := 10) (by kernel_rfl) rfl (fun K' hK => ?_)
          rw [if_pos (by rfl)]
          simp only [List.getElem_toArray, List.getElem_cons_zero, List.getElem_cons_succ, List.setIfInBounds_toArray, List.set_cons_zero, List.set_cons_succ] at hK ⊢
          have HK' := Lib.hid hK
          clear hK
          have hy1 : w1.heap.size < w4.heap.size := HYM.out
          have y0' := KY.out.cell 0 rfl
          have y1' := KY.out.cell 1 rfl
          have y2' := KY.out.cell 2 rfl
          have f0' := KY.out.free 0
          have f1' := KY.out.free 1
          have f2' := KY.out.free 2
          have hyb : some w4.heap.size ≠ (Value.slice (some ⟨gb, 0, none⟩) m rk).ownBlock := blk_not_row KY.out.blk (by decide) Rw7.out
          go_simp
          have G1 := grown_set w7 w4.heap.size 0 (.int .i64 W)
          have K1 := (KY.out.set 0 (.int .i64 W)).set 1 (.int .i64 H) |>.set 2 (.slice (some ⟨gb, 0, none⟩) m rk)
          have hgy : gb ≠ w4.heap.size := fun e => hyb (by rw [e]; rfl)
          have G3 : w7.grownBy (((w7.setCell ⟨w4.heap.size, 0, none⟩ (.int .i64 W)).setCell ⟨w4.heap.size, 1, none⟩ (.int .i64 H)).setCell ⟨w4.heap.size, 2, none⟩ (.slice (some ⟨gb, 0, none⟩) m rk)) (some w4.heap.size) :=
            grownBy_trans (grownBy_trans (grown_set _ _ _ _) (grown_set _ _ _ _) (fun r e => .inr e)) (grown_set _ _ _ _) (fun r e => .inr e)
          have R9 : Hid ((((w7.setCell ⟨w4.heap.size, 0, none⟩ (.int .i64 W)).setCell ⟨w4.heap.size, 1, none⟩ (.int .i64 H)).setCell ⟨w4.heap.size, 2, none⟩ (.slice (some ⟨gb, 0, none⟩) m rk)).ownsRow w.heap.size 4 1 (.slice (some ⟨gb, 0, none⟩) m rk) m (bl O m)) := Rw7.out.kept G3 (.inr (Ne.symm hyb))
          have C9 : Hid (Bx2 w w.heap.size w1.heap.size (((w7.setCell ⟨w4.heap.size, 0, none⟩ (.int .i64 W)).setCell ⟨w4.heap.size, 1, none⟩ (.int .i64 H)).setCell ⟨w4.heap.size, 2, none⟩ (.slice (some ⟨gb, 0, none⟩) m rk)) W H A n m c f t k (bN : Int)) := ⟨Cw7.out.x.grown G3 (by simp; omega) (fun r e => by injection e with e; omega), Cw7.out.y.grown G3 (by simp; omega) (fun r e => by injection e with e; omega)⟩
          have K9 : Hid (Kx w w4.heap.size (((w7.setCell ⟨w4.heap.size, 0, none⟩ (.int .i64 W)).setCell ⟨w4.heap.size, 1, none⟩ (.int .i64 H)).setCell ⟨w4.heap.size, 2, none⟩ (.slice (some ⟨gb, 0, none⟩) m rk)) 24 #[.int .i64 W, .int .i64 H, .slice (some ⟨gb, 0, none⟩) m rk]) := K1
          refine HK'.out _ _ trivial (fun hh => absurd hh (by decide)) ?_
          clear HK' y0' y1' y2' f0' f1' f2' G1 K1 G3 hyb
          refine wpAnyT_done (by kernel_rfl) ?_ _
          generalize ((w7.setCell ⟨w4.heap.size, 0, none⟩ (.int .i64 W)).setCell ⟨w4.heap.size, 1, none⟩ (.int .i64 H)).setCell ⟨w4.heap.size, 2, none⟩ (.slice (some ⟨gb, 0, none⟩) m rk) = w9 at *
          obtain ⟨y0, y1, y2, x3, x4, x5, x6⟩ := C9.out.c
          have z0 := K9.out.cell 0 rfl
          have z1 := K9.out.cell 1 rfl
          have z2 := K9.out.cell 2 rfl
          have cb : w9.cell? ⟨gb, bN, none⟩ = some (.bool (O bN)) := by rw [World.ownsRow.cellAt R9.out bN (by omega)]; exact bl_at O m bN hbn
          obtain ⟨_, hgl, cur, hcur, _, _⟩ := own_row R9.out
          have fb : w9.frozen? ⟨gb, bN, none⟩ = false := by simp [World.frozen?, hcur]
          have G := grown_set w9 gb bN (.bool true)
          have CA : Hid (Bx2 w w.heap.size w1.heap.size (w9.setCell ⟨gb, bN, none⟩ (.bool true)) W H A n m c f t k (bN : Int)) := ⟨C9.out.x.grown G (blk_not_row C9.out.x.blk (by decide) R9.out) (fun r e => by injection e with e; omega), C9.out.y.grown G (blk_not_row C9.out.y.blk (by decide) R9.out) (fun r e => by injection e with e; omega)⟩
          have KA : Hid (Kx w w4.heap.size (w9.setCell ⟨gb, bN, none⟩ (.bool true)) 24 #[.int .i64 W, .int .i64 H, .slice (some ⟨gb, 0, none⟩) m rk]) := K9.out.grown G (by simp; omega) (fun r e => by injection e with e; omega)
          have BA : Hid (Bo (w9.setCell ⟨gb, bN, none⟩ (.bool true)) (some ⟨gb, 0, none⟩) m (fun i => if i = bN then true else O i)) := by
            intro _
            refine ⟨gb, 0, rfl, by simpa using hgl, fun i hi => ?_⟩
            rw [Nat.zero_add]
            show _ = some (Value.bool (if i = bN then true else O i))
            by_cases e : i = bN
            · subst e
              rw [if_pos rfl]
              exact World.cell?_setCell_same _ _ _ cb
            · rw [if_neg e]
              refine cell_far ?_ (.inr (Ne.symm e))
              rw [World.ownsRow.cellAt R9.out i (by omega)]; exact bl_at O m i hi
          have LA : Hid (Lin (w9.setCell ⟨gb, bN, none⟩ (.bool true)) (some ⟨gb, 0, none⟩) m rk (fun i => if i = bN then true else O i)) := ⟨BA.out, rk1, rk2, HT.out.keep CA.out.x.below⟩
          have CC := Lib.hid (cost13_any W H (fun i => if i = bN then true else O i) m rk f t (some ⟨gb, 0, none⟩) _ LA.out)
          have HM := Lib.hid (HMO.out (fun i => if i = bN then true else O i) (fun i h => by show (if i = bN then true else O i) = true; split; rfl; exact h))
          have z0' := KA.out.cell 0 rfl
          have z1' := KA.out.cell 1 rfl
          have z2' := KA.out.cell 2 rfl
          obtain ⟨a0, a1, a2, a3, a4, a5, a6⟩ := CA.out.c
          clear G C9 K9 R9 BA LA hcur Cw7 KY HYM
          go_wp2_with fail
          refine CC.out.mono ?_
          rintro e wA ⟨⟨rfl, b1⟩, u1, u2⟩
          have AW : Hid (Calls Tryd.prog 12 #[] wA (fun e w' => e = .returned (.bool true) ∧ RowKit.Below w.heap.size w w')) := by
            refine (awake13_any wA (HT.out.keep (CA.out.x.below.trans (b1.mono CA.out.x.below.size)))).mono ?_
            rintro e w' ⟨rfl, hb⟩
            have := CA.out.x.below.trans (b1.mono CA.out.x.below.size)
            exact ⟨rfl, this.trans (hb.mono this.size)⟩
          generalize er13 W H (fun i => if i = bN then true else O i) m f t = E' at *
          generalize vl13 W H (fun i => if i = bN then true else O i) m f t = V' at *
          clear b1 CA KA CC z0 z1 z2 z0' z1' z2' a0 a1 a2 a3 a4 a5 a6 y0 y1 y2 x3 x4 x5 x6 cb fb HMO
          by_cases hE : E = 0
          · obtain ⟨h1, h2⟩ := HM.out hE
            subst hE h1
            have hz : ((0 : Int) != 0) = false := by decide
            have hz2 : ((0 : Int) == 0) = true := by decide
            have hv : decide (V' ≤ V) = true := decide_eq_true h2
            clear HM
            go_wp2_with fail
            refine AW.out.mono ?_
            rintro e wB ⟨rfl, hb⟩
            have HB := Lib.hid hb
            clear hb AW
            go_wp2
            go_ret
            exact Ret.mk rfl HB.out
          · have hz : (E != 0) = true := by simp [hE]
            clear HM hE
            go_wp2_with fail
            refine AW.out.mono ?_
            rintro e wB ⟨rfl, hb⟩
            have HB := Lib.hid hb
            clear hb AW
            go_wp2
            go_ret
            exact Ret.mk rfl HB.out
end Go.Proofs.YtcipedijjemghaaDoor
