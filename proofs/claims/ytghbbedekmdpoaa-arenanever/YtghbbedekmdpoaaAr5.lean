/- Contracts: an arena in which the least place that can be taken is taken. -/
import Derived.Test.YtghbbedekmdpoaaAr4
namespace Go.Proofs.Ytghbbedekmdpoaa
open Go.RowKit Go.Sort
set_option linter.unusedVariables false

section
variable {ops : Array Oper} {o : Oper} {a : Act} {Q : Exit → Act → World → Prop} {K : Act → World → Prop}
theorem yields_load {S : World → Prop} {ty : TypeId} {x : Operand} {ad : Addr} {v : Value} (hl : ∀ w, S w → (loadVar ty ad).run Try.prog w = .ok v w) (hw : Region.wanted o (yielded ops a.tmps) = true) (ho : o.op = .load ty x) (hx : a.eval x = .pointer (some ad)) : YieldsIf Try.prog ops S o v a :=
  .inl ⟨hw, fun w hS => by
    unfold execOp
    simp only [ho, hx, Instr.loadAt, Instr.sureAddr, Sem.run_bind, Sem.run_pure, Result.andThen_ok, hl w hS]⟩
theorem yields_move {S : World → Prop} {x : Operand} {v : Value} (ho : o.op = .move x) (hv : a.eval x = v) (hw : Region.wanted o (yielded ops a.tmps) = true) : YieldsIf Try.prog ops S o v a :=
  .inl ⟨hw, fun w hS => by unfold execOp; simp only [ho, hv, Sem.run_pure]⟩
theorem wp_store_blk {w : World} {ty t : TypeId} {x y : Operand} {c c' : Array Value} {g n : Nat} (hi : (Try.prog.info? ty).map (·.size) = some n) (hb : w.heap[g]? = some (.cells c t (0, 0))) (ho : o.op = .store ty x y) (hx : a.eval x = .pointer (some ⟨g, 0, none⟩)) (hy : a.eval y = .agg c')
    (hn : c'.size = n) (hc : c.size = n) (h1 : c'.all (·.oneCell') = true) (h : K (a.put o.dst undef) (w.setRow g c')) : Oper.wp Try.prog o a w K Q := by
  subst hn
  unfold Oper.wp execOp
  simp only [ho, hx, hy, Instr.storeAt, Instr.sureAddr, Sem.run_bind, Sem.run_pure, Result.andThen_ok, run_storeVar_row w g t ty c c' hb hi hc h1]
  exact h
theorem wp_assign {w : World} {x : Operand} (ho : o.op = .assign x) (h : K (a.put o.dst (a.eval x)) w) : Oper.wp Try.prog o a w K Q := by
  unfold Oper.wp execOp
  simp only [ho, Sem.run_pure]
  exact h
end

attribute [local go_sem] Try.zeroAr
set_option maxHeartbeats 1000000 in
theorem next_yes (T : Nat → Int) (L : Nat → Bool) (p : Nat) (w : World) (hA : okA T L = true) (hR : Room T L p) (hp : p < 64) :
    Calls Try.prog 20 #[.agg (ar T L)] w (Ret (.tuple #[.agg (ar (setI T p (T p + 1)) (setB L p true)), .int .i64 (las (setI T p (T p + 1)) p)]) w) := by
  have X := Lib.hid ((Kx.new w 25 (ar T L)).alloc (.cells ar0 25))
  have Y := Lib.hid (Kx.two w 25 25 (ar T L) ar0)
  have HR := Lib.hid hR
  have h0 := okA_at hA hp
  have hm := (may1_iff _ _ _).1 (hR.2.2 hp)
  have H2 := Lib.hid (fun u => last_any (setI T p (T p + 1)) (setB L p true) p u hp (by rw [setI_same]; omega) (by rw [setI_same]; omega))
  have HT2 := Lib.hid (ar_setT T L (p := p) (T p + 1) hp)
  have HL2 := Lib.hid (ar_setL (setI T p (T p + 1)) L (p := p) true hp)
  have HM := Lib.hid hm
  have h0' := Lib.hid h0
  clear hR hA h0 hm
  go_enter Try.func20, Try.ntmps20
  go_wp2_with (refine wpList_load_at (loadVar_ts X.out.blk) rfl rfl rfl ?_)
  generalize (w.alloc (.cells (ar T L) 25)).alloc (.cells ar0 25) = w1 at *
  go_loop [8] (fun i => ∃ k : Nat, k ≤ 64 ∧ i = .int .i64 (k : Int) ∧ Hid (k ≤ p)) (fun i => 64 - (intOf i).toNat)
  case atStart => exact ⟨0, by omega, rfl, Nat.zero_le _⟩
  case round =>
    obtain ⟨k, hk, rfl, hK⟩ := hrel
    have hlt : k < 64 := by have := hK.out; omega
    have hlt' : (k : Int) < 64 := by omega
    have c1 := index_ts T hlt w1
    have c2 := X.out.cell (64 + k) (ar_l T L hlt)
    have c3 := X.out.cell k (ar_t T L hlt)
    have R := room_round HR.out hlt hK.out (T k) (L k) rfl rfl
    by_cases hkp : k = p
    · subst hkp
      have hl := HM.out.1
      have h2' : decide (T k < 1048576) = true := by simp; exact HM.out.2
      have hw : wrap64 (T k + 1) = T k + 1 := IntWalk.wrap64_in _ (by have := h0'.out; omega)
      rw [hl] at c2
      have f3 := X.out.free k
      have X4 : Hid (Kx w w.heap.size (w1.setCell ⟨w.heap.size, k, none⟩ (.int .i64 (T k + 1))) 25 (ar (setI T k (T k + 1)) L)) := by
        have := X.out.set k (.int .i64 (T k + 1))
        rw [HT2.out] at this
        exact this
      have Y4 := Lib.hid (Y.out.far (b := w.heap.size) (by omega) (Nat.le_refl _) k (.int .i64 (T k + 1)))
      have c4 := X4.out.cell (64 + k) (ar_l _ _ hlt)
      have f4 := X4.out.free (64 + k)
      have X5 : Hid (Kx w w.heap.size ((w1.setCell ⟨w.heap.size, k, none⟩ (.int .i64 (T k + 1))).setCell ⟨w.heap.size, 64 + k, none⟩ (.bool true)) 25 (ar (setI T k (T k + 1)) (setB L k true))) := by
        have := X4.out.set (64 + k) (.bool true)
        rw [HL2.out] at this
        exact this
      have Y5 := Lib.hid (Y4.out.far (b := w.heap.size) (by omega) (Nat.le_refl _) (64 + k) (.bool true))
      have HE : Hid (∀ v, Ret v w = Ret v w) := fun _ => rfl
      clear X Y X4 Y4 HR HM h0' HT2 HL2 hK R hk
      generalize las (setI T k (T k + 1)) k = s at *
      generalize setI T k (T k + 1) = T2 at *
      generalize setB L k true = L2 at *
      generalize T k = t at *
      go_wp2_with fail
      clear c1 c2 c3 c4 f3 f4 h2' hw hl
      generalize (w1.setCell ⟨w.heap.size, k, none⟩ (.int .i64 (t + 1))).setCell ⟨w.heap.size, 64 + k, none⟩ (.bool true) = w2 at *
      have SA : Hid ((fun w' : World => w'.heap[w.heap.size]? = some (.cells (ar T2 L2) 25 (0, 0))) w2.drew) := X5.out.blk
      have X6 := Lib.hid X5.out.drew
      have Y6 := Lib.hid Y5.out.drew
      clear X5 Y5
      refine wp_region_held_drew (S := fun w' : World => w'.heap[w.heap.size]? = some (.cells (ar T2 L2) 25 (0, 0))) (by kernel_rfl) SA.out (fun hS0 => ?_)
      clear hS0
      generalize w2.drew = w3 at *
      simp only [List.size_toArray, List.length_cons, List.length_nil, Nat.reduceAdd, Array.replicate_succ, Array.replicate_zero, List.push_toArray, List.nil_append, List.cons_append]
      refine wpAnyH_take (i := 0) (v := .agg (ar T2 L2)) rfl (by kernel_rfl) (by kernel_rfl) (by kernel_rfl) (fun _ _ _ h => h) (yields_load (fun w' hb => loadVar_ar hb) (by rfl) rfl rfl) SA.out ?_
      simp only [Act.put, List.getElem_toArray, List.getElem_cons_zero, List.setIfInBounds_toArray, List.set_cons_zero, List.set_cons_succ]
      refine wpAnyH_take (i := 1) (v := .agg (ar T2 L2)) rfl (by kernel_rfl) (by kernel_rfl) (by kernel_rfl) (fun _ _ _ h => h) (yields_load (fun w' hb => loadVar_ar hb) (by rfl) rfl rfl) SA.out ?_
      simp only [Act.put, List.getElem_toArray, List.getElem_cons_zero, List.getElem_cons_succ, List.setIfInBounds_toArray, List.set_cons_zero, List.set_cons_succ]
      refine wpAnyH_take (i := 2) (v := .int .i64 (k : Int)) rfl (by kernel_rfl) (by kernel_rfl) (by kernel_rfl) (fun _ _ _ h => h) (yields_move rfl rfl (by rfl)) SA.out ?_
      simp only [Act.put, List.getElem_toArray, List.getElem_cons_zero, List.getElem_cons_succ, List.setIfInBounds_toArray, List.set_cons_zero, List.set_cons_succ]
      refine wpAnyH_ready (rs := [3]) (by kernel_rfl) (by simp) (AllReadyH.cons rfl (fun K' hK => ?_) AllReadyH.nil)
      rw [if_pos (by rfl)]
      simp only [List.setIfInBounds_toArray, List.set_cons_zero, List.set_cons_succ] at hK
      have HK := Lib.hid hK
      clear hK
      go_simp
      refine (H2.out w3).mono ?_
      rintro e w4 ⟨rfl, b4⟩
      have X7 := Lib.hid (X6.out.keep b4)
      have Y7 := Lib.hid (Y6.out.keep b4)
      clear X6 Y6 b4 H2
      refine HK.out.out _ _ X7.out.blk (fun _ => ?_)
      clear HK
      refine wpAnyH_ready (rs := [4]) (by kernel_rfl) (by simp) (AllReadyH.cons rfl (fun K' hK => ?_) AllReadyH.nil)
      rw [if_pos (by rfl)]
      simp only [List.setIfInBounds_toArray, List.set_cons_zero, List.set_cons_succ] at hK
      have HK := Lib.hid hK
      clear hK
      refine wp_store_blk (c' := ar T2 L2) Try.sizeAr Y7.out.blk rfl rfl rfl (ar_size _ _) (ar_size _ _) (ar_one _ _) ?_
      have X8 := Lib.hid (X7.out.farRow (b := w.heap.size + 1) (by omega) (by omega) (ar T2 L2))
      have Y8 := Lib.hid (Y7.out.row (ar T2 L2))
      clear X7 Y7
      generalize w4.setRow (w.heap.size + 1) (ar T2 L2) = w5 at *
      refine HK.out.out _ _ X8.out.blk (fun _ => ?_)
      clear HK
      refine wpAnyH_ready (rs := [5]) (by kernel_rfl) (by simp) (AllReadyH.cons rfl (fun K' hK => ?_) AllReadyH.nil)
      rw [if_pos (by rfl)]
      simp only [List.setIfInBounds_toArray, List.set_cons_zero, List.set_cons_succ] at hK
      have HK := Lib.hid hK
      clear hK
      refine wp_assign rfl ?_
      refine HK.out.out _ _ X8.out.blk (fun _ => ?_)
      clear HK
      refine wpAnyH_done (by kernel_rfl) ?_ _
      simp only [Act.put, List.getElem_toArray, List.getElem_cons_zero, List.getElem_cons_succ, List.setIfInBounds_toArray, List.set_cons_zero, List.set_cons_succ]
      go_wp2
      exact bodyPost_ret (results_row1 rfl _ rfl Y8.out.blk) rfl (Ret.mk rfl Y8.out.below)
    · have HT : Hid (k + 1 ≤ p) := by have := hK.out; show _ ≤ _; omega
      have hno : ¬ (L k = false ∧ T k < 1048576) := fun h => hkp (R.1 h).symm
      generalize T k = t at *
      generalize L k = l at *
      clear R
      cases l
      · have h2' : decide (t < 1048576) = false := by simp at hno ⊢; omega
        clear hno
        go_wp2
        go_round
        case rel => exact ⟨k + 1, by omega, by go_num, HT⟩
        case measure => simp [intOf]; omega
      · clear hno
        go_wp2
        go_round
        case rel => exact ⟨k + 1, by omega, by go_num, HT⟩
        case measure => simp [intOf]; omega
set_option maxHeartbeats 1000000 in
theorem next_no (T : Nat → Int) (L : Nat → Bool) (w : World) (hR : Room T L 64) :
    Calls Try.prog 20 #[.agg (ar T L)] w (Ret (.tuple #[.agg (ar T L), .int .i64 0]) w) := by
  have X := Lib.hid ((Kx.new w 25 (ar T L)).alloc (.cells ar0 25))
  have Y := Lib.hid (Kx.two w 25 25 (ar T L) ar0)
  have HR := Lib.hid hR
  clear hR
  go_enter Try.func20, Try.ntmps20
  go_wp2_with (refine wpList_load_at (loadVar_ts X.out.blk) rfl rfl rfl ?_)
  generalize (w.alloc (.cells (ar T L) 25)).alloc (.cells ar0 25) = w1 at *
  go_loop [8] (fun i => ∃ k : Nat, k ≤ 64 ∧ i = .int .i64 (k : Int)) (fun i => 64 - (intOf i).toNat)
  case atStart => exact ⟨0, by omega, rfl⟩
  case round =>
    obtain ⟨k, hk, rfl⟩ := hrel
    by_cases hlt : k < 64
    · have hlt' : (k : Int) < 64 := by omega
      have c1 := index_ts T hlt w1
      have c2 := X.out.cell (64 + k) (ar_l T L hlt)
      have hno : ¬ (L k = false ∧ T k < 1048576) := fun h => by have := HR.out.2.1 k hlt; rw [(may1_iff T L k).2 h] at this; cases this
      generalize T k = t at *
      generalize L k = l at *
      cases l
      · have h2' : decide (t < 1048576) = false := by simp at hno ⊢; omega
        clear hno
        go_wp2
        go_round
        case rel => exact ⟨k + 1, by omega, by go_num⟩
        case measure => simp [intOf]; omega
      · clear hno
        go_wp2
        go_round
        case rel => exact ⟨k + 1, by omega, by go_num⟩
        case measure => simp [intOf]; omega
    · have e : k = 64 := by omega
      subst e
      have Y8 := Lib.hid (Y.out.row (ar T L))
      go_wp2_with (first | (refine wpList_load_at (loadVar_ar X.out.blk) rfl rfl rfl ?_) | (refine wpList_store_blk (c' := ar T L) Try.sizeAr Y.out.blk rfl rfl rfl rfl (ar_size _ _) (ar_size _ _) (ar_one _ _) ?_))
      exact bodyPost_ret (results_row1 rfl _ rfl Y8.out.blk) rfl (Ret.mk rfl Y8.out.below)
end Go.Proofs.Ytghbbedekmdpoaa
