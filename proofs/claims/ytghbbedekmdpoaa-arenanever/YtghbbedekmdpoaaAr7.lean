/- Contracts: Free and Is. -/
import Derived.Test.YtghbbedekmdpoaaAr6
namespace Go.Proofs.Ytghbbedekmdpoaa
open Go.RowKit Go.Sort
set_option linter.unusedVariables false
attribute [local go_sem] Try.zeroAr

theorem giv_isA {T : Nat → Int} {L : Nat → Bool} {id : Int} (hA : okA T L = true) (h : isA T L id = true) : giv T id = true := by
  have hp := plc_lt id
  have h0 := okA_at hA hp
  simp only [isA, Bool.and_eq_true, decide_eq_true_eq] at h
  have h1 := h0.2.2 h.2
  have h2 := h.1
  simp only [giv, Bool.and_eq_true, decide_eq_true_eq]
  refine ⟨?_, by omega⟩
  rw [h2]
  unfold las
  omega
theorem fre_yes {T : Nat → Int} {L : Nat → Bool} {id : Int} (h : isA T L id = true) : fre T L id = setB L (plc id) false := by
  simp only [isA, Bool.and_eq_true, decide_eq_true_eq] at h
  unfold fre
  rw [if_pos h.1]

set_option maxHeartbeats 1000000 in
theorem free_bad (T : Nat → Int) (L : Nat → Bool) (id : Int) (w : World) (hA : okA T L = false) :
    Calls Try.prog 13 #[.agg (ar T L), .int .i64 id] w (Ret (.tuple #[.agg (ar0), .int .i64 1]) w) := by
  have X := Lib.hid ((Kx.new w 25 (ar T L)).alloc (.cells ar0 25))
  have Y := Lib.hid (Kx.two w 25 25 (ar T L) ar0)
  have HA := Lib.hid hA
  clear hA
  go_enter Try.func13, Try.ntmps13
  go_wp2_with (refine wpList_load_at (loadVar_ar X.out.blk) rfl rfl rfl ?_)
  generalize (w.alloc (.cells (ar T L) 25)).alloc (.cells ar0 25) = w1 at *
  refine (may_any T L w1).mono ?_
  rw [HA.out]
  rintro e w2 ⟨rfl, b2⟩
  have X2 := Lib.hid (X.out.keep b2)
  have Y2 := Lib.hid (Y.out.keep b2)
  clear b2 X Y
  go_wp2_with (refine wpList_store_blk (c' := ar0) Try.sizeAr Y2.out.blk rfl rfl rfl rfl (ar_size _ _) (ar_size _ _) (ar_one _ _) ?_)
  exact bodyPost_ret (results_row1 rfl _ rfl (Y2.out.row ar0).blk) rfl (Ret.mk rfl (Y2.out.row ar0).below)

set_option maxHeartbeats 1000000 in
theorem free_none (T : Nat → Int) (L : Nat → Bool) (id : Int) (w : World) (hA : okA T L = true) (hG : giv T id = false) :
    Calls Try.prog 13 #[.agg (ar T L), .int .i64 id] w (Ret (.tuple #[.agg (ar0), .int .i64 6]) w) := by
  have X := Lib.hid ((Kx.new w 25 (ar T L)).alloc (.cells ar0 25))
  have Y := Lib.hid (Kx.two w 25 25 (ar T L) ar0)
  have HA := Lib.hid hA
  have HG := Lib.hid hG
  clear hG
  clear hA
  go_enter Try.func13, Try.ntmps13
  go_wp2_with (refine wpList_load_at (loadVar_ar X.out.blk) rfl rfl rfl ?_)
  generalize (w.alloc (.cells (ar T L) 25)).alloc (.cells ar0 25) = w1 at *
  refine (may_any T L w1).mono ?_
  rw [HA.out]
  rintro e w2 ⟨rfl, b2⟩
  have X2 := Lib.hid (X.out.keep b2)
  have Y2 := Lib.hid (Y.out.keep b2)
  clear b2 X Y
  go_wp2_with (refine wpList_load_at (loadVar_ar X2.out.blk) rfl rfl rfl ?_)
  refine (assigned_any T L id w2 HA.out).mono ?_
  rw [HG.out]
  rintro e w3 ⟨rfl, b3⟩
  have X3 := Lib.hid (X2.out.keep b3)
  have Y3 := Lib.hid (Y2.out.keep b3)
  clear b3 X2 Y2
  go_wp2_with (refine wpList_store_blk (c' := ar0) Try.sizeAr Y3.out.blk rfl rfl rfl rfl (ar_size _ _) (ar_size _ _) (ar_one _ _) ?_)
  exact bodyPost_ret (results_row1 rfl _ rfl (Y3.out.row ar0).blk) rfl (Ret.mk rfl (Y3.out.row ar0).below)

set_option maxHeartbeats 1000000 in
theorem free_stale (T : Nat → Int) (L : Nat → Bool) (id : Int) (w : World) (hA : okA T L = true) (hG : giv T id = true) (hI : isA T L id = false) :
    Calls Try.prog 13 #[.agg (ar T L), .int .i64 id] w (Ret (.tuple #[.agg (ar0), .int .i64 12]) w) := by
  have X := Lib.hid ((Kx.new w 25 (ar T L)).alloc (.cells ar0 25))
  have Y := Lib.hid (Kx.two w 25 25 (ar T L) ar0)
  have HA := Lib.hid hA
  have HG := Lib.hid hG
  have HE := Lib.hid (fun w' => run_eql T T (fre T L id) L w')
  rw [eqA_fre, hI] at HE
  clear hG hI
  clear hA
  go_enter Try.func13, Try.ntmps13
  go_wp2_with (refine wpList_load_at (loadVar_ar X.out.blk) rfl rfl rfl ?_)
  generalize (w.alloc (.cells (ar T L) 25)).alloc (.cells ar0 25) = w1 at *
  refine (may_any T L w1).mono ?_
  rw [HA.out]
  rintro e w2 ⟨rfl, b2⟩
  have X2 := Lib.hid (X.out.keep b2)
  have Y2 := Lib.hid (Y.out.keep b2)
  clear b2 X Y
  go_wp2_with (refine wpList_load_at (loadVar_ar X2.out.blk) rfl rfl rfl ?_)
  refine (assigned_any T L id w2 HA.out).mono ?_
  rw [HG.out]
  rintro e w3 ⟨rfl, b3⟩
  have X3 := Lib.hid (X2.out.keep b3)
  have Y3 := Lib.hid (Y2.out.keep b3)
  clear b3 X2 Y2
  go_wp2_with (refine wpList_load_at (loadVar_ar X3.out.blk) rfl rfl rfl ?_)
  refine (without_any T L id w3 HA.out).mono ?_
  rintro e w4 ⟨rfl, b4⟩
  have hge := (X3.out.keep b4).below.size
  have hx := (X3.out.keep b4).lt
  have hy := (Y3.out.keep b4).lt
  have X4 := Lib.hid (((X3.out.keep b4).alloc (.cells ar0 25)).farRow (b := w4.heap.size) (by omega) hge (ar T (fre T L id)))
  have Y4 := Lib.hid (((Y3.out.keep b4).alloc (.cells ar0 25)).farRow (b := w4.heap.size) (by omega) hge (ar T (fre T L id)))
  have Z4 := Lib.hid ((Kx.next (X3.out.keep b4).below 25 ar0).row (ar T (fre T L id)))
  clear b4 X3 Y3
  go_wp2_with (first | (refine wpList_store_blk (c' := ar T (fre T L id)) Try.sizeAr (alloc_blk _ _ _) rfl rfl rfl rfl (ar_size _ _) (ar_size _ _) (ar_one _ _) ?_) | (refine wpList_load_at (loadVar_ar X4.out.blk) rfl rfl rfl ?_) | (refine wpList_load_at (loadVar_ar Z4.out.blk) rfl rfl rfl ?_) | (refine wpList_cmp HE.out rfl rfl rfl rfl ?_) | (refine wpList_store_blk (c' := ar0) Try.sizeAr Y4.out.blk rfl rfl rfl rfl (ar_size _ _) (ar_size _ _) (ar_one _ _) ?_))
  exact bodyPost_ret (results_row1 rfl _ rfl (Y4.out.row (ar0)).blk) rfl (Ret.mk rfl (Y4.out.row (ar0)).below)

set_option maxHeartbeats 1000000 in
theorem free_yes (T : Nat → Int) (L : Nat → Bool) (id : Int) (w : World) (hA : okA T L = true) (hI : isA T L id = true) :
    Calls Try.prog 13 #[.agg (ar T L), .int .i64 id] w (Ret (.tuple #[.agg (ar T (fre T L id)), .int .i64 0]) w) := by
  have X := Lib.hid ((Kx.new w 25 (ar T L)).alloc (.cells ar0 25))
  have Y := Lib.hid (Kx.two w 25 25 (ar T L) ar0)
  have HA := Lib.hid hA
  have HG := Lib.hid (giv_isA hA hI)
  have HE := Lib.hid (fun w' => run_eql T T (fre T L id) L w')
  rw [eqA_fre, hI] at HE
  clear hI
  clear hA
  go_enter Try.func13, Try.ntmps13
  go_wp2_with (refine wpList_load_at (loadVar_ar X.out.blk) rfl rfl rfl ?_)
  generalize (w.alloc (.cells (ar T L) 25)).alloc (.cells ar0 25) = w1 at *
  refine (may_any T L w1).mono ?_
  rw [HA.out]
  rintro e w2 ⟨rfl, b2⟩
  have X2 := Lib.hid (X.out.keep b2)
  have Y2 := Lib.hid (Y.out.keep b2)
  clear b2 X Y
  go_wp2_with (refine wpList_load_at (loadVar_ar X2.out.blk) rfl rfl rfl ?_)
  refine (assigned_any T L id w2 HA.out).mono ?_
  rw [HG.out]
  rintro e w3 ⟨rfl, b3⟩
  have X3 := Lib.hid (X2.out.keep b3)
  have Y3 := Lib.hid (Y2.out.keep b3)
  clear b3 X2 Y2
  go_wp2_with (refine wpList_load_at (loadVar_ar X3.out.blk) rfl rfl rfl ?_)
  refine (without_any T L id w3 HA.out).mono ?_
  rintro e w4 ⟨rfl, b4⟩
  have hge := (X3.out.keep b4).below.size
  have hx := (X3.out.keep b4).lt
  have hy := (Y3.out.keep b4).lt
  have X4 := Lib.hid (((X3.out.keep b4).alloc (.cells ar0 25)).farRow (b := w4.heap.size) (by omega) hge (ar T (fre T L id)))
  have Y4 := Lib.hid (((Y3.out.keep b4).alloc (.cells ar0 25)).farRow (b := w4.heap.size) (by omega) hge (ar T (fre T L id)))
  have Z4 := Lib.hid ((Kx.next (X3.out.keep b4).below 25 ar0).row (ar T (fre T L id)))
  clear b4 X3 Y3
  go_wp2_with (first | (refine wpList_store_blk (c' := ar T (fre T L id)) Try.sizeAr (alloc_blk _ _ _) rfl rfl rfl rfl (ar_size _ _) (ar_size _ _) (ar_one _ _) ?_) | (refine wpList_load_at (loadVar_ar X4.out.blk) rfl rfl rfl ?_) | (refine wpList_load_at (loadVar_ar Z4.out.blk) rfl rfl rfl ?_) | (refine wpList_cmp HE.out rfl rfl rfl rfl ?_) | (refine wpList_store_blk (c' := ar T (fre T L id)) Try.sizeAr Y4.out.blk rfl rfl rfl rfl (ar_size _ _) (ar_size _ _) (ar_one _ _) ?_))
  exact bodyPost_ret (results_row1 rfl _ rfl (Y4.out.row (ar T (fre T L id))).blk) rfl (Ret.mk rfl (Y4.out.row (ar T (fre T L id))).below)

set_option maxHeartbeats 1000000 in
theorem is_any (T : Nat → Int) (L : Nat → Bool) (id : Int) (w : World) : Calls Try.prog 19 #[.agg (ar T L), .int .i64 id] w (Ret (.bool (okA T L && isA T L id)) w) := by
  have X := Lib.hid (Kx.new w 25 (ar T L))
  have HL := Lib.hid (loadVar_re X.out.blk)
  generalize hw : w.alloc (.cells (ar T L) 25) = w1 at *
  have K1 := Lib.hid (calls_re (V := w1) (may_any T L))
  by_cases hA : okA T L = true
  · rw [hA] at K1
    have K2 := Lib.hid (calls_re (V := w1) (fun u => without_any T L id u hA))
    have HE := Lib.hid (fun w' => run_neq T T (fre T L id) L w')
    rw [eqA_fre, Bool.not_not] at HE
    rw [hA, Bool.true_and]
    clear hA
    go_enter Try.func19, Try.ntmps19
    go_wp2
    refine wp_region_quiet_below (by kernel_rfl) (by kernel_rfl) ?_
    repeat (first | (go_big_quiet_want; refine quiet_load HL.out rfl rfl ?_; simp only [Act.put, List.setIfInBounds_toArray, List.set_cons_zero, List.set_cons_succ]; go_big_quiet_on) | (go_big_quiet_want; refine quiet_cmp HE.out rfl rfl rfl ?_; simp only [Act.put, List.setIfInBounds_toArray, List.set_cons_zero, List.set_cons_succ]; go_big_quiet_on) | (go_big_quiet_step (with_reducible first | exact K1.out _ _ | exact K2.out _ _)))
    refine wpQuiet_nil ?_
    intro _ hw'
    obtain ⟨⟨dq, osq⟩, hw''⟩ := hw'
    subst hw''
    have B := Lib.hid (X.out.below.trans ((below_regrown w1 dq osq).mono X.out.below.size))
    clear HL K1 K2 hw X HE
    generalize grow (redrawn w1 dq) osq = w3 at *
    go_wp2
    go_ret
    exact Ret.mk rfl B.out
  · have hA' : okA T L = false := by simpa using hA
    rw [hA'] at K1
    rw [hA', Bool.false_and]
    clear hA hA'
    go_enter Try.func19, Try.ntmps19
    go_wp2
    refine wp_region_quiet_below (by kernel_rfl) (by kernel_rfl) ?_
    repeat (first | (go_big_quiet_want; refine quiet_load HL.out rfl rfl ?_; simp only [Act.put, List.setIfInBounds_toArray, List.set_cons_zero, List.set_cons_succ]; go_big_quiet_on) | (go_big_quiet_step (with_reducible exact K1.out _ _)))
    refine wpQuiet_nil ?_
    intro _ hw'
    obtain ⟨⟨dq, osq⟩, hw''⟩ := hw'
    subst hw''
    have B := Lib.hid (X.out.below.trans ((below_regrown w1 dq osq).mono X.out.below.size))
    clear HL K1 hw X
    generalize grow (redrawn w1 dq) osq = w3 at *
    go_wp2
    go_ret
    exact Ret.mk rfl B.out
end Go.Proofs.Ytghbbedekmdpoaa
