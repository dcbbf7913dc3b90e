/- The law ArenaTakes. -/
import Derived.Test.YtghbbedekmdpoaaAr9
namespace Go.Proofs.Ytghbbedekmdpoaa
open Go.RowKit Go.Sort
set_option linter.unusedVariables false
attribute [local go_sem] Try.zeroAr

theorem eql_self11 (T : Nat → Int) (L : Nat → Bool) (w : World) : (binOp .eql 25 (.agg (ar T L)) (.agg (ar T L))).run Try.prog w = .ok (.bool true) w := by
  rw [run_eql, eqA_self]
theorem eql_zero11 (w : World) : (binOp .eql 25 (.agg ar0) (.agg ar0)).run Try.prog w = .ok (.bool true) w := eql_self11 _ _ w

set_option maxRecDepth 100000 in
set_option maxHeartbeats 4000000 in
theorem takes_bad (T : Nat → Int) (L : Nat → Bool) (w : World) (hA : okA T L = false) :
    Calls Try.prog 3 #[.agg (ar T L)] w (Ret (.bool true) w) := by
  have HA := Lib.hid hA
  clear hA
  have X := Lib.hid (Kx.new w 25 (ar T L))
  go_enter Try.func3, Try.ntmps3
  go_wp2_with (refine wpList_load_at (loadVar_ar X.out.blk) rfl rfl rfl ?_)
  generalize w.alloc (.cells (ar T L) 25) = w1 at *
  refine (take_bad T L w1 HA.out).mono ?_
  rintro e w2 ⟨rfl, b2⟩
  have X2 := Lib.hid ((X.out.keep b2).besides (ar0))
  have Z2 := Lib.hid (Kx.made (X.out.keep b2).below (ar0))
  have hne : Hid (w2.heap.size ≠ w.heap.size) := by have := (X.out.keep b2).lt; show _ ≠ _; omega
  clear b2 X
  go_wp2_with (refine wpList_store_blk (c' := ar0) Try.sizeAr (alloc_blk _ _ _) rfl rfl rfl rfl (ar_size _ _) (ar_size _ _) (ar_one _ _) ?_)
  generalize w2.heap.size = g at *
  generalize (w2.alloc (.cells ar0 25)).setRow g (ar0) = w3 at *
  have HL := Lib.hid (loadVar_re X2.out.blk)
  have K1 := Lib.hid (calls_re (V := w3) (may_any T L))
  have K2 := Lib.hid (calls_re (V := w3) (refMay_any T L))
  rw [HA.out] at K1 K2
  refine wp_region_quiet_below (by kernel_rfl) (by kernel_rfl) ?_
  repeat (first | (go_big_quiet_want; refine quiet_load HL.out rfl rfl ?_; simp only [Act.put, List.setIfInBounds_toArray, List.set_cons_zero, List.set_cons_succ]; go_big_quiet_on) | (go_big_quiet_step (with_reducible first | exact K1.out _ _ | exact K2.out _ _)))
  refine wpQuiet_nil ?_
  intro _ hw'
  obtain ⟨⟨dq, osq⟩, hw''⟩ := hw'
  subst hw''
  have X3 := Lib.hid (X2.out.keep (below_regrown w3 dq osq))
  have Z3 := Lib.hid (Z2.out.keep (below_regrown w3 dq osq))
  clear X2 Z2 HL K1 K2
  generalize grow (redrawn w3 dq) osq = w4 at *
  go_wp2_with (refine wpList_load_at (loadVar_ar X3.out.blk) rfl rfl rfl ?_)
  refine (refMay_any T L w4).mono ?_
  rw [HA.out]
  rintro e w5 ⟨rfl, b5⟩
  have X5 := Lib.hid (X3.out.keep b5)
  have Z5 := Lib.hid (Z3.out.keep b5)
  clear b5 X3 Z3
  go_wp2_with (first | (refine wpList_load_at (loadVar_ar Z5.out.blk) rfl rfl rfl ?_) | (refine wpList_cmp eql_zero11 rfl rfl rfl rfl ?_))
  refine (awake_any w5).mono ?_
  rintro e w9 ⟨rfl, b9⟩
  have B := Lib.hid (Z5.out.keep b9).below
  clear b9
  go_wp2
  go_ret
  exact Ret.mk rfl B.out
set_option maxRecDepth 100000 in
set_option maxHeartbeats 4000000 in
theorem takes_full (T : Nat → Int) (L : Nat → Bool) (w : World) (hA : okA T L = true) (hR : Room T L 64) :
    Calls Try.prog 3 #[.agg (ar T L)] w (Ret (.bool true) w) := by
  have HA := Lib.hid hA
  have HR := Lib.hid hR
  clear hA hR
  have X := Lib.hid (Kx.new w 25 (ar T L))
  go_enter Try.func3, Try.ntmps3
  go_wp2_with (refine wpList_load_at (loadVar_ar X.out.blk) rfl rfl rfl ?_)
  generalize w.alloc (.cells (ar T L) 25) = w1 at *
  refine (take_full T L w1 HA.out HR.out).mono ?_
  rintro e w2 ⟨rfl, b2⟩
  have X2 := Lib.hid ((X.out.keep b2).besides (ar0))
  have Z2 := Lib.hid (Kx.made (X.out.keep b2).below (ar0))
  have hne : Hid (w2.heap.size ≠ w.heap.size) := by have := (X.out.keep b2).lt; show _ ≠ _; omega
  clear b2 X
  go_wp2_with (refine wpList_store_blk (c' := ar0) Try.sizeAr (alloc_blk _ _ _) rfl rfl rfl rfl (ar_size _ _) (ar_size _ _) (ar_one _ _) ?_)
  generalize w2.heap.size = g at *
  generalize (w2.alloc (.cells ar0 25)).setRow g (ar0) = w3 at *
  have HL := Lib.hid (loadVar_re X2.out.blk)
  have K1 := Lib.hid (calls_re (V := w3) (may_any T L))
  have K2 := Lib.hid (calls_re (V := w3) (refMay_any T L))
  rw [HA.out] at K1 K2
  refine wp_region_quiet_below (by kernel_rfl) (by kernel_rfl) ?_
  repeat (first | (go_big_quiet_want; refine quiet_load HL.out rfl rfl ?_; simp only [Act.put, List.setIfInBounds_toArray, List.set_cons_zero, List.set_cons_succ]; go_big_quiet_on) | (go_big_quiet_step (with_reducible first | exact K1.out _ _ | exact K2.out _ _)))
  refine wpQuiet_nil ?_
  intro _ hw'
  obtain ⟨⟨dq, osq⟩, hw''⟩ := hw'
  subst hw''
  have X3 := Lib.hid (X2.out.keep (below_regrown w3 dq osq))
  have Z3 := Lib.hid (Z2.out.keep (below_regrown w3 dq osq))
  clear X2 Z2 HL K1 K2
  generalize grow (redrawn w3 dq) osq = w4 at *
  go_wp2_with (refine wpList_load_at (loadVar_ar X3.out.blk) rfl rfl rfl ?_)
  refine (refMay_any T L w4).mono ?_
  rw [HA.out]
  rintro e w5 ⟨rfl, b5⟩
  have X5 := Lib.hid (X3.out.keep b5)
  have Z5 := Lib.hid (Z3.out.keep b5)
  clear b5 X3 Z3
  go_wp2_with (refine wpList_load_at (loadVar_ar X5.out.blk) rfl rfl rfl ?_)
  refine (refRoom_any T L 64 w5 HR.out).mono ?_
  rw [show rmv 64 = -1 from rfl]
  rintro e w6 ⟨rfl, b6⟩
  have Z6 := Lib.hid (Z5.out.keep b6)
  clear b6 X5 Z5
  go_wp2_with (first | (refine wpList_load_at (loadVar_ar Z6.out.blk) rfl rfl rfl ?_) | (refine wpList_cmp eql_zero11 rfl rfl rfl rfl ?_))
  refine (awake_any w6).mono ?_
  rintro e w9 ⟨rfl, b9⟩
  have B := Lib.hid (Z6.out.keep b9).below
  clear b9
  go_wp2
  go_ret
  exact Ret.mk rfl B.out
set_option maxRecDepth 100000 in
set_option maxHeartbeats 4000000 in
theorem takes_yes (T : Nat → Int) (L : Nat → Bool) (p : Nat) (w : World) (hA : okA T L = true) (hR : Room T L p) (hp : p < 64) :
    Calls Try.prog 3 #[.agg (ar T L)] w (Ret (.bool true) w) := by
  have HA := Lib.hid hA
  have HR := Lib.hid hR
  clear hA hR
  have X := Lib.hid (Kx.new w 25 (ar T L))
  go_enter Try.func3, Try.ntmps3
  go_wp2_with (refine wpList_load_at (loadVar_ar X.out.blk) rfl rfl rfl ?_)
  generalize w.alloc (.cells (ar T L) 25) = w1 at *
  refine (take_yes T L p w1 HA.out HR.out hp).mono ?_
  rintro e w2 ⟨rfl, b2⟩
  have X2 := Lib.hid ((X.out.keep b2).besides (ar (setI T p (T p + 1)) (setB L p true)))
  have Z2 := Lib.hid (Kx.made (X.out.keep b2).below (ar (setI T p (T p + 1)) (setB L p true)))
  have hne : Hid (w2.heap.size ≠ w.heap.size) := by have := (X.out.keep b2).lt; show _ ≠ _; omega
  clear b2 X
  go_wp2_with (refine wpList_store_blk (c' := ar (setI T p (T p + 1)) (setB L p true)) Try.sizeAr (alloc_blk _ _ _) rfl rfl rfl rfl (ar_size _ _) (ar_size _ _) (ar_one _ _) ?_)
  generalize w2.heap.size = g at *
  generalize (w2.alloc (.cells ar0 25)).setRow g (ar (setI T p (T p + 1)) (setB L p true)) = w3 at *
  have HL := Lib.hid (loadVar_re X2.out.blk)
  have K1 := Lib.hid (calls_re (V := w3) (may_any T L))
  have K2 := Lib.hid (calls_re (V := w3) (refMay_any T L))
  rw [HA.out] at K1 K2
  refine wp_region_quiet_below (by kernel_rfl) (by kernel_rfl) ?_
  repeat (first | (go_big_quiet_want; refine quiet_load HL.out rfl rfl ?_; simp only [Act.put, List.setIfInBounds_toArray, List.set_cons_zero, List.set_cons_succ]; go_big_quiet_on) | (go_big_quiet_step (with_reducible first | exact K1.out _ _ | exact K2.out _ _)))
  refine wpQuiet_nil ?_
  intro _ hw'
  obtain ⟨⟨dq, osq⟩, hw''⟩ := hw'
  subst hw''
  have X3 := Lib.hid (X2.out.keep (below_regrown w3 dq osq))
  have Z3 := Lib.hid (Z2.out.keep (below_regrown w3 dq osq))
  clear X2 Z2 HL K1 K2
  generalize grow (redrawn w3 dq) osq = w4 at *
  go_wp2_with (refine wpList_load_at (loadVar_ar X3.out.blk) rfl rfl rfl ?_)
  refine (refMay_any T L w4).mono ?_
  rw [HA.out]
  rintro e w5 ⟨rfl, b5⟩
  have X5 := Lib.hid (X3.out.keep b5)
  have Z5 := Lib.hid (Z3.out.keep b5)
  clear b5 X3 Z3
  go_wp2_with (refine wpList_load_at (loadVar_ar X5.out.blk) rfl rfl rfl ?_)
  refine (refRoom_any T L p w5 HR.out).mono ?_
  rw [show rmv p = (p : Int) by unfold rmv; rw [if_pos hp]]
  rintro e w6 ⟨rfl, b6⟩
  have X6 := Lib.hid (X5.out.keep b6)
  have Z6 := Lib.hid (Z5.out.keep b6)
  clear b6 X5 Z5
  have h0 := okA_at HA.out hp
  have hm := (may1_iff _ _ _).1 (HR.out.2.2 hp)
  have HC := Lib.hid (fun u => refLast_any (setI T p (T p + 1)) (setB L p true) p u hp (by rw [setI_same]; omega) (by rw [setI_same]; omega))
  have hw : wrap64 (T p + 1) = T p + 1 := IntWalk.wrap64_in _ (by omega)
  have hlt : (p : Int) < 64 := by omega
  have c1 := X6.out.cell (64 + p) (ar_l T L hp)
  have f1 := X6.out.free (64 + p)
  have X7 : Hid (Kx w w.heap.size (w6.setCell ⟨w.heap.size, 64 + p, none⟩ (.bool true)) 25 (ar T (setB L p true))) := by
    have := X6.out.set (64 + p) (.bool true)
    rw [ar_setL T L true hp] at this
    exact this
  have Z7 := Lib.hid (Z6.out.far (b := w.heap.size) hne.out (Nat.le_refl _) (64 + p) (.bool true))
  have c2 := X7.out.cell p (ar_t T (setB L p true) hp)
  have f2 := X7.out.free p
  have X8 : Hid (Kx w w.heap.size ((w6.setCell ⟨w.heap.size, 64 + p, none⟩ (.bool true)).setCell ⟨w.heap.size, p, none⟩ (.int .i64 (T p + 1))) 25 (ar (setI T p (T p + 1)) (setB L p true))) := by
    have := X7.out.set p (.int .i64 (T p + 1))
    rw [ar_setT T (setB L p true) (T p + 1) hp] at this
    exact this
  have Z8 := Lib.hid (Z7.out.far (b := w.heap.size) hne.out (Nat.le_refl _) p (.int .i64 (T p + 1)))
  clear X6 Z6 X7 Z7 h0 hm HA HR hne
  generalize las (setI T p (T p + 1)) p = s at *
  generalize (setI T p (T p + 1)) = T2 at *
  generalize (setB L p true) = L2 at *
  generalize T p = t at *
  go_wp2_with (first | (refine wpList_load_at (loadVar_ar X8.out.blk) rfl rfl rfl ?_) | (refine wpList_load_at (loadVar_ar Z8.out.blk) rfl rfl rfl ?_) | (refine wpList_cmp (eql_self11 T2 L2) rfl rfl rfl rfl ?_) | (refine wpList_load_g (loadVar_ar X8.out.blk) rfl rfl (by rfl) ?_))
  generalize (w6.setCell ⟨w.heap.size, 64 + p, none⟩ (.bool true)).setCell ⟨w.heap.size, p, none⟩ (.int .i64 (t + 1)) = w7 at *
  clear c1 f1 c2 f2
  refine (HC.out w7).mono ?_
  rintro e w8 ⟨rfl, b8⟩
  have X9 := Lib.hid (X8.out.keep b8)
  clear b8 X8 Z8
  go_wp2_with fail
  refine (awake_any w8).mono ?_
  rintro e w9 ⟨rfl, b9⟩
  have B := Lib.hid (X9.out.keep b9).below
  clear b9
  go_wp2
  go_ret
  exact Ret.mk rfl B.out
theorem walk_ArenaTakes (T : Nat → Int) (L : Nat → Bool) (w : World) :
    Calls Try.prog 3 #[.agg (ar T L)] w (Ret (.bool true) w) := by
  cases h : okA T L
  · exact takes_bad T L w h
  · obtain ⟨p, hR⟩ := room_total T L
    by_cases hp : p < 64
    · exact takes_yes T L p w h hR hp
    · have e : p = 64 := by have := hR.1; omega
      subst e
      exact takes_full T L w h hR
end Go.Proofs.Ytghbbedekmdpoaa
