/- Contracts: Take. -/
import Derived.Test.YtghbbedekmdpoaaAr5
namespace Go.Proofs.Ytghbbedekmdpoaa
open Go.RowKit Go.Sort
set_option linter.unusedVariables false
attribute [local go_sem] Try.zeroAr

set_option maxHeartbeats 1000000 in
theorem take_bad (T : Nat → Int) (L : Nat → Bool) (w : World) (hA : okA T L = false) :
    Calls Try.prog 7 #[.agg (ar T L)] w (Ret (.tuple #[.agg ar0, .int .i64 0, .int .i64 1]) w) := by
  have X := Lib.hid ((Kx.new w 25 (ar T L)).alloc (.cells ar0 25))
  have Y := Lib.hid (Kx.two w 25 25 (ar T L) ar0)
  have HA := Lib.hid hA
  clear hA
  go_enter Try.func7, Try.ntmps7
  go_wp2_with (refine wpList_load_at (loadVar_ar X.out.blk) rfl rfl rfl ?_)
  generalize (w.alloc (.cells (ar T L) 25)).alloc (.cells ar0 25) = w1 at *
  refine (may_any T L w1).mono ?_
  rw [HA.out]
  rintro e w2 ⟨rfl, b2⟩
  have X2 := Lib.hid (X.out.keep b2)
  have Y2 := Lib.hid (Y.out.keep b2)
  clear b2 X Y
  go_wp2_with (refine wpList_store_blk (c' := ar0) Try.sizeAr Y2.out.blk rfl rfl rfl rfl (ar_size _ _) (ar_size _ _) (ar_one _ _) ?_)
  exact bodyPost_ret (results_row2 rfl _ rfl (Y2.out.row ar0).blk) rfl (Ret.mk rfl (Y2.out.row ar0).below)

set_option maxHeartbeats 1000000 in
theorem take_full (T : Nat → Int) (L : Nat → Bool) (w : World) (hA : okA T L = true) (hR : Room T L 64) :
    Calls Try.prog 7 #[.agg (ar T L)] w (Ret (.tuple #[.agg ar0, .int .i64 0, .int .i64 5]) w) := by
  have X := Lib.hid ((Kx.new w 25 (ar T L)).alloc (.cells ar0 25))
  have Y := Lib.hid (Kx.two w 25 25 (ar T L) ar0)
  have HA := Lib.hid hA
  have HR := Lib.hid hR
  have HE := Lib.hid (fun w' => run_eql T T L L w')
  rw [eqA_self] at HE
  clear hA hR
  go_enter Try.func7, Try.ntmps7
  go_wp2_with (refine wpList_load_at (loadVar_ar X.out.blk) rfl rfl rfl ?_)
  generalize (w.alloc (.cells (ar T L) 25)).alloc (.cells ar0 25) = w1 at *
  refine (may_any T L w1).mono ?_
  rw [HA.out]
  rintro e w2 ⟨rfl, b2⟩
  have X2 := Lib.hid (X.out.keep b2)
  have Y2 := Lib.hid (Y.out.keep b2)
  clear b2 X Y
  go_wp2_with (refine wpList_load_at (loadVar_ar X2.out.blk) rfl rfl rfl ?_)
  refine (next_no T L w2 HR.out).mono ?_
  rintro e w3 ⟨rfl, b3⟩
  have hge := (X2.out.keep b3).below.size
  have hx := (X2.out.keep b3).lt
  have hy := (Y2.out.keep b3).lt
  have X3 := Lib.hid (((X2.out.keep b3).alloc (.cells ar0 25)).farRow (b := w3.heap.size) (by omega) hge (ar T L))
  have Y3 := Lib.hid (((Y2.out.keep b3).alloc (.cells ar0 25)).farRow (b := w3.heap.size) (by omega) hge (ar T L))
  have Z3 := Lib.hid ((Kx.next (X2.out.keep b3).below 25 ar0).row (ar T L))
  clear b3 X2 Y2
  go_wp2_with (first | (refine wpList_store_blk (c' := ar T L) Try.sizeAr (alloc_blk _ _ _) rfl rfl rfl rfl (ar_size _ _) (ar_size _ _) (ar_one _ _) ?_) | (refine wpList_load_at (loadVar_ar X3.out.blk) rfl rfl rfl ?_) | (refine wpList_load_at (loadVar_ar Z3.out.blk) rfl rfl rfl ?_) | (refine wpList_cmp HE.out rfl rfl rfl rfl ?_) | (refine wpList_store_blk (c' := ar0) Try.sizeAr Y3.out.blk rfl rfl rfl rfl (ar_size _ _) (ar_size _ _) (ar_one _ _) ?_))
  exact bodyPost_ret (results_row2 rfl _ rfl (Y3.out.row (ar0)).blk) rfl (Ret.mk rfl (Y3.out.row (ar0)).below)

set_option maxHeartbeats 1000000 in
theorem take_yes (T : Nat → Int) (L : Nat → Bool) (p : Nat) (w : World) (hA : okA T L = true) (hR : Room T L p) (hp : p < 64) :
    Calls Try.prog 7 #[.agg (ar T L)] w (Ret (.tuple #[.agg (ar (setI T p (T p + 1)) (setB L p true)), .int .i64 (las (setI T p (T p + 1)) p), .int .i64 0]) w) := by
  have X := Lib.hid ((Kx.new w 25 (ar T L)).alloc (.cells ar0 25))
  have Y := Lib.hid (Kx.two w 25 25 (ar T L) ar0)
  have HA := Lib.hid hA
  have HR := Lib.hid hR
  have HE := Lib.hid (fun w' => run_eql (setI T p (T p + 1)) T (setB L p true) L w')
  rw [eqA_no hp (by rw [setB_same, ((may1_iff _ _ _).1 (hR.2.2 hp)).1]; simp)] at HE
  clear hA hR
  go_enter Try.func7, Try.ntmps7
  go_wp2_with (refine wpList_load_at (loadVar_ar X.out.blk) rfl rfl rfl ?_)
  generalize (w.alloc (.cells (ar T L) 25)).alloc (.cells ar0 25) = w1 at *
  refine (may_any T L w1).mono ?_
  rw [HA.out]
  rintro e w2 ⟨rfl, b2⟩
  have X2 := Lib.hid (X.out.keep b2)
  have Y2 := Lib.hid (Y.out.keep b2)
  clear b2 X Y
  go_wp2_with (refine wpList_load_at (loadVar_ar X2.out.blk) rfl rfl rfl ?_)
  refine (next_yes T L p w2 HA.out HR.out hp).mono ?_
  rintro e w3 ⟨rfl, b3⟩
  have hge := (X2.out.keep b3).below.size
  have hx := (X2.out.keep b3).lt
  have hy := (Y2.out.keep b3).lt
  have X3 := Lib.hid (((X2.out.keep b3).alloc (.cells ar0 25)).farRow (b := w3.heap.size) (by omega) hge (ar (setI T p (T p + 1)) (setB L p true)))
  have Y3 := Lib.hid (((Y2.out.keep b3).alloc (.cells ar0 25)).farRow (b := w3.heap.size) (by omega) hge (ar (setI T p (T p + 1)) (setB L p true)))
  have Z3 := Lib.hid ((Kx.next (X2.out.keep b3).below 25 ar0).row (ar (setI T p (T p + 1)) (setB L p true)))
  clear b3 X2 Y2
  go_wp2_with (first | (refine wpList_store_blk (c' := ar (setI T p (T p + 1)) (setB L p true)) Try.sizeAr (alloc_blk _ _ _) rfl rfl rfl rfl (ar_size _ _) (ar_size _ _) (ar_one _ _) ?_) | (refine wpList_load_at (loadVar_ar X3.out.blk) rfl rfl rfl ?_) | (refine wpList_load_at (loadVar_ar Z3.out.blk) rfl rfl rfl ?_) | (refine wpList_cmp HE.out rfl rfl rfl rfl ?_) | (refine wpList_store_blk (c' := ar (setI T p (T p + 1)) (setB L p true)) Try.sizeAr Y3.out.blk rfl rfl rfl rfl (ar_size _ _) (ar_size _ _) (ar_one _ _) ?_))
  exact bodyPost_ret (results_row2 rfl _ rfl (Y3.out.row (ar (setI T p (T p + 1)) (setB L p true))).blk) rfl (Ret.mk rfl (Y3.out.row (ar (setI T p (T p + 1)) (setB L p true))).below)
end Go.Proofs.Ytghbbedekmdpoaa
