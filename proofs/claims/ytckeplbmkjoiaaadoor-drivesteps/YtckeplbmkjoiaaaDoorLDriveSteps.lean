/- Stage 14: steps; the law. -/
import Derived.Test.YtckeplbmkjoiaaaDoorDvLaw
import Derived.Test.YtckeplbmkjoiaaaDoorDv6
namespace Go.Proofs.YtckeplbmkjoiaaaDoor
open Go.RowKit
set_option linter.unusedVariables false

set_option maxRecDepth 100000 in
set_option maxHeartbeats 4000000 in
theorem steps_bad (m : Mv) (E : Eg) (x y n : Int) (w : World) (hT : Tab w) (hk : ¬ okM E x y m) :
    Calls Tryd.prog 4 #[.agg (goA m E x y n)] w (Ret (.bool true) w) := by
  have HT := Lib.hid hT
  have HK := Lib.hid hk
  clear hT hk
  have G0 := Lib.hid (Kx.new w 30 (goA m E x y n))
  obtain ⟨gx, gy, gn, -, -, -, -⟩ := G0.out.goC
  go_enter Tryd.func4, Tryd.ntmps4
  go_wp2_with (first | (refine wpList_load_at (G0.out.goMv) rfl rfl rfl ?_) | (refine wpList_load_at (G0.out.goEg) rfl rfl rfl ?_))
  clear gx gy gn
  generalize w.alloc (.cells (goA m E x y n) 30) = w1 at *
  refine (Step14_bad E m x y w1 (HT.out.keep G0.out.below) HK.out).mono ?_
  rintro e w2 ⟨rfl, b2⟩
  have G2 := Lib.hid (G0.out.keep b2)
  have G3 := Lib.hid (G2.out.mBeside mv0)
  have A3 := Lib.hid (Kx.mMade G2.out.below mv0)
  clear b2 G0
  obtain ⟨gx, gy, gn, -, -, -, -⟩ := G3.out.goC
  go_wp2_with (first | (refine wpList_load_at (G3.out.goMv) rfl rfl rfl ?_) | (refine wpList_load_at (G3.out.goEg) rfl rfl rfl ?_) | (refine wpList_store_blk (c' := mvA mv0) Tryd.sizeMv (alloc_blk _ _ _) rfl rfl rfl rfl rfl rfl (mvA_one _) ?_))
  generalize (w2.alloc (.cells #[.int .i64 0, .int .i64 0, .int .i64 0] 26)).setRow w2.heap.size (mvA mv0) = w3 at *
  clear gx gy gn
  refine (rmay14_any E m x y w3).mono ?_
  rw [decide_eq_false HK.out]
  rintro e w4 ⟨rfl, b4⟩
  have A4 := Lib.hid (A3.out.keep b4)
  clear b4 A3 G3 G2
  go_wp2_with (first | (refine wpList_load_at (loadVar_mv A4.out.blk) rfl rfl rfl ?_) | (refine wpList_cmp (fun u => (run_eql mv0 mv0 u).trans (by rw [eqM_self])) rfl rfl rfl rfl ?_; simp only [Act.put, List.setIfInBounds_toArray, List.set_cons_zero, List.set_cons_succ]))
  refine (awake14_any w4 (HT.out.keep A4.out.below)).mono ?_
  rintro e w5 ⟨rfl, b5⟩
  have A5 := Lib.hid (A4.out.keep b5)
  clear b5
  go_wp2
  go_ret
  exact Ret.mk rfl A5.out.below
set_option maxRecDepth 100000 in
set_option maxHeartbeats 4000000 in
theorem steps_ok (m : Mv) (E : Eg) (x y n : Int) (w : World) (hT : Tab w) (hR : RTab w) (hk : okM E x y m) :
    Calls Tryd.prog 4 #[.agg (goA m E x y n)] w (Ret (.bool true) w) := by
  have HTR := Lib.hid hR
  clear hR
  have HT := Lib.hid hT
  have HK := Lib.hid hk
  clear hT hk
  have G0 := Lib.hid (Kx.new w 30 (goA m E x y n))
  obtain ⟨gx, gy, gn, -, -, -, -⟩ := G0.out.goC
  go_enter Tryd.func4, Tryd.ntmps4
  go_wp2_with (first | (refine wpList_load_at (G0.out.goMv) rfl rfl rfl ?_) | (refine wpList_load_at (G0.out.goEg) rfl rfl rfl ?_))
  clear gx gy gn
  generalize w.alloc (.cells (goA m E x y n) 30) = w1 at *
  refine (Step14_ok E m x y w1 (HT.out.keep G0.out.below) HK.out).mono ?_
  rintro e w2 ⟨rfl, b2⟩
  have G2 := Lib.hid (G0.out.keep b2)
  have G3 := Lib.hid (G2.out.mBeside (dvS E x y m).1)
  have A3 := Lib.hid (Kx.mMade G2.out.below (dvS E x y m).1)
  clear b2 G0
  obtain ⟨gx, gy, gn, -, -, -, -⟩ := G3.out.goC
  have HS := Lib.hid (fun u hu => rStep14_any E m x y u hu HK.out)
  generalize dvS E x y m = R at *
  obtain ⟨r, b⟩ := R
  go_wp2_with (first | (refine wpList_load_at (G3.out.goMv) rfl rfl rfl ?_) | (refine wpList_load_at (G3.out.goEg) rfl rfl rfl ?_) | (refine wpList_store_blk (c' := mvA r) Tryd.sizeMv (alloc_blk _ _ _) rfl rfl rfl rfl rfl rfl (mvA_one _) ?_))
  generalize (w2.alloc (.cells #[.int .i64 0, .int .i64 0, .int .i64 0] 26)).setRow w2.heap.size (mvA r) = w3 at *
  clear gx gy gn
  refine (rmay14_any E m x y w3).mono ?_
  rw [decide_eq_true HK.out]
  rintro e w4 ⟨rfl, b4⟩
  have A4 := Lib.hid (A3.out.keep b4)
  have G4 := Lib.hid (G3.out.keep b4)
  clear b4 A3 G3 G2
  obtain ⟨gx, gy, gn, -, -, -, -⟩ := G4.out.goC
  go_wp2_with (first | (refine wpList_load_at (G4.out.goMv) rfl rfl rfl ?_) | (refine wpList_load_at (G4.out.goEg) rfl rfl rfl ?_))
  refine (HS.out w4 (HTR.out.keep G4.out.below)).mono ?_
  rintro e w5 ⟨rfl, b5⟩
  have A5 := Lib.hid (A4.out.keep b5)
  have A6 := Lib.hid (A5.out.mBeside r)
  have D6 := Lib.hid (Kx.mMade A5.out.below r)
  clear b5 A4 G4 gx gy gn HS
  go_upto_region 5 with (first | (refine wpList_store_blk (c' := mvA r) Tryd.sizeMv (alloc_blk _ _ _) rfl rfl rfl rfl rfl rfl (mvA_one _) ?_))
  generalize (w5.alloc (.cells #[.int .i64 0, .int .i64 0, .int .i64 0] 26)).setRow w5.heap.size (mvA r) = w6 at *
  clear A5
  go_wp2_with (first | (refine wpList_load_at (loadVar_mv A6.out.blk) rfl rfl rfl ?_) | (refine wpList_load_at (loadVar_mv D6.out.blk) rfl rfl rfl ?_) | (refine wpList_cmp (fun u => (run_eql r r u).trans (by rw [eqM_self])) rfl rfl rfl rfl ?_; simp only [Act.put, List.setIfInBounds_toArray, List.set_cons_zero, List.set_cons_succ]))
  refine (awake14_any w6 (HT.out.keep A6.out.below)).mono ?_
  rintro e w7 ⟨rfl, b7⟩
  have A7 := Lib.hid (A6.out.keep b7)
  clear b7
  go_wp2
  go_ret
  exact Ret.mk rfl A7.out.below
theorem walk_DriveSteps (m : Mv) (E : Eg) (x y n : Int) (w : World) (hT : Tab w) (hR : RTab w) :
    Calls Tryd.prog 4 #[.agg (goA m E x y n)] w (Ret (.bool true) w) := by
  by_cases hk : okM E x y m
  · exact steps_ok m E x y n w hT hR hk
  · exact steps_bad m E x y n w hT hk
end Go.Proofs.YtckeplbmkjoiaaaDoor
