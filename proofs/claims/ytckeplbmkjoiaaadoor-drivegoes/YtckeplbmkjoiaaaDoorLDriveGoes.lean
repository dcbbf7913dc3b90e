/- Stage 14: many steps; the law. -/
import Derived.Test.YtckeplbmkjoiaaaDoorDvLaw
import Derived.Test.YtckeplbmkjoiaaaDoorDv8
import Derived.Deep.DeepCutAuto
namespace Go.Proofs.YtckeplbmkjoiaaaDoor
open Go.RowKit
set_option linter.unusedVariables false

set_option maxRecDepth 100000 in
set_option maxHeartbeats 4000000 in
theorem goes_bad (m : Mv) (E : Eg) (x y n : Int) (w : World) (hT : Tab w) (hk : ¬ okM E x y m) (h : ¬ 120 < n) :
    Calls Tryd.prog 5 #[.agg (goA m E x y n)] w (Ret (.bool true) w) := by
  have HT := Lib.hid hT
  have HK := Lib.hid hk
  clear hT hk
  have G0 := Lib.hid (Kx.new w 30 (goA m E x y n))
  obtain ⟨gx, gy, gn, -, -, -, -⟩ := G0.out.goC
  go_enter Tryd.func5, Tryd.ntmps5
  go_wp2_with (first | (refine wpList_load_at (G0.out.goMv) rfl rfl rfl ?_) | (refine wpList_load_at (G0.out.goEg) rfl rfl rfl ?_))
  clear gx gy gn
  generalize w.alloc (.cells (goA m E x y n) 30) = w1 at *
  refine (Steps14_bad E m x y n w1 (HT.out.keep G0.out.below) HK.out).mono ?_
  rintro e w2 ⟨rfl, b2⟩
  have G2 := Lib.hid (G0.out.keep b2)
  have G3 := Lib.hid (G2.out.mBeside mv0)
  have A3 := Lib.hid (Kx.mMade G2.out.below mv0)
  clear b2 G0
  obtain ⟨gx, gy, gn, -, -, -, -⟩ := G3.out.goC
  go_wp2_with (first | (refine wpList_load_at (G3.out.goMv) rfl rfl rfl ?_) | (refine wpList_load_at (G3.out.goEg) rfl rfl rfl ?_) | (refine wpList_store_blk (c' := mvA mv0) Tryd.sizeMv (alloc_blk _ _ _) rfl rfl rfl rfl rfl rfl (mvA_one _) ?_))
  generalize (w2.alloc (.cells #[.int .i64 0, .int .i64 0, .int .i64 0] 26)).setRow w2.heap.size (mvA mv0) = w3 at *
  clear gx gy gn
  refine (rmay14_any E m x y w3).mono ?_
  rw [decide_eq_false HK.out]
  rintro e w4 ⟨rfl, b4⟩
  have A4 := Lib.hid (A3.out.keep b4)
  clear b4 A3 G3 G2
  go_wp2_with (first | (refine wpList_load_at (loadVar_mv A4.out.blk) rfl rfl rfl ?_) | (refine wpList_cmp (fun u => (run_eql mv0 mv0 u).trans (by rw [eqM_self])) rfl rfl rfl rfl ?_; simp only [Act.put, List.setIfInBounds_toArray, List.set_cons_zero, List.set_cons_succ]))
  refine (awake14_any w4 (HT.out.keep A4.out.below)).mono ?_
  rintro e w5 ⟨rfl, b5⟩
  have A5 := Lib.hid (A4.out.keep b5)
  clear b5
  go_wp2
  go_ret
  exact Ret.mk rfl A5.out.below
set_option maxRecDepth 100000 in
set_option maxHeartbeats 4000000 in
theorem goes_bad2 (m : Mv) (E : Eg) (x y n : Int) (w : World) (hT : Tab w) (hk : ¬ okM E x y m) (h : 120 < n) :
    Calls Tryd.prog 5 #[.agg (goA m E x y n)] w (Ret (.bool true) w) := by
  have HT := Lib.hid hT
  have HK := Lib.hid hk
  clear hT hk
  have G0 := Lib.hid (Kx.new w 30 (goA m E x y n))
  obtain ⟨gx, gy, gn, -, -, -, -⟩ := G0.out.goC
  go_enter Tryd.func5, Tryd.ntmps5
  go_upto_region 2 with fail
  generalize w.alloc (.cells (goA m E x y n) 30) = w0 at *
  have fn := G0.out.free 9
  have G1 : Hid (Kx w w.heap.size (w0.setCell ⟨w.heap.size, 9, none⟩ (.int .i64 120)) 30 (goA m E x y 120)) := G0.out.set 9 _
  obtain ⟨hx, hy, hn, -, -, -, -⟩ := G1.out.goC
  go_wp2_with (first | (refine wpList_load_at (G1.out.goMv) rfl rfl rfl ?_) | (refine wpList_load_at (G1.out.goEg) rfl rfl rfl ?_))
  clear gx gy gn hx hy hn fn G0
  generalize w0.setCell ⟨w.heap.size, 9, none⟩ (.int .i64 120) = w1 at *
  have G0 := G1
  clear G1
  refine (Steps14_bad E m x y 120 w1 (HT.out.keep G0.out.below) HK.out).mono ?_
  rintro e w2 ⟨rfl, b2⟩
  have G2 := Lib.hid (G0.out.keep b2)
  have G3 := Lib.hid (G2.out.mBeside mv0)
  have A3 := Lib.hid (Kx.mMade G2.out.below mv0)
  clear b2 G0
  obtain ⟨gx, gy, gn, -, -, -, -⟩ := G3.out.goC
  go_wp2_with (first | (refine wpList_load_at (G3.out.goMv) rfl rfl rfl ?_) | (refine wpList_load_at (G3.out.goEg) rfl rfl rfl ?_) | (refine wpList_store_blk (c' := mvA mv0) Tryd.sizeMv (alloc_blk _ _ _) rfl rfl rfl rfl rfl rfl (mvA_one _) ?_))
  generalize (w2.alloc (.cells #[.int .i64 0, .int .i64 0, .int .i64 0] 26)).setRow w2.heap.size (mvA mv0) = w3 at *
  clear gx gy gn
  refine (rmay14_any E m x y w3).mono ?_
  rw [decide_eq_false HK.out]
  rintro e w4 ⟨rfl, b4⟩
  have A4 := Lib.hid (A3.out.keep b4)
  clear b4 A3 G3 G2
  go_wp2_with (first | (refine wpList_load_at (loadVar_mv A4.out.blk) rfl rfl rfl ?_) | (refine wpList_cmp (fun u => (run_eql mv0 mv0 u).trans (by rw [eqM_self])) rfl rfl rfl rfl ?_; simp only [Act.put, List.setIfInBounds_toArray, List.set_cons_zero, List.set_cons_succ]))
  refine (awake14_any w4 (HT.out.keep A4.out.below)).mono ?_
  rintro e w5 ⟨rfl, b5⟩
  have A5 := Lib.hid (A4.out.keep b5)
  clear b5
  go_wp2
  go_ret
  exact Ret.mk rfl A5.out.below
set_option maxRecDepth 100000 in
set_option maxHeartbeats 4000000 in
theorem goes_ok (m : Mv) (E : Eg) (x y : Int) (k : Nat) (w : World) (hT : Tab w) (hR : RTab w) (hk : okM E x y m) (h : ¬ (120 : Int) < (k : Int)) :
    Calls Tryd.prog 5 #[.agg (goA m E x y (k : Int))] w (Ret (.bool true) w) := by
  have HTR := Lib.hid hR
  clear hR
  have HT := Lib.hid hT
  have HK := Lib.hid hk
  clear hT hk
  have G0 := Lib.hid (Kx.new w 30 (goA m E x y (k : Int)))
  obtain ⟨gx, gy, gn, -, -, -, -⟩ := G0.out.goC
  go_enter Tryd.func5, Tryd.ntmps5
  go_wp2_with (first | (refine wpList_load_at (G0.out.goMv) rfl rfl rfl ?_) | (refine wpList_load_at (G0.out.goEg) rfl rfl rfl ?_))
  clear gx gy gn
  generalize w.alloc (.cells (goA m E x y (k : Int)) 30) = w1 at *
  refine (Steps14_ok E m x y k w1 (HT.out.keep G0.out.below) HK.out (by omega)).mono ?_
  rintro e w2 ⟨rfl, b2⟩
  have G2 := Lib.hid (G0.out.keep b2)
  have G3 := Lib.hid (G2.out.mBeside (dvN E x y k m).1)
  have A3 := Lib.hid (Kx.mMade G2.out.below (dvN E x y k m).1)
  clear b2 G0
  obtain ⟨gx, gy, gn, -, -, -, -⟩ := G3.out.goC
  have HS := Lib.hid (fun u hu => rSteps14_ok E m x y k u hu HK.out (by omega))
  obtain ⟨d, hd⟩ : ∃ d : Int, ((dvN E x y k m).2 : Int) = d := ⟨_, rfl⟩
  rw [hd] at HS ⊢
  clear hd
  generalize (dvN E x y k m).1 = r at *
  go_wp2_with (first | (refine wpList_load_at (G3.out.goMv) rfl rfl rfl ?_) | (refine wpList_load_at (G3.out.goEg) rfl rfl rfl ?_) | (refine wpList_store_blk (c' := mvA r) Tryd.sizeMv (alloc_blk _ _ _) rfl rfl rfl rfl rfl rfl (mvA_one _) ?_))
  generalize (w2.alloc (.cells #[.int .i64 0, .int .i64 0, .int .i64 0] 26)).setRow w2.heap.size (mvA r) = w3 at *
  clear gx gy gn
  refine (rmay14_any E m x y w3).mono ?_
  rw [decide_eq_true HK.out]
  rintro e w4 ⟨rfl, b4⟩
  have A4 := Lib.hid (A3.out.keep b4)
  have G4 := Lib.hid (G3.out.keep b4)
  clear b4 A3 G3 G2
  obtain ⟨gx, gy, gn, -, -, -, -⟩ := G4.out.goC
  go_wp2_with (first | (refine wpList_load_at (G4.out.goMv) rfl rfl rfl ?_) | (refine wpList_load_at (G4.out.goEg) rfl rfl rfl ?_))
  refine (HS.out w4 (HTR.out.keep G4.out.below)).mono ?_
  rintro e w5 ⟨rfl, b5⟩
  have A5 := Lib.hid (A4.out.keep b5)
  have A6 := Lib.hid (A5.out.mBeside r)
  have D6 := Lib.hid (Kx.mMade A5.out.below r)
  clear b5 A4 G4 gx gy gn HS
  go_upto_region 7 with (first | (refine wpList_store_blk (c' := mvA r) Tryd.sizeMv (alloc_blk _ _ _) rfl rfl rfl rfl rfl rfl (mvA_one _) ?_))
  generalize (w5.alloc (.cells #[.int .i64 0, .int .i64 0, .int .i64 0] 26)).setRow w5.heap.size (mvA r) = w6 at *
  clear A5
  go_wp2_with (first | (refine wpList_load_at (loadVar_mv A6.out.blk) rfl rfl rfl ?_) | (refine wpList_load_at (loadVar_mv D6.out.blk) rfl rfl rfl ?_) | (refine wpList_cmp (fun u => (run_eql r r u).trans (by rw [eqM_self])) rfl rfl rfl rfl ?_; simp only [Act.put, List.setIfInBounds_toArray, List.set_cons_zero, List.set_cons_succ]))
  refine (awake14_any w6 (HT.out.keep A6.out.below)).mono ?_
  rintro e w7 ⟨rfl, b7⟩
  have A7 := Lib.hid (A6.out.keep b7)
  clear b7
  go_wp2
  go_ret
  exact Ret.mk rfl A7.out.below
set_option maxRecDepth 100000 in
set_option maxHeartbeats 4000000 in
theorem goes_ok2 (m : Mv) (E : Eg) (x y : Int) (n : Int) (w : World) (hT : Tab w) (hR : RTab w) (hk : okM E x y m) (h : 120 < n) :
    Calls Tryd.prog 5 #[.agg (goA m E x y n)] w (Ret (.bool true) w) := by
  have HTR := Lib.hid hR
  clear hR
  have HT := Lib.hid hT
  have HK := Lib.hid hk
  clear hT hk
  have G0 := Lib.hid (Kx.new w 30 (goA m E x y n))
  obtain ⟨gx, gy, gn, -, -, -, -⟩ := G0.out.goC
  go_enter Tryd.func5, Tryd.ntmps5
  go_upto_region 2 with fail
  generalize w.alloc (.cells (goA m E x y n) 30) = w0 at *
  have fn := G0.out.free 9
  have G1 : Hid (Kx w w.heap.size (w0.setCell ⟨w.heap.size, 9, none⟩ (.int .i64 120)) 30 (goA m E x y 120)) := G0.out.set 9 _
  obtain ⟨hx, hy, hn, -, -, -, -⟩ := G1.out.goC
  go_wp2_with (first | (refine wpList_load_at (G1.out.goMv) rfl rfl rfl ?_) | (refine wpList_load_at (G1.out.goEg) rfl rfl rfl ?_))
  clear gx gy gn hx hy hn fn G0
  generalize w0.setCell ⟨w.heap.size, 9, none⟩ (.int .i64 120) = w1 at *
  have G0 := G1
  clear G1
  refine (Steps14_ok E m x y 120 w1 (HT.out.keep G0.out.below) HK.out (by decide)).mono ?_
  rintro e w2 ⟨rfl, b2⟩
  have G2 := Lib.hid (G0.out.keep b2)
  have G3 := Lib.hid (G2.out.mBeside (dvN E x y 120 m).1)
  have A3 := Lib.hid (Kx.mMade G2.out.below (dvN E x y 120 m).1)
  clear b2 G0
  obtain ⟨gx, gy, gn, -, -, -, -⟩ := G3.out.goC
  have HS := Lib.hid (fun u hu => rSteps14_ok E m x y 120 u hu HK.out (by decide))
  obtain ⟨d, hd⟩ : ∃ d : Int, ((dvN E x y 120 m).2 : Int) = d := ⟨_, rfl⟩
  rw [hd] at HS ⊢
  clear hd
  generalize (dvN E x y 120 m).1 = r at *
  go_wp2_with (first | (refine wpList_load_at (G3.out.goMv) rfl rfl rfl ?_) | (refine wpList_load_at (G3.out.goEg) rfl rfl rfl ?_) | (refine wpList_store_blk (c' := mvA r) Tryd.sizeMv (alloc_blk _ _ _) rfl rfl rfl rfl rfl rfl (mvA_one _) ?_))
  generalize (w2.alloc (.cells #[.int .i64 0, .int .i64 0, .int .i64 0] 26)).setRow w2.heap.size (mvA r) = w3 at *
  clear gx gy gn
  refine (rmay14_any E m x y w3).mono ?_
  rw [decide_eq_true HK.out]
  rintro e w4 ⟨rfl, b4⟩
  have A4 := Lib.hid (A3.out.keep b4)
  have G4 := Lib.hid (G3.out.keep b4)
  clear b4 A3 G3 G2
  obtain ⟨gx, gy, gn, -, -, -, -⟩ := G4.out.goC
  go_wp2_with (first | (refine wpList_load_at (G4.out.goMv) rfl rfl rfl ?_) | (refine wpList_load_at (G4.out.goEg) rfl rfl rfl ?_))
  refine (HS.out w4 (HTR.out.keep G4.out.below)).mono ?_
  rintro e w5 ⟨rfl, b5⟩
  have A5 := Lib.hid (A4.out.keep b5)
  have A6 := Lib.hid (A5.out.mBeside r)
  have D6 := Lib.hid (Kx.mMade A5.out.below r)
  clear b5 A4 G4 gx gy gn HS
  go_upto_region 7 with (first | (refine wpList_store_blk (c' := mvA r) Tryd.sizeMv (alloc_blk _ _ _) rfl rfl rfl rfl rfl rfl (mvA_one _) ?_))
  generalize (w5.alloc (.cells #[.int .i64 0, .int .i64 0, .int .i64 0] 26)).setRow w5.heap.size (mvA r) = w6 at *
  clear A5
  go_wp2_with (first | (refine wpList_load_at (loadVar_mv A6.out.blk) rfl rfl rfl ?_) | (refine wpList_load_at (loadVar_mv D6.out.blk) rfl rfl rfl ?_) | (refine wpList_cmp (fun u => (run_eql r r u).trans (by rw [eqM_self])) rfl rfl rfl rfl ?_; simp only [Act.put, List.setIfInBounds_toArray, List.set_cons_zero, List.set_cons_succ]))
  refine (awake14_any w6 (HT.out.keep A6.out.below)).mono ?_
  rintro e w7 ⟨rfl, b7⟩
  have A7 := Lib.hid (A6.out.keep b7)
  clear b7
  go_wp2
  go_ret
  exact Ret.mk rfl A7.out.below
set_option maxRecDepth 100000 in
set_option maxHeartbeats 4000000 in
theorem goes_neg (m : Mv) (E : Eg) (x y : Int) (n : Int) (w : World) (hT : Tab w) (hR : RTab w) (hk : okM E x y m) (h : ¬ 120 < n) (h0 : n < 0) :
    Calls Tryd.prog 5 #[.agg (goA m E x y n)] w (Ret (.bool true) w) := by
  have HTR := Lib.hid hR
  clear hR
  have HT := Lib.hid hT
  have HK := Lib.hid hk
  clear hT hk
  have G0 := Lib.hid (Kx.new w 30 (goA m E x y n))
  obtain ⟨gx, gy, gn, -, -, -, -⟩ := G0.out.goC
  go_enter Tryd.func5, Tryd.ntmps5
  go_wp2_with (first | (refine wpList_load_at (G0.out.goMv) rfl rfl rfl ?_) | (refine wpList_load_at (G0.out.goEg) rfl rfl rfl ?_))
  clear gx gy gn
  generalize w.alloc (.cells (goA m E x y n) 30) = w1 at *
  refine (Steps14_neg E m x y n w1 (HT.out.keep G0.out.below) HK.out h0).mono ?_
  rintro e w2 ⟨rfl, b2⟩
  have G2 := Lib.hid (G0.out.keep b2)
  have G3 := Lib.hid (G2.out.mBeside m)
  have A3 := Lib.hid (Kx.mMade G2.out.below m)
  clear b2 G0
  obtain ⟨gx, gy, gn, -, -, -, -⟩ := G3.out.goC
  have HS := Lib.hid (fun u hu => rSteps14_neg E m x y n u hu HK.out h0)
  go_wp2_with (first | (refine wpList_load_at (G3.out.goMv) rfl rfl rfl ?_) | (refine wpList_load_at (G3.out.goEg) rfl rfl rfl ?_) | (refine wpList_store_blk (c' := mvA m) Tryd.sizeMv (alloc_blk _ _ _) rfl rfl rfl rfl rfl rfl (mvA_one _) ?_))
  generalize (w2.alloc (.cells #[.int .i64 0, .int .i64 0, .int .i64 0] 26)).setRow w2.heap.size (mvA m) = w3 at *
  clear gx gy gn
  refine (rmay14_any E m x y w3).mono ?_
  rw [decide_eq_true HK.out]
  rintro e w4 ⟨rfl, b4⟩
  have A4 := Lib.hid (A3.out.keep b4)
  have G4 := Lib.hid (G3.out.keep b4)
  clear b4 A3 G3 G2
  obtain ⟨gx, gy, gn, -, -, -, -⟩ := G4.out.goC
  go_wp2_with (first | (refine wpList_load_at (G4.out.goMv) rfl rfl rfl ?_) | (refine wpList_load_at (G4.out.goEg) rfl rfl rfl ?_))
  refine (HS.out w4 (HTR.out.keep G4.out.below)).mono ?_
  rintro e w5 ⟨rfl, b5⟩
  have A5 := Lib.hid (A4.out.keep b5)
  have A6 := Lib.hid (A5.out.mBeside m)
  have D6 := Lib.hid (Kx.mMade A5.out.below m)
  clear b5 A4 G4 gx gy gn HS
  go_upto_region 7 with (first | (refine wpList_store_blk (c' := mvA m) Tryd.sizeMv (alloc_blk _ _ _) rfl rfl rfl rfl rfl rfl (mvA_one _) ?_))
  generalize (w5.alloc (.cells #[.int .i64 0, .int .i64 0, .int .i64 0] 26)).setRow w5.heap.size (mvA m) = w6 at *
  clear A5
  go_wp2_with (first | (refine wpList_load_at (loadVar_mv A6.out.blk) rfl rfl rfl ?_) | (refine wpList_load_at (loadVar_mv D6.out.blk) rfl rfl rfl ?_) | (refine wpList_cmp (fun u => (run_eql m m u).trans (by rw [eqM_self])) rfl rfl rfl rfl ?_; simp only [Act.put, List.setIfInBounds_toArray, List.set_cons_zero, List.set_cons_succ]))
  refine (awake14_any w6 (HT.out.keep A6.out.below)).mono ?_
  rintro e w7 ⟨rfl, b7⟩
  have A7 := Lib.hid (A6.out.keep b7)
  clear b7
  go_wp2
  go_ret
  exact Ret.mk rfl A7.out.below
theorem walk_DriveGoes (m : Mv) (E : Eg) (x y n : Int) (w : World) (hT : Tab w) (hR : RTab w) :
    Calls Tryd.prog 5 #[.agg (goA m E x y n)] w (Ret (.bool true) w) := by
  by_cases hn : 120 < n
  · by_cases hk : okM E x y m
    · exact goes_ok2 m E x y n w hT hR hk hn
    · exact goes_bad2 m E x y n w hT hk hn
  · by_cases hk : okM E x y m
    · by_cases h0 : n < 0
      · exact goes_neg m E x y n w hT hR hk hn h0
      · obtain ⟨k, rfl⟩ : ∃ k : Nat, n = (k : Int) := ⟨n.toNat, by omega⟩
        exact goes_ok m E x y k w hT hR hk hn
    · exact goes_bad m E x y n w hT hk hn
end Go.Proofs.YtckeplbmkjoiaaaDoor
