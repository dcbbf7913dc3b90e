/- Stage 14: Steps; the program's. -/
import Derived.Test.YtckeplbmkjoiaaaDoorDv4
import Derived.Deep.DeepCutAuto
namespace Go.Proofs.YtckeplbmkjoiaaaDoor
open Go.RowKit
set_option linter.unusedVariables false

set_option maxRecDepth 100000 in
set_option maxHeartbeats 4000000 in
theorem Steps14_bad (E : Eg) (m : Mv) (x y n : Int) (w : World) (hT : Tab w) (hk : ¬ okM E x y m) :
    Calls Tryd.prog 14 #[.agg (mvA m), .agg (egA E), .int .i64 x, .int .i64 y, .int .i64 n] w (Ret (.tuple #[.agg (mvA mv0), .int .i64 0, .int .i64 1]) w) := by
  have B := Lib.hid (Bn.new0 w m E)
  have HT := Lib.hid hT
  have HK := Lib.hid hk
  clear hT hk
  go_enter Tryd.func14, Tryd.ntmps14
  go_wp2_with (first | (refine wpList_load_at (loadVar_mv B.out.m.blk) rfl rfl rfl ?_) | (refine wpList_load_at (loadVar_eg B.out.e.blk) rfl rfl rfl ?_))
  generalize ((w.alloc (.cells (mvA m) 26)).alloc (.cells (egA E) 28)).alloc (.cells #[.int .i64 0, .int .i64 0, .int .i64 0] 26) = w1 at *
  refine (may14_any E m x y w1).mono ?_
  rw [decide_eq_false HK.out]
  rintro e w2 ⟨rfl, b2⟩
  have B2 := Lib.hid (B.out.keep b2)
  clear b2 B
  go_wp2_with (refine wpList_store_blk (c' := mvA mv0) Tryd.sizeMv (B2.out.r.blk) rfl rfl rfl rfl rfl rfl (mvA_one _) ?_)
  have B3 := Lib.hid (B2.out.setR mv0)
  refine bodyPost_ret (results_mv2 Tryd.results14 _ rfl B3.out.r.blk) rfl (Ret.mk rfl B3.out.below)
set_option maxRecDepth 100000 in
set_option maxHeartbeats 4000000 in
theorem Steps14_ok (E : Eg) (m : Mv) (x y : Int) (n : Nat) (w : World) (hT : Tab w) (hk : okM E x y m) (h1 : (n : Int) < 9223372036854775807) :
    Calls Tryd.prog 14 #[.agg (mvA m), .agg (egA E), .int .i64 x, .int .i64 y, .int .i64 (n : Int)] w (Ret (.tuple #[.agg (mvA (dvN E x y n m).1), .int .i64 ((dvN E x y n m).2 : Int), .int .i64 0]) w) := by
  have B := Lib.hid (Bn.new0 w m E)
  have HT := Lib.hid hT
  have HK := Lib.hid hk
  clear hT hk
  go_enter Tryd.func14, Tryd.ntmps14
  go_wp2_with (first | (refine wpList_load_at (loadVar_mv B.out.m.blk) rfl rfl rfl ?_) | (refine wpList_load_at (loadVar_eg B.out.e.blk) rfl rfl rfl ?_))
  generalize ((w.alloc (.cells (mvA m) 26)).alloc (.cells (egA E) 28)).alloc (.cells #[.int .i64 0, .int .i64 0, .int .i64 0] 26) = w1 at *
  refine (may14_any E m x y w1).mono ?_
  rw [decide_eq_true HK.out]
  rintro e w2 ⟨rfl, b2⟩
  have B2 := Lib.hid (B.out.keep b2)
  have HM := Lib.hid (Mde.start n HK.out)
  clear b2 B
  go_wp2_with fail
  go_loopw [24] (fun s24 wr => ∃ (k : Nat) (mk : Mv), s24 = .int .i64 (k : Int) ∧ Hid (Mde E x y n m k mk) ∧ Hid (Bn w wr mk E mv0)) (fun s24 _ => n - (intOf s24).toNat)
  case atStart => exact ⟨0, m, by go_num, HM, B2⟩
  case round =>
    obtain ⟨k, mk, rfl, hM, hB⟩ := hrel
    clear HM B2
    by_cases hkn : k < n
    · have hlt : (k : Int) < (n : Int) := by omega
      go_wp2_with (first | (refine wpList_load_at (loadVar_mv hB.out.m.blk) rfl rfl rfl ?_) | (refine wpList_load_at (loadVar_eg hB.out.e.blk) rfl rfl rfl ?_))
      refine (step14_any E mk x y wr (HT.out.keep hB.out.below) hM.out.1).mono ?_
      rintro e w3 ⟨rfl, b3⟩
      have B3 := Lib.hid (hB.out.keep b3)
      clear b3 hB
      have B4 := Lib.hid (B3.out.mBeside (dvS E x y mk).1)
      have N4 := Lib.hid (Kx.mMade B3.out.below (dvS E x y mk).1)
      have HTH := Lib.hid (fun h => hM.out.there hkn h)
      have HMO := Lib.hid (fun h => hM.out.more hkn h)
      have HST := Lib.hid (fun h => hM.out.still h)
      have hne := B3.out.lt
      clear hM
      generalize hR : dvS E x y mk = R at *
      clear hR
      obtain ⟨r, b⟩ := R
      cases b with
      | true =>
        have HR := Lib.hid (HTH.out rfl)
        clear HTH HMO HST
        go_wp2_with (first | (refine wpList_store_blk (c' := mvA r) Tryd.sizeMv (alloc_blk _ _ _) rfl rfl rfl rfl rfl rfl (mvA_one _) ?_) | (refine wpList_load_at (loadVar_mv N4.out.blk) rfl rfl rfl ?_) | (refine wpList_store_blk (c' := mvA r) Tryd.sizeMv (B4.out.r.blk) rfl rfl rfl rfl rfl rfl (mvA_one _) ?_))
        have B5 := Lib.hid (B4.out.setR r)
        refine bodyPost_ret (results_mv2 Tryd.results14 _ rfl B5.out.r.blk) rfl (Ret.mk ?_ B5.out.below)
        rw [HR.out.1, HR.out.2]
        rfl
      | false =>
        have HM2 := Lib.hid (HMO.out rfl)
        have HS2 := Lib.hid (fun e => HST.out e)
        clear HTH HMO HST
        go_upto_region 9 with (first | (refine wpList_store_blk (c' := mvA r) Tryd.sizeMv (alloc_blk _ _ _) rfl rfl rfl rfl rfl rfl (mvA_one _) ?_) | (refine wpList_load_at (loadVar_mv N4.out.blk) rfl rfl rfl ?_))
        generalize (w3.alloc (.cells #[.int .i64 0, .int .i64 0, .int .i64 0] 26)).setRow w3.heap.size (mvA r) = w4 at *
        cases he : eqM r mk with
        | true =>
          have HR := Lib.hid (HS2.out (by rw [(eqM_iff r mk).1 he]))
          have HQ := Lib.hid he
          clear HM2 HS2 he
          go_wp2_with (first | (refine wpList_load_at (loadVar_mv N4.out.blk) rfl rfl rfl ?_) | (refine wpList_load_at (loadVar_mv B4.out.m.blk) rfl rfl rfl ?_) | (refine wpList_cmp (fun u => (run_eql r mk u).trans (by rw [HQ.out])) rfl rfl rfl rfl ?_; simp only [Act.put, List.setIfInBounds_toArray, List.set_cons_zero, List.set_cons_succ]) | (refine wpList_store_blk (c' := mvA mk) Tryd.sizeMv (B4.out.r.blk) rfl rfl rfl rfl rfl rfl (mvA_one _) ?_))
          have B5 := Lib.hid (B4.out.setR mk)
          refine bodyPost_ret (results_mv2 Tryd.results14 _ rfl B5.out.r.blk) rfl (Ret.mk ?_ B5.out.below)
          rw [HR.out.1, HR.out.2]
          rfl
        | false =>
          have HQ := Lib.hid he
          clear HS2 he
          go_wp2_with (first | (refine wpList_load_at (loadVar_mv N4.out.blk) rfl rfl rfl ?_) | (refine wpList_load_at (loadVar_mv B4.out.m.blk) rfl rfl rfl ?_) | (refine wpList_cmp (fun u => (run_eql r mk u).trans (by rw [HQ.out])) rfl rfl rfl rfl ?_; simp only [Act.put, List.setIfInBounds_toArray, List.set_cons_zero, List.set_cons_succ]) | (refine wpList_store_blk (c' := mvA r) Tryd.sizeMv (B4.out.m.blk) rfl rfl rfl rfl rfl rfl (mvA_one _) ?_))
          have B5 := Lib.hid (B4.out.setM r)
          go_roundw
          case rel => exact ⟨k + 1, r, by go_num, HM2, B5⟩
          case measure => simp [intOf]; omega
    · have hlt : ¬ (k : Int) < (n : Int) := by omega
      have hkn' : k = n := by have := hM.out.2.1; omega
      subst hkn'
      have HR := Lib.hid hM.out.done
      clear hM
      go_wp2_with (first | (refine wpList_load_at (loadVar_mv hB.out.m.blk) rfl rfl rfl ?_) | (refine wpList_store_blk (c' := mvA mk) Tryd.sizeMv (hB.out.r.blk) rfl rfl rfl rfl rfl rfl (mvA_one _) ?_))
      have B5 := Lib.hid (hB.out.setR mk)
      refine bodyPost_ret (results_mv2 Tryd.results14 _ rfl B5.out.r.blk) rfl (Ret.mk ?_ B5.out.below)
      rw [HR.out.1, HR.out.2]
      rfl
set_option maxRecDepth 100000 in
set_option maxHeartbeats 4000000 in
theorem Steps14_neg (E : Eg) (m : Mv) (x y n : Int) (w : World) (hT : Tab w) (hk : okM E x y m) (h1 : n < 0) :
    Calls Tryd.prog 14 #[.agg (mvA m), .agg (egA E), .int .i64 x, .int .i64 y, .int .i64 n] w (Ret (.tuple #[.agg (mvA m), .int .i64 0, .int .i64 0]) w) := by
  have B := Lib.hid (Bn.new0 w m E)
  have HT := Lib.hid hT
  have HK := Lib.hid hk
  clear hT hk
  go_enter Tryd.func14, Tryd.ntmps14
  go_wp2_with (first | (refine wpList_load_at (loadVar_mv B.out.m.blk) rfl rfl rfl ?_) | (refine wpList_load_at (loadVar_eg B.out.e.blk) rfl rfl rfl ?_))
  generalize ((w.alloc (.cells (mvA m) 26)).alloc (.cells (egA E) 28)).alloc (.cells #[.int .i64 0, .int .i64 0, .int .i64 0] 26) = w1 at *
  refine (may14_any E m x y w1).mono ?_
  rw [decide_eq_true HK.out]
  rintro e w2 ⟨rfl, b2⟩
  have B2 := Lib.hid (B.out.keep b2)
  clear b2 B
  go_wp2_with fail
  go_loopw [24] (fun s24 wr => s24 = .int .i64 0 ∧ Hid (Bn w wr m E mv0)) (fun s24 _ => 0)
  case atStart => exact ⟨by go_num, B2⟩
  case round =>
    obtain ⟨rfl, hB⟩ := hrel
    clear B2
    have hlt : ¬ (0 : Int) < n := by omega
    go_wp2_with (first | (refine wpList_load_at (loadVar_mv hB.out.m.blk) rfl rfl rfl ?_) | (refine wpList_store_blk (c' := mvA m) Tryd.sizeMv (hB.out.r.blk) rfl rfl rfl rfl rfl rfl (mvA_one _) ?_))
    have B5 := Lib.hid (hB.out.setR m)
    refine bodyPost_ret (results_mv2 Tryd.results14 _ rfl B5.out.r.blk) rfl (Ret.mk ?_ B5.out.below)
    rfl

end Go.Proofs.YtckeplbmkjoiaaaDoor
