/- Stage 14: the reference's Steps. -/
import Derived.Test.YtckeplbmkjoiaaaDoorDv6
import Derived.Deep.DeepCutAuto
namespace Go.Proofs.YtckeplbmkjoiaaaDoor
open Go.RowKit
set_option linter.unusedVariables false

set_option maxRecDepth 100000 in
set_option maxHeartbeats 4000000 in
theorem rSteps14_ok (E : Eg) (m : Mv) (x y : Int) (n : Nat) (w : World) (hT : RTab w) (hk : okM E x y m) (h1 : (n : Int) < 9223372036854775807) :
    Calls Tryd.prog 15 #[.agg (mvA m), .agg (egA E), .int .i64 x, .int .i64 y, .int .i64 (n : Int)] w (Ret (.tuple #[.agg (mvA (dvN E x y n m).1), .int .i64 ((dvN E x y n m).2 : Int)]) w) := by
  have B := Lib.hid (Bn.new0 w m E)
  have HT := Lib.hid hT
  have HK := Lib.hid hk
  clear hT hk
  go_enter Tryd.func15, Tryd.ntmps15
  go_wp2_with fail
  generalize ((w.alloc (.cells (mvA m) 26)).alloc (.cells (egA E) 28)).alloc (.cells #[.int .i64 0, .int .i64 0, .int .i64 0] 26) = w1 at *
  have HM := Lib.hid (Mde.start n HK.out)
  go_loopw [12] (fun s12 wr => ∃ (k : Nat) (mk : Mv), s12 = .int .i64 (k : Int) ∧ Hid (Mde E x y n m k mk) ∧ Hid (Bn w wr mk E mv0)) (fun s12 _ => n - (intOf s12).toNat)
  case atStart => exact ⟨0, m, by go_num, HM, B⟩
  case round =>
    obtain ⟨k, mk, rfl, hM, hB⟩ := hrel
    clear HM B
    by_cases hkn : k < n
    · have hlt : (k : Int) < (n : Int) := by omega
      go_wp2_with (first | (refine wpList_load_at (loadVar_mv hB.out.m.blk) rfl rfl rfl ?_) | (refine wpList_load_at (loadVar_eg hB.out.e.blk) rfl rfl rfl ?_))
      refine (rStep14_any E mk x y wr (HT.out.keep hB.out.below) hM.out.1).mono ?_
      rintro e w3 ⟨rfl, b3⟩
      have B3 := Lib.hid (hB.out.keep b3)
      clear b3 hB
      have B4 := Lib.hid (B3.out.mBeside (dvS E x y mk).1)
      have N4 := Lib.hid (Kx.mMade B3.out.below (dvS E x y mk).1)
      have HTH := Lib.hid (fun h => hM.out.there hkn h)
      have HMO := Lib.hid (fun h => hM.out.more hkn h)
      have hne := B3.out.lt
      clear hM
      generalize hR : dvS E x y mk = R at *
      clear hR
      obtain ⟨r, b⟩ := R
      go_upto_region 4 with (first | (refine wpList_store_blk (c' := mvA r) Tryd.sizeMv (alloc_blk _ _ _) rfl rfl rfl rfl rfl rfl (mvA_one _) ?_))
      generalize (w3.alloc (.cells #[.int .i64 0, .int .i64 0, .int .i64 0] 26)).setRow w3.heap.size (mvA r) = w4 at *
      have B5 := Lib.hid (B4.out.setM r)
      cases b with
      | true =>
        have HR := Lib.hid (HTH.out rfl)
        clear HTH HMO
        go_wp2_with (first | (refine wpList_load_at (loadVar_mv N4.out.blk) rfl rfl rfl ?_) | (refine wpList_store_blk (c' := mvA r) Tryd.sizeMv (B4.out.m.blk) rfl rfl rfl rfl rfl rfl (mvA_one _) ?_) | (refine wpList_load_at (loadVar_mv B5.out.m.blk) rfl rfl rfl ?_) | (refine wpList_store_blk (c' := mvA r) Tryd.sizeMv (B5.out.r.blk) rfl rfl rfl rfl rfl rfl (mvA_one _) ?_))
        have B6 := Lib.hid (B5.out.setR r)
        refine bodyPost_ret (results_mv1 Tryd.results15 _ rfl B6.out.r.blk) rfl (Ret.mk ?_ B6.out.below)
        rw [HR.out.1, HR.out.2]
        rfl
      | false =>
        have HM2 := Lib.hid (HMO.out rfl)
        clear HTH HMO
        go_wp2_with (first | (refine wpList_load_at (loadVar_mv N4.out.blk) rfl rfl rfl ?_) | (refine wpList_store_blk (c' := mvA r) Tryd.sizeMv (B4.out.m.blk) rfl rfl rfl rfl rfl rfl (mvA_one _) ?_))
        go_roundw
        case rel => exact ⟨k + 1, r, by go_num, HM2, B5⟩
        case measure => simp [intOf]; omega
    · have hlt : ¬ (k : Int) < (n : Int) := by omega
      have hkn' : k = n := by have := hM.out.2.1; omega
      subst hkn'
      have HR := Lib.hid hM.out.done
      clear hM
      go_wp2_with (first | (refine wpList_load_at (loadVar_mv hB.out.m.blk) rfl rfl rfl ?_) | (refine wpList_store_blk (c' := mvA mk) Tryd.sizeMv (hB.out.r.blk) rfl rfl rfl rfl rfl rfl (mvA_one _) ?_))
      have B5 := Lib.hid (hB.out.setR mk)
      refine bodyPost_ret (results_mv1 Tryd.results15 _ rfl B5.out.r.blk) rfl (Ret.mk ?_ B5.out.below)
      rw [HR.out.1, HR.out.2]
      rfl
set_option maxRecDepth 100000 in
set_option maxHeartbeats 4000000 in
theorem rSteps14_neg (E : Eg) (m : Mv) (x y n : Int) (w : World) (hT : RTab w) (hk : okM E x y m) (h1 : n < 0) :
    Calls Tryd.prog 15 #[.agg (mvA m), .agg (egA E), .int .i64 x, .int .i64 y, .int .i64 n] w (Ret (.tuple #[.agg (mvA m), .int .i64 0]) w) := by
  have B := Lib.hid (Bn.new0 w m E)
  have HT := Lib.hid hT
  have HK := Lib.hid hk
  clear hT hk
  go_enter Tryd.func15, Tryd.ntmps15
  go_wp2_with fail
  generalize ((w.alloc (.cells (mvA m) 26)).alloc (.cells (egA E) 28)).alloc (.cells #[.int .i64 0, .int .i64 0, .int .i64 0] 26) = w1 at *
  go_loopw [12] (fun s12 wr => s12 = .int .i64 0 ∧ Hid (Bn w wr m E mv0)) (fun s12 _ => 0)
  case atStart => exact ⟨by go_num, B⟩
  case round =>
    obtain ⟨rfl, hB⟩ := hrel
    clear B
    have hlt : ¬ (0 : Int) < n := by omega
    go_wp2_with (first | (refine wpList_load_at (loadVar_mv hB.out.m.blk) rfl rfl rfl ?_) | (refine wpList_store_blk (c' := mvA m) Tryd.sizeMv (hB.out.r.blk) rfl rfl rfl rfl rfl rfl (mvA_one _) ?_))
    have B5 := Lib.hid (hB.out.setR m)
    refine bodyPost_ret (results_mv1 Tryd.results15 _ rfl B5.out.r.blk) rfl (Ret.mk ?_ B5.out.below)
    rfl

end Go.Proofs.YtckeplbmkjoiaaaDoor
