/- The walk of the law TrigVecs. -/
import Derived.Test.YtbmjijllfiokkaaDoorAwake3
import Derived.Test.YtbmjijllfiokkaaDoorLawFar
import Derived.Test.YtbmjijllfiokkaaDoorRefFloor
namespace Go.Proofs.YtbmjijllfiokkaaDoor
open Go.RowKit
set_option linter.unusedVariables false

theorem small_prod {l s : Int} (h : ¬ FarT l) (hs : -65536 ≤ s ∧ s ≤ 65536) : Small (l * s) := by
  unfold FarT at h
  have := (wv_bound (x := l) (y := 0) (c := s) (s := 0) ⟨by omega, by omega, by omega, by omega⟩ hs ⟨by omega, by omega⟩).1
  exact small64 (by omega) (by omega)

set_option maxHeartbeats 400000 in
theorem vecs_far (a l : Int) (w : World) (hT : Tab w) (hl : FarT l) :
    Calls Tryd.prog 6 #[.int .i64 a, .int .i64 l] w (Ret (.bool true) w) := by
  have HT := Lib.hid hT
  have HD := Lib.hid (decide_eq_true hl)
  have HX := Lib.hid hl
  clear hT hl
  go_enter Tryd.func6, Tryd.ntmps6
  go_wp2_with fail
  refine (vec_over a l _ HX.out).mono ?_
  rintro e w1 ⟨rfl, b1⟩
  have B1 := Lib.hid b1
  clear b1
  go_wp2_with fail
  refine (lawFar_any l _).mono ?_
  rw [HD.out]
  rintro e w2 ⟨rfl, rfl⟩
  go_wp2_with fail
  refine (awake3_any _ (HT.out.keep B1.out)).mono ?_
  rintro e w3 ⟨rfl, b3⟩
  have B3 := Lib.hid (B1.out.trans (b3.mono B1.out.size))
  clear b3
  go_wp2
  go_ret
  exact Ret.mk rfl B3.out

set_option maxHeartbeats 1000000 in
theorem vecs_near (a l : Int) (w : World) (hT : Tab w) (hR : RTab w) (ha : -9223372036854775808 ≤ a) (ha' : a ≤ 9223372036854775807) (hl : ¬ FarT l) :
    Calls Tryd.prog 6 #[.int .i64 a, .int .i64 l] w (Ret (.bool true) w) := by
  have HT := Lib.hid hT
  have HR := Lib.hid hR
  have HD := Lib.hid (decide_eq_false hl)
  have HX := Lib.hid hl
  have l0 : -9223372036854775808 ≤ l := by unfold FarT at hl; omega
  have l1 : l ≤ 9223372036854775807 := by unfold FarT at hl; omega
  have FC := Lib.hid (vec_fit hl (cs_range a))
  have FS := Lib.hid (vec_fit hl (sn_range a))
  have PC := Lib.hid (small_prod hl (cs_range a))
  have PS := Lib.hid (small_prod hl (sn_range a))
  have SL := Lib.hid (small64 l0 l1)
  obtain ⟨c0, c1⟩ := cs_range a
  obtain ⟨s0, s1⟩ := sn_range a
  have SC : Hid (Small (cs a)) := small64 (by omega) (by omega)
  have SS : Hid (Small (sn a)) := small64 (by omega) (by omega)
  have HV := Lib.hid (fun (w : World) (h : Tab w) => vec_in a l w h ha ha' hl)
  clear hT hR hl
  generalize hC : cs a = C at *
  generalize hS : sn a = S at *
  have HC := Lib.hid hC
  have HS := Lib.hid hS
  clear hC hS
  go_enter Tryd.func6, Tryd.ntmps6
  go_wp2_with fail
  refine (HV.out _ HT.out).mono ?_
  rintro e w1 ⟨rfl, b1⟩
  have B1 := Lib.hid b1
  clear b1
  go_wp2_with fail
  refine (lawFar_any l _).mono ?_
  rw [HD.out]
  rintro e w2 ⟨rfl, rfl⟩
  go_wp2_with fail
  refine (of_any l _ l0 l1).mono ?_
  rintro e w3 ⟨v3, rfl, hv3, b3⟩
  have V3 := Lib.hid hv3
  have B3 := Lib.hid (B1.out.trans (b3.mono B1.out.size))
  have b3h := Lib.hid b3
  clear b3 hv3
  go_wp2_with fail
  refine (rcos_any a _ (HR.out.keep B3.out)).mono ?_
  rw [HC.out]
  rintro e w4 ⟨rfl, b4⟩
  have V3b := Lib.hid (V3.out.keep b4)
  have B4 := Lib.hid (B3.out.trans (b4.mono B3.out.size))
  clear b4
  go_wp2_with fail
  refine (of_any C _ (by omega) (by omega)).mono ?_
  rintro e w5 ⟨v5, rfl, hv5, b5⟩
  have V5 := Lib.hid hv5
  have B5 := Lib.hid (B4.out.trans (b5.mono B4.out.size))
  have b5h := Lib.hid b5
  clear b5 hv5
  have V3c := Lib.hid (V3b.out.keep b5h.out)
  go_wp2_with fail
  refine (mulB_any v3 v5 l C _ V3c.out V5.out SL.out SC.out PC.out).mono ?_
  rintro e w6 ⟨v6, rfl, hv6, b6⟩
  have V6 := Lib.hid hv6
  have B6 := Lib.hid (B5.out.trans (b6.mono B5.out.size))
  have b6h := Lib.hid b6
  clear b6 hv6
  go_wp2_with fail
  refine (refFloor_any v6 (l * C) _ V6.out PC.out).mono ?_
  rw [rV_in FC.out, decide_eq_true FC.out]
  rintro e w7 ⟨rfl, b7⟩
  have B7 := Lib.hid (B6.out.trans (b7.mono B6.out.size))
  clear b7
  go_wp2_with fail
  refine (of_any l _ l0 l1).mono ?_
  rintro e w8 ⟨v8, rfl, hv8, b8⟩
  have V8 := Lib.hid hv8
  have B8 := Lib.hid (B7.out.trans (b8.mono B7.out.size))
  have b8h := Lib.hid b8
  clear b8 hv8
  go_wp2_with fail
  refine (rsin_any a _ (HR.out.keep B8.out)).mono ?_
  rw [HS.out]
  rintro e w9 ⟨rfl, b9⟩
  have V8b := Lib.hid (V8.out.keep b9)
  have B9 := Lib.hid (B8.out.trans (b9.mono B8.out.size))
  clear b9
  go_wp2_with fail
  refine (of_any S _ (by omega) (by omega)).mono ?_
  rintro e w10 ⟨v10, rfl, hv10, b10⟩
  have V10 := Lib.hid hv10
  have B10 := Lib.hid (B9.out.trans (b10.mono B9.out.size))
  have b10h := Lib.hid b10
  clear b10 hv10
  have V8c := Lib.hid (V8b.out.keep b10h.out)
  go_wp2_with fail
  refine (mulB_any v8 v10 l S _ V8c.out V10.out SL.out SS.out PS.out).mono ?_
  rintro e w11 ⟨v11, rfl, hv11, b11⟩
  have V11 := Lib.hid hv11
  have B11 := Lib.hid (B10.out.trans (b11.mono B10.out.size))
  have b11h := Lib.hid b11
  clear b11 hv11
  go_wp2_with fail
  refine (refFloor_any v11 (l * S) _ V11.out PS.out).mono ?_
  rw [rV_in FS.out, decide_eq_true FS.out]
  rintro e w12 ⟨rfl, b12⟩
  have B12 := Lib.hid (B11.out.trans (b12.mono B11.out.size))
  clear b12
  go_wp2_with fail
  refine (awake3_any _ (HT.out.keep B12.out)).mono ?_
  rintro e w13 ⟨rfl, b13⟩
  have B13 := Lib.hid (B12.out.trans (b13.mono B12.out.size))
  clear b13
  go_wp2
  go_ret
  exact Ret.mk rfl B13.out

theorem walk_TrigVecs (a l : Int) (h0 : (Lit.int .i64 a).wf = true) (h1 : (Lit.int .i64 l).wf = true) (w : World) (hT : Tab w) (hR : RTab w) :
    Calls Tryd.prog 6 #[.int .i64 a, .int .i64 l] w (Ret (.bool true) w) := by
  obtain ⟨ha, ha'⟩ := wfI3 h0
  by_cases hl : FarT l
  · exact vecs_far a l w hT hl
  · exact vecs_near a l w hT hR ha ha' hl

end Go.Proofs.YtbmjijllfiokkaaDoor
