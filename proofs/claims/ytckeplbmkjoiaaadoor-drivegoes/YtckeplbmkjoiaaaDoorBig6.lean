/- Contracts of the reference's numbers without end, sixth part: Fits. -/
import Derived.Test.YtckeplbmkjoiaaaDoorBig5
import Derived.Deep.RegionWith
namespace Go.Proofs.YtckeplbmkjoiaaaDoor
open Go.RowKit
set_option linter.unusedVariables false

theorem cmpZ_lt {x y : Int} (h : x < y) : cmpZ x y = -1 := by unfold cmpZ; rw [if_neg (by omega), if_pos h]
theorem cmpZ_ge {x y : Int} (h : y ≤ x) : 0 ≤ cmpZ x y := by unfold cmpZ; split <;> (try split) <;> omega
theorem cmpZ_le {x y : Int} (h : x ≤ y) : cmpZ x y ≤ 0 := by unfold cmpZ; split <;> (try split) <;> omega
theorem cmpZ_gt {x y : Int} (h : y < x) : cmpZ x y = 1 := by unfold cmpZ; rw [if_neg (by omega), if_neg (by omega)]

set_option maxHeartbeats 2000000 in
theorem fits_low (v : Value) (x : Int) (w : World) (hv : BigIs w v x) (hx : Small x) (hl : x < -9223372036854775808) :
    Calls Tryd.prog 51 #[v] w (Ret (.bool false) w) := by
  obtain ⟨A, c, na, nx, rfl, _, _, _, HV⟩ := hv.letters
  have SX := Lib.hid hx
  have SB := Lib.hid (small64 (a := -9223372036854775808) (by omega) (by omega))
  have HC := Lib.hid (cmpZ_lt hl)
  clear hx hv hl
  go_enter Tryd.func51, Tryd.ntmps51
  go_wp2_with fail
  have hX := Box1.mk1 w nx (.slice A na c) 59
  generalize w.alloc (Obj.cells #[Value.bool nx, Value.slice A na c] 59) = W at hX ⊢
  have HX := Lib.hid hX
  obtain ⟨c0, c1, _⟩ := hX
  go_region_with
    (first
      | (go_at_call 37; refine (of_any _ _ (by omega) (by omega)).mono ?_; rintro e w1 ⟨v1, rfl, hbig1, hb1'⟩; have HB1 : Hid (Below W.heap.size W w1) := (Below.refl W.heap.size W).drew.trans hb1'; clear hb1'; have HV1 := Lib.hid hbig1; clear hbig1; obtain ⟨k0, k1, _⟩ := HX.out.keep HB1.out)
      | (go_at_call 59; refine (cmp_any _ v1 x _ _ (HV.out _ (HX.out.below.trans (HB1.out.mono HX.out.below.size))) HV1.out SX.out SB.out).mono ?_; rw [HC.out]; rintro e w2 ⟨rfl, hb2'⟩; have HB2 : Hid (Below W.heap.size W w2) := HB1.out.trans (hb2'.mono HB1.out.size); clear hb2'; obtain ⟨k0, k1, _⟩ := HX.out.keep HB2.out))
  all_goals (try go_wp2)
  all_goals go_ret
  all_goals exact Ret.mk rfl (HX.out.below.trans (HB2.out.mono HX.out.below.size))

set_option maxHeartbeats 2000000 in
theorem fits_rest (v : Value) (x : Int) (w : World) (hv : BigIs w v x) (hx : Small x) (hl : -9223372036854775808 ≤ x) :
    Calls Tryd.prog 51 #[v] w (Ret (.bool (decide (cmpZ x 9223372036854775807 ≤ 0))) w) := by
  obtain ⟨A, c, na, nx, rfl, _, _, _, HV⟩ := hv.letters
  have SX := Lib.hid hx
  have SB := Lib.hid (small64 (a := -9223372036854775808) (by omega) (by omega))
  have SC := Lib.hid (small64 (a := 9223372036854775807) (by omega) (by omega))
  have hge := cmpZ_ge hl
  generalize hcl : cmpZ x (-9223372036854775808) = cl at hge
  generalize hch : cmpZ x 9223372036854775807 = ch
  have HCL := Lib.hid hcl
  have HCH := Lib.hid hch
  clear hx hv hl hcl hch
  go_enter Tryd.func51, Tryd.ntmps51
  go_wp2_with fail
  have hX := Box1.mk1 w nx (.slice A na c) 59
  generalize w.alloc (Obj.cells #[Value.bool nx, Value.slice A na c] 59) = W at hX ⊢
  have HX := Lib.hid hX
  obtain ⟨c0, c1, _⟩ := hX
  go_region_with
    (first
      | (go_at_call 37; have hh := HB2; clear hh; refine (of_any 9223372036854775807 _ (by omega) (by omega)).mono ?_; rintro e w3 ⟨v3, rfl, hbig3, hb3'⟩; have HB3 : Hid (Below W.heap.size W w3) := HB2.out.trans (hb3'.mono HB2.out.size); clear hb3'; have HV3 := Lib.hid hbig3; clear hbig3; obtain ⟨k0, k1, _⟩ := HX.out.keep HB3.out)
      | (go_at_call 37; refine (of_any (-9223372036854775808) _ (by omega) (by omega)).mono ?_; rintro e w1 ⟨v1, rfl, hbig1, hb1'⟩; have HB1 : Hid (Below W.heap.size W w1) := (Below.refl W.heap.size W).drew.trans hb1'; clear hb1'; have HV1 := Lib.hid hbig1; clear hbig1; obtain ⟨k0, k1, _⟩ := HX.out.keep HB1.out)
      | (go_at_call 59; have hh := HB3; clear hh; refine (cmp_any _ v3 x _ _ (HV.out _ (HX.out.below.trans (HB3.out.mono HX.out.below.size))) HV3.out SX.out SC.out).mono ?_; rw [HCH.out]; rintro e w4 ⟨rfl, hb4'⟩; have HB4 : Hid (Below W.heap.size W w4) := HB3.out.trans (hb4'.mono HB3.out.size); clear hb4'; obtain ⟨k0, k1, _⟩ := HX.out.keep HB4.out)
      | (go_at_call 59; refine (cmp_any _ v1 x _ _ (HV.out _ (HX.out.below.trans (HB1.out.mono HX.out.below.size))) HV1.out SX.out SB.out).mono ?_; rw [HCL.out]; rintro e w2 ⟨rfl, hb2'⟩; have HB2 : Hid (Below W.heap.size W w2) := HB1.out.trans (hb2'.mono HB1.out.size); clear hb2'; obtain ⟨k0, k1, _⟩ := HX.out.keep HB2.out))
  all_goals (try go_wp2)
  all_goals go_ret
  all_goals exact Ret.mk rfl (HX.out.below.trans (HB4.out.mono HX.out.below.size))

theorem fits_any (v : Value) (x : Int) (w : World) (hv : BigIs w v x) (hx : Small x) :
    Calls Tryd.prog 51 #[v] w (Ret (.bool (decide (Fit x))) w) := by
  by_cases hl : x < -9223372036854775808
  · have : decide (Fit x) = false := decide_eq_false (by unfold Fit; omega)
    rw [this]
    exact fits_low v x w hv hx hl
  · have : decide (Fit x) = decide (cmpZ x 9223372036854775807 ≤ 0) := by
      by_cases h : x ≤ 9223372036854775807
      · have h2 := cmpZ_le h
        simp [Fit, h, h2]
        omega
      · have h2 := cmpZ_gt (x := x) (y := 9223372036854775807) (by omega)
        simp [Fit, h, h2]
    rw [this]
    exact fits_rest v x w hv hx (by omega)

end Go.Proofs.YtckeplbmkjoiaaaDoor
