/- The walk of FixLerps. -/
import Derived.Test.YtnneinjmdkoopaaAwake2
import Derived.Test.YtnneinjmdkoopaaRefFloor
namespace Go.Proofs.Ytnneinjmdkoopaa
open Go.RowKit
set_option linter.unusedVariables false

theorem small_dif {a b : Int} (ha : -9223372036854775808 ≤ a) (ha' : a ≤ 9223372036854775807) (hb : -9223372036854775808 ≤ b) (hb' : b ≤ 9223372036854775807) : Small (b - a) ∧ Small (a + b) := by
  unfold Small
  have h1 : (b - a).natAbs ≤ 18446744073709551616 := by omega
  have h2 : (a + b).natAbs ≤ 18446744073709551616 := by omega
  exact ⟨Nat.lt_of_le_of_lt h1 (by decide), Nat.lt_of_le_of_lt h2 (by decide)⟩
theorem small_times {a b : Int} (ha : -9223372036854775808 ≤ a) (ha' : a ≤ 9223372036854775807) (hb : -9223372036854775808 ≤ b) (hb' : b ≤ 9223372036854775807) : Small (a * b) := by
  unfold Small
  rw [Int.natAbs_mul]
  have h1 : a.natAbs ≤ 9223372036854775808 := by omega
  have h2 : b.natAbs ≤ 9223372036854775808 := by omega
  exact Nat.lt_of_le_of_lt (Nat.mul_le_mul h1 h2) (by decide)

set_option maxHeartbeats 1000000 in
theorem lerps_far (a b t : Int) (w : World) (ha : -9223372036854775808 ≤ a) (ha' : a ≤ 9223372036854775807) (hb : -9223372036854775808 ≤ b) (hb' : b ≤ 9223372036854775807) (ht : -9223372036854775808 ≤ t) (ht' : t ≤ 9223372036854775807) (hf : ¬ Fit (b - a)) :
    Calls Try.prog 5 #[.int .i64 a, .int .i64 b, .int .i64 t] w (Ret (.bool true) w) := by
  have HL : Hid (lerpV a b t = 0 ∧ lerpE a b t = 8) := ⟨if_neg (fun g => hf g.1), if_neg (fun g => hf g.1)⟩
  have HF : Hid (decide (Fit (b - a)) = false) := decide_eq_false hf
  have SA := Lib.hid (small64 ha ha')
  have SB := Lib.hid (small64 hb hb')
  have SD := Lib.hid (small_dif ha ha' hb hb').1
  clear hf
  go_enter Try.func5, Try.ntmps5
  go_wp2_with fail
  refine (lerp_any _ _ _ _ ha ha' hb hb' ht ht').mono ?_
  rw [HL.out.1, HL.out.2]
  rintro e w1 ⟨rfl, b1⟩
  go_wp2_with fail
  refine (of_any _ _ hb hb').mono ?_
  rintro e w2 ⟨v2, rfl, hv2, b2⟩
  have HV2 := Lib.hid hv2
  clear hv2
  go_wp2_with fail
  refine (of_any _ _ ha ha').mono ?_
  rintro e w3 ⟨v3, rfl, hv3, b3⟩
  have HV3 := Lib.hid hv3
  clear hv3
  go_wp2_with fail
  refine (subB_any v2 v3 b a _ (HV2.out.keep b3) HV3.out SB.out SA.out).mono ?_
  rintro e w4 ⟨v4, rfl, hv4, b4⟩
  obtain ⟨A, ca, na, nx, rfl, _, _, _, HV⟩ := hv4.letters
  clear hv4
  have c2 := b1.trans (b2.mono b1.size)
  have c3 := c2.trans (b3.mono c2.size)
  have c4 := Lib.hid (c3.trans (b4.mono c3.size))
  clear c2 c3 b1 b2 b3 b4
  go_wp2_with fail
  refine (fits_any _ (b - a) _ (HV.out _ ((Below.refl _ _).alloc (Nat.le_refl _) _)) SD.out).mono ?_
  rw [HF.out]
  rintro e w5 ⟨rfl, b5⟩
  have c5 := c4.out.trans (((Below.refl _ _).alloc (Nat.le_refl _) _ |>.trans (b5.mono (by simp))).mono c4.out.size)
  clear b5
  go_wp2_with fail
  refine (awake2_any _).mono ?_
  rintro e w9 ⟨rfl, b9⟩
  have HB : Hid (Below w.heap.size w w9) := c5.trans (b9.mono c5.size)
  clear c5 b9
  go_wp2
  go_ret
  exact Ret.mk rfl HB.out

set_option maxHeartbeats 2000000 in
theorem lerps_wide (a b t : Int) (w : World) (ha : -9223372036854775808 ≤ a) (ha' : a ≤ 9223372036854775807) (hb : -9223372036854775808 ≤ b) (hb' : b ≤ 9223372036854775807) (ht : -9223372036854775808 ≤ t) (ht' : t ≤ 9223372036854775807) (hf : Fit (b - a)) (hm : ¬ Fit ((b - a) * t / 65536)) :
    Calls Try.prog 5 #[.int .i64 a, .int .i64 b, .int .i64 t] w (Ret (.bool true) w) := by
  have HL : Hid (lerpV a b t = 0 ∧ lerpE a b t = 8) := ⟨if_neg (fun g => hm g.2), if_neg (fun g => hm g.2)⟩
  have HF : Hid (decide (Fit (b - a)) = true) := decide_eq_true hf
  have HM : Hid (decide (Fit ((b - a) * t / 65536)) = false ∧ rV ((b - a) * t / 65536) = 0) := ⟨decide_eq_false hm, rV_out hm⟩
  have SA := Lib.hid (small64 ha ha')
  have SB := Lib.hid (small64 hb hb')
  have ST := Lib.hid (small64 ht ht')
  have SD := Lib.hid (small_dif ha ha' hb hb').1
  have SM := Lib.hid (small_times hf.1 hf.2 ht ht')
  have S0 : Hid (Small 0) := small64 (by decide) (by decide)
  clear hf hm
  go_enter Try.func5, Try.ntmps5
  go_wp2_with fail
  refine (lerp_any _ _ _ _ ha ha' hb hb' ht ht').mono ?_
  rw [HL.out.1, HL.out.2]
  rintro e w1 ⟨rfl, b1⟩
  go_wp2_with fail
  refine (of_any _ _ hb hb').mono ?_
  rintro e w2 ⟨v2, rfl, hv2, b2⟩
  have HV2 := Lib.hid hv2
  clear hv2
  go_wp2_with fail
  refine (of_any _ _ ha ha').mono ?_
  rintro e w3 ⟨v3, rfl, hv3, b3⟩
  have HV3 := Lib.hid hv3
  clear hv3
  go_wp2_with fail
  refine (subB_any v2 v3 b a _ (HV2.out.keep b3) HV3.out SB.out SA.out).mono ?_
  rintro e w4 ⟨v4, rfl, hv4, b4⟩
  obtain ⟨A, ca, na, nx, rfl, _, _, _, HV⟩ := hv4.letters
  clear hv4
  have c2 := b1.trans (b2.mono b1.size)
  have c3 := c2.trans (b3.mono c2.size)
  have c4 := Lib.hid (c3.trans (b4.mono c3.size))
  clear c2 c3 b1 b2 b3 b4
  go_wp2_with fail
  have hX0 := Box1.mk1 w4 nx (.slice A na ca) 28
  refine (fits_any _ (b - a) _ (HV.out _ hX0.below) SD.out).mono ?_
  rw [HF.out]
  rintro e W ⟨rfl, b5⟩
  have hX := hX0.keep b5
  have HX := Lib.hid hX
  obtain ⟨k0, k1, _⟩ := hX
  clear b5 hX0
  go_wp2_with fail
  go_region_held3 (fun w' => w'.cell? ⟨w4.heap.size, 0, none⟩ = some (.bool nx) ∧ w'.cell? ⟨w4.heap.size, 1, none⟩ = some (.slice A na ca))
    (go_keep)
    (first
      | (go_at_call 13; refine (of_any t _ ht ht').mono ?_; rintro e w6 ⟨v6, rfl, hbig6, hb6⟩; have HB6 : Hid (Below W.heap.size W w6) := (Below.refl W.heap.size W).drew.trans hb6; have HV6 := Lib.hid hbig6; clear hb6 hbig6; obtain ⟨k0, k1, _⟩ := HX.out.keep HB6.out)
      | (go_at_call 20; refine (mulB_any _ v6 (b - a) t _ (HV.out _ (HX.out.keep HB6.out).below) HV6.out SD.out ST.out SM.out).mono ?_; rintro e w7 ⟨v7, rfl, hbig7, hb7⟩; have HB7 : Hid (Below W.heap.size W w7) := HB6.out.trans (hb7.mono HB6.out.size); have HV7 := Lib.hid hbig7; clear hb7 hbig7; obtain ⟨k0, k1, _⟩ := HX.out.keep HB7.out)
      | (go_at_call 19; refine (refFloor_any v7 ((b - a) * t) _ HV7.out SM.out).mono ?_; rw [HM.out.1, HM.out.2]; rintro e w8 ⟨rfl, hb8⟩; have HB8 : Hid (Below W.heap.size W w8) := HB7.out.trans (hb8.mono HB7.out.size); clear hb8; obtain ⟨k0, k1, _⟩ := HX.out.keep HB8.out))
  have c8 := Lib.hid (c4.out.trans ((HX.out.keep HB8.out).below.mono c4.out.size))
  go_wp2_with fail
  refine (of_any _ _ ha ha').mono ?_
  rintro e w9 ⟨v9, rfl, hv9, b9⟩
  have HV9 := Lib.hid hv9
  clear hv9
  go_wp2_with fail
  refine (of_any _ _ (by omega) (by omega)).mono ?_
  rintro e w10 ⟨v10, rfl, hv10, b10⟩
  have HV10 := Lib.hid hv10
  clear hv10
  go_wp2_with fail
  refine (addB_any v9 v10 a 0 _ (HV9.out.keep b10) HV10.out SA.out S0.out).mono ?_
  rintro e w11 ⟨v11, rfl, hv11, b11⟩
  obtain ⟨A2, ca2, na2, nx2, rfl, _, _, _, HV11⟩ := hv11.letters
  clear hv11
  have c9 := c8.out.trans (b9.mono c8.out.size)
  have c10 := c9.trans (b10.mono c9.size)
  have c11 := Lib.hid (c10.trans (b11.mono c10.size))
  clear c9 c10 b9 b10 b11
  have hbx : Below w.heap.size w (w11.alloc (Obj.cells #[Value.bool nx2, Value.slice A2 na2 ca2] 28)) := c11.out.alloc (by have := c11.out.size; omega) _
  have c12 := Lib.hid hbx
  clear hbx
  go_wp2_with fail
  refine (awake2_any _).mono ?_
  rintro e w20 ⟨rfl, b20⟩
  have HB : Hid (Below w.heap.size w w20) := c12.out.trans (b20.mono c12.out.size)
  clear b20
  go_wp2
  go_ret
  exact Ret.mk rfl HB.out

set_option maxHeartbeats 2000000 in
theorem lerps_high (a b t : Int) (w : World) (ha : -9223372036854775808 ≤ a) (ha' : a ≤ 9223372036854775807) (hb : -9223372036854775808 ≤ b) (hb' : b ≤ 9223372036854775807) (ht : -9223372036854775808 ≤ t) (ht' : t ≤ 9223372036854775807) (hf : Fit (b - a)) (hm : Fit ((b - a) * t / 65536)) (hs : ¬ Fit (a + (b - a) * t / 65536)) :
    Calls Try.prog 5 #[.int .i64 a, .int .i64 b, .int .i64 t] w (Ret (.bool true) w) := by
  have HL : Hid (lerpV a b t = 0 ∧ lerpE a b t = 8) := by
    have e1 : lerpV a b t = rV (a + (b - a) * t / 65536) := if_pos ⟨hf, hm⟩
    have e2 : lerpE a b t = rE (a + (b - a) * t / 65536) := if_pos ⟨hf, hm⟩
    exact ⟨e1.trans (rV_out hs), e2.trans (rE_out hs)⟩
  have HS : Hid (decide (Fit (a + (b - a) * t / 65536)) = false) := decide_eq_false hs
  have HF : Hid (decide (Fit (b - a)) = true) := decide_eq_true hf
  have HM : Hid (decide (Fit ((b - a) * t / 65536)) = true ∧ rV ((b - a) * t / 65536) = (b - a) * t / 65536) := ⟨decide_eq_true hm, rV_in hm⟩
  have SA := Lib.hid (small64 ha ha')
  have SB := Lib.hid (small64 hb hb')
  have ST := Lib.hid (small64 ht ht')
  have SD := Lib.hid (small_dif ha ha' hb hb').1
  have SM := Lib.hid (small_times hf.1 hf.2 ht ht')
  have SS := Lib.hid (small_dif ha ha' hm.1 hm.2).2
  have S0 := Lib.hid (small64 hm.1 hm.2)
  obtain ⟨m0, m1⟩ := hm
  clear hf hs
  generalize hg : (b - a) * t / 65536 = m at HS S0 SS m0 m1
  have HG := Lib.hid hg
  clear hg
  go_enter Try.func5, Try.ntmps5
  go_wp2_with fail
  refine (lerp_any _ _ _ _ ha ha' hb hb' ht ht').mono ?_
  rw [HL.out.1, HL.out.2]
  rintro e w1 ⟨rfl, b1⟩
  go_wp2_with fail
  refine (of_any _ _ hb hb').mono ?_
  rintro e w2 ⟨v2, rfl, hv2, b2⟩
  have HV2 := Lib.hid hv2
  clear hv2
  go_wp2_with fail
  refine (of_any _ _ ha ha').mono ?_
  rintro e w3 ⟨v3, rfl, hv3, b3⟩
  have HV3 := Lib.hid hv3
  clear hv3
  go_wp2_with fail
  refine (subB_any v2 v3 b a _ (HV2.out.keep b3) HV3.out SB.out SA.out).mono ?_
  rintro e w4 ⟨v4, rfl, hv4, b4⟩
  obtain ⟨A, ca, na, nx, rfl, _, _, _, HV⟩ := hv4.letters
  clear hv4
  have c2 := b1.trans (b2.mono b1.size)
  have c3 := c2.trans (b3.mono c2.size)
  have c4 := Lib.hid (c3.trans (b4.mono c3.size))
  clear c2 c3 b1 b2 b3 b4
  go_wp2_with fail
  have hX0 := Box1.mk1 w4 nx (.slice A na ca) 28
  refine (fits_any _ (b - a) _ (HV.out _ hX0.below) SD.out).mono ?_
  rw [HF.out]
  rintro e W ⟨rfl, b5⟩
  have hX := hX0.keep b5
  have HX := Lib.hid hX
  obtain ⟨k0, k1, _⟩ := hX
  clear b5 hX0
  go_wp2_with fail
  go_region_held3 (fun w' => w'.cell? ⟨w4.heap.size, 0, none⟩ = some (.bool nx) ∧ w'.cell? ⟨w4.heap.size, 1, none⟩ = some (.slice A na ca))
    (go_keep)
    (first
      | (go_at_call 13; refine (of_any t _ ht ht').mono ?_; rintro e w6 ⟨v6, rfl, hbig6, hb6⟩; have HB6 : Hid (Below W.heap.size W w6) := (Below.refl W.heap.size W).drew.trans hb6; have HV6 := Lib.hid hbig6; clear hb6 hbig6; obtain ⟨k0, k1, _⟩ := HX.out.keep HB6.out)
      | (go_at_call 20; refine (mulB_any _ v6 (b - a) t _ (HV.out _ (HX.out.keep HB6.out).below) HV6.out SD.out ST.out SM.out).mono ?_; rintro e w7 ⟨v7, rfl, hbig7, hb7⟩; have HB7 : Hid (Below W.heap.size W w7) := HB6.out.trans (hb7.mono HB6.out.size); have HV7 := Lib.hid hbig7; clear hb7 hbig7; obtain ⟨k0, k1, _⟩ := HX.out.keep HB7.out)
      | (go_at_call 19; refine (refFloor_any v7 ((b - a) * t) _ HV7.out SM.out).mono ?_; rw [HM.out.1, HM.out.2, HG.out]; rintro e w8 ⟨rfl, hb8⟩; have HB8 : Hid (Below W.heap.size W w8) := HB7.out.trans (hb8.mono HB7.out.size); clear hb8; obtain ⟨k0, k1, _⟩ := HX.out.keep HB8.out))
  have c8 := Lib.hid (c4.out.trans ((HX.out.keep HB8.out).below.mono c4.out.size))
  go_wp2_with fail
  refine (of_any _ _ ha ha').mono ?_
  rintro e w9 ⟨v9, rfl, hv9, b9⟩
  have HV9 := Lib.hid hv9
  clear hv9
  go_wp2_with fail
  refine (of_any _ _ m0 m1).mono ?_
  rintro e w10 ⟨v10, rfl, hv10, b10⟩
  have HV10 := Lib.hid hv10
  clear hv10
  go_wp2_with fail
  refine (addB_any v9 v10 a m _ (HV9.out.keep b10) HV10.out SA.out S0.out).mono ?_
  rintro e w11 ⟨v11, rfl, hv11, b11⟩
  obtain ⟨A2, ca2, na2, nx2, rfl, _, _, _, HV11⟩ := hv11.letters
  clear hv11
  have c9 := c8.out.trans (b9.mono c8.out.size)
  have c10 := c9.trans (b10.mono c9.size)
  have c11 := Lib.hid (c10.trans (b11.mono c10.size))
  clear c9 c10 b9 b10 b11
  go_wp2_with fail
  have hX2 := Box1.mk1 w11 nx2 (.slice A2 na2 ca2) 28
  refine (fits_any _ (a + m) _ (HV11.out _ hX2.below) SS.out).mono ?_
  rw [HS.out]
  rintro e w12 ⟨rfl, b12⟩
  have hY2 := hX2.keep b12
  have HX2 := Lib.hid hY2
  obtain ⟨j0, j1, _⟩ := hY2
  clear b12 hX2
  have c12 := Lib.hid (c11.out.trans (HX2.out.below.mono c11.out.size))
  go_wp2_with fail
  refine (awake2_any _).mono ?_
  rintro e w20 ⟨rfl, b20⟩
  have HB : Hid (Below w.heap.size w w20) := c12.out.trans (b20.mono c12.out.size)
  clear b20
  go_wp2
  go_ret
  exact Ret.mk rfl HB.out

set_option maxHeartbeats 2000000 in
theorem lerps_in (a b t : Int) (w : World) (ha : -9223372036854775808 ≤ a) (ha' : a ≤ 9223372036854775807) (hb : -9223372036854775808 ≤ b) (hb' : b ≤ 9223372036854775807) (ht : -9223372036854775808 ≤ t) (ht' : t ≤ 9223372036854775807) (hf : Fit (b - a)) (hm : Fit ((b - a) * t / 65536)) (hs : Fit (a + (b - a) * t / 65536)) :
    Calls Try.prog 5 #[.int .i64 a, .int .i64 b, .int .i64 t] w (Ret (.bool true) w) := by
  have HL : Hid (lerpV a b t = a + (b - a) * t / 65536 ∧ lerpE a b t = 0) := by
    have e1 : lerpV a b t = rV (a + (b - a) * t / 65536) := if_pos ⟨hf, hm⟩
    have e2 : lerpE a b t = rE (a + (b - a) * t / 65536) := if_pos ⟨hf, hm⟩
    exact ⟨e1.trans (rV_in hs), e2.trans (rE_in hs)⟩
  have HS : Hid (decide (Fit (a + (b - a) * t / 65536)) = true) := decide_eq_true hs
  have HSF := Lib.hid hs
  have HC : Hid ((cmpZ (a + (b - a) * t / 65536) (a + (b - a) * t / 65536) == 0) = true) := by show (cmpZ _ _ == 0) = true; unfold cmpZ; simp
  have HF : Hid (decide (Fit (b - a)) = true) := decide_eq_true hf
  have HM : Hid (decide (Fit ((b - a) * t / 65536)) = true ∧ rV ((b - a) * t / 65536) = (b - a) * t / 65536) := ⟨decide_eq_true hm, rV_in hm⟩
  have SA := Lib.hid (small64 ha ha')
  have SB := Lib.hid (small64 hb hb')
  have ST := Lib.hid (small64 ht ht')
  have SD := Lib.hid (small_dif ha ha' hb hb').1
  have SM := Lib.hid (small_times hf.1 hf.2 ht ht')
  have SS := Lib.hid (small_dif ha ha' hm.1 hm.2).2
  have S0 := Lib.hid (small64 hm.1 hm.2)
  obtain ⟨m0, m1⟩ := hm
  clear hf hs
  generalize hg : (b - a) * t / 65536 = m at HS HSF HC HL S0 SS m0 m1
  have HG := Lib.hid hg
  clear hg
  go_enter Try.func5, Try.ntmps5
  go_wp2_with fail
  refine (lerp_any _ _ _ _ ha ha' hb hb' ht ht').mono ?_
  rw [HL.out.1, HL.out.2]
  rintro e w1 ⟨rfl, b1⟩
  go_wp2_with fail
  refine (of_any _ _ hb hb').mono ?_
  rintro e w2 ⟨v2, rfl, hv2, b2⟩
  have HV2 := Lib.hid hv2
  clear hv2
  go_wp2_with fail
  refine (of_any _ _ ha ha').mono ?_
  rintro e w3 ⟨v3, rfl, hv3, b3⟩
  have HV3 := Lib.hid hv3
  clear hv3
  go_wp2_with fail
  refine (subB_any v2 v3 b a _ (HV2.out.keep b3) HV3.out SB.out SA.out).mono ?_
  rintro e w4 ⟨v4, rfl, hv4, b4⟩
  obtain ⟨A, ca, na, nx, rfl, _, _, _, HV⟩ := hv4.letters
  clear hv4
  have c2 := b1.trans (b2.mono b1.size)
  have c3 := c2.trans (b3.mono c2.size)
  have c4 := Lib.hid (c3.trans (b4.mono c3.size))
  clear c2 c3 b1 b2 b3 b4
  go_wp2_with fail
  have hX0 := Box1.mk1 w4 nx (.slice A na ca) 28
  refine (fits_any _ (b - a) _ (HV.out _ hX0.below) SD.out).mono ?_
  rw [HF.out]
  rintro e W ⟨rfl, b5⟩
  have hX := hX0.keep b5
  have HX := Lib.hid hX
  obtain ⟨k0, k1, _⟩ := hX
  clear b5 hX0
  go_wp2_with fail
  go_region_held3 (fun w' => w'.cell? ⟨w4.heap.size, 0, none⟩ = some (.bool nx) ∧ w'.cell? ⟨w4.heap.size, 1, none⟩ = some (.slice A na ca))
    (go_keep)
    (first
      | (go_at_call 13; refine (of_any t _ ht ht').mono ?_; rintro e w6 ⟨v6, rfl, hbig6, hb6⟩; have HB6 : Hid (Below W.heap.size W w6) := (Below.refl W.heap.size W).drew.trans hb6; have HV6 := Lib.hid hbig6; clear hb6 hbig6; obtain ⟨k0, k1, _⟩ := HX.out.keep HB6.out)
      | (go_at_call 20; refine (mulB_any _ v6 (b - a) t _ (HV.out _ (HX.out.keep HB6.out).below) HV6.out SD.out ST.out SM.out).mono ?_; rintro e w7 ⟨v7, rfl, hbig7, hb7⟩; have HB7 : Hid (Below W.heap.size W w7) := HB6.out.trans (hb7.mono HB6.out.size); have HV7 := Lib.hid hbig7; clear hb7 hbig7; obtain ⟨k0, k1, _⟩ := HX.out.keep HB7.out)
      | (go_at_call 19; refine (refFloor_any v7 ((b - a) * t) _ HV7.out SM.out).mono ?_; rw [HM.out.1, HM.out.2, HG.out]; rintro e w8 ⟨rfl, hb8⟩; have HB8 : Hid (Below W.heap.size W w8) := HB7.out.trans (hb8.mono HB7.out.size); clear hb8; obtain ⟨k0, k1, _⟩ := HX.out.keep HB8.out))
  have c8 := Lib.hid (c4.out.trans ((HX.out.keep HB8.out).below.mono c4.out.size))
  go_wp2_with fail
  refine (of_any _ _ ha ha').mono ?_
  rintro e w9 ⟨v9, rfl, hv9, b9⟩
  have HV9 := Lib.hid hv9
  clear hv9
  go_wp2_with fail
  refine (of_any _ _ m0 m1).mono ?_
  rintro e w10 ⟨v10, rfl, hv10, b10⟩
  have HV10 := Lib.hid hv10
  clear hv10
  go_wp2_with fail
  refine (addB_any v9 v10 a m _ (HV9.out.keep b10) HV10.out SA.out S0.out).mono ?_
  rintro e w11 ⟨v11, rfl, hv11, b11⟩
  obtain ⟨A2, ca2, na2, nx2, rfl, _, _, _, HV11⟩ := hv11.letters
  clear hv11
  have c9 := c8.out.trans (b9.mono c8.out.size)
  have c10 := c9.trans (b10.mono c9.size)
  have c11 := Lib.hid (c10.trans (b11.mono c10.size))
  clear c9 c10 b9 b10 b11
  go_wp2_with fail
  have hX2 := Box1.mk1 w11 nx2 (.slice A2 na2 ca2) 28
  refine (fits_any _ (a + m) _ (HV11.out _ hX2.below) SS.out).mono ?_
  rw [HS.out]
  rintro e w12 ⟨rfl, b12⟩
  have hY2 := hX2.keep b12
  have HX2 := Lib.hid hY2
  obtain ⟨j0, j1, _⟩ := hY2
  clear b12 hX2
  have c12 := Lib.hid (c11.out.trans (HX2.out.below.mono c11.out.size))
  go_wp2_with fail
  refine (is_any _ (a + m) (a + m) _ (HV11.out _ HX2.out.below) SS.out HSF.out.1 HSF.out.2).mono ?_
  rw [HC.out]
  rintro e w13 ⟨rfl, b13⟩
  have c13 := Lib.hid (c12.out.trans (b13.mono c12.out.size))
  clear b13
  go_wp2_with fail
  refine (awake2_any _).mono ?_
  rintro e w20 ⟨rfl, b20⟩
  have HB : Hid (Below w.heap.size w w20) := c13.out.trans (b20.mono c13.out.size)
  clear b20
  go_wp2
  go_ret
  exact Ret.mk rfl HB.out

theorem walk_FixLerps (a b t : Int) (h0 : (Lit.int .i64 a).wf = true) (h1 : (Lit.int .i64 b).wf = true) (h2 : (Lit.int .i64 t).wf = true) (w : World) :
    Calls Try.prog 5 #[.int .i64 a, .int .i64 b, .int .i64 t] w (Ret (.bool true) w) := by
  obtain ⟨ha, ha'⟩ := wfI h0
  obtain ⟨hb, hb'⟩ := wfI h1
  obtain ⟨ht, ht'⟩ := wfI h2
  by_cases hf : Fit (b - a)
  · by_cases hm : Fit ((b - a) * t / 65536)
    · by_cases hs : Fit (a + (b - a) * t / 65536)
      · exact lerps_in a b t w ha ha' hb hb' ht ht' hf hm hs
      · exact lerps_high a b t w ha ha' hb hb' ht ht' hf hm hs
    · exact lerps_wide a b t w ha ha' hb hb' ht ht' hf hm
  · exact lerps_far a b t w ha ha' hb hb' ht ht' hf

end Go.Proofs.Ytnneinjmdkoopaa
