/- NumDivides, second part: the quotient fits. -/
import Derived.Test.YtcnjapajhchfkaaLDivA
namespace Go.Proofs.Ytcnjapajhchfkaa
open Go.RowKit
set_option linter.unusedVariables false

set_option maxHeartbeats 4000000 in
theorem divides_in0 (a b q y : Int) (w : World) (ha : -9223372036854775808 ≤ a) (ha' : a ≤ 9223372036854775807) (hb : -9223372036854775808 ≤ b) (hb' : b ≤ 9223372036854775807) (hbz : (b == 0) = false)
    (HQ : Hid (q = qV a b ∧ 0 = qE a b ∧ y = mV a b ∧ mE a b = 0)) (HR : Hid (RestH a b y)) (hy : (y != 0) = false) (HM : Hid (-9223372036854775808 ≤ q ∧ q ≤ 9223372036854775807 ∧ q * b = a - y)) :
    Calls Try.prog 6 #[.int .i64 a, .int .i64 b] w (Ret (.bool true) w) := by
  have SP : Hid (Prod a) := by show Prod a; unfold Prod; omega
  have SW := Lib.hid (word64 hb hb')
  have SA := Lib.hid (small64 ha ha')
  have SB := Lib.hid (small64 hb hb')
  have SY := Lib.hid (small64 HR.out.lo HR.out.hi)
  have SYY := Lib.hid (small_prod (prod_mul HR.out.lo HR.out.hi HR.out.lo HR.out.hi))
  have SBB := Lib.hid (small_prod (prod_mul hb hb' hb hb'))
  have SAY : Hid (Small (a - y)) := (small_sum' ha ha' HR.out.lo HR.out.hi)
  have HCZ : Hid (cmpZ (a - y) (a - y) = 0) := by show cmpZ (a - y) (a - y) = 0; unfold cmpZ; rw [if_pos rfl]
  go_enter Try.func6, Try.ntmps6
  go_wp2_with fail
  refine (div_any _ _ _ ha ha' hb hb').mono ?_
  rw [← HQ.out.1, ← HQ.out.2.1]
  rintro e w1 ⟨rfl, b1⟩
  go_wp2_with fail
  refine (mod_any _ _ _ ha ha' hb hb').mono ?_
  rw [← HQ.out.2.2.1, HQ.out.2.2.2]
  rintro e w2 ⟨rfl, b2⟩
  go_wp2_with fail
  refine (of_any _ _ ha ha').mono ?_
  rintro e w3 ⟨v3, rfl, hv3, b3⟩
  have HV3 := Lib.hid hv3
  clear hv3
  go_wp2_with fail
  refine (of_any _ _ hb hb').mono ?_
  rintro e w4 ⟨v4, rfl, hv4, b4⟩
  have HV4 := Lib.hid hv4
  clear hv4
  go_wp2_with fail
  have hq := quot_true v3 v4 a b w4 (HV3.out.keep b4) HV4.out SP.out SW.out
  rw [← HQ.out.1, ← HQ.out.2.1] at hq
  refine hq.mono ?_
  clear hq
  rintro e w5 ⟨rfl, b5⟩
  have c2 := b1.trans (b2.mono b1.size)
  have c3 := c2.trans (b3.mono c2.size)
  have c4 := c3.trans (b4.mono c3.size)
  have c5 := c4.trans (b5.mono c4.size)
  clear b1 b2 b3 b4 b5 c2 c3 c4 HV3 HV4
  go_wp2_with fail
  refine (of_any _ _ ha ha').mono ?_
  rintro e w6 ⟨v6, rfl, hv6, b6⟩
  have HV6 := Lib.hid hv6
  clear hv6
  go_wp2_with fail
  refine (of_any _ _ HR.out.lo HR.out.hi).mono ?_
  rintro e w7 ⟨v7, rfl, hv7, b7⟩
  have HV7 := Lib.hid hv7
  clear hv7
  go_wp2_with fail
  refine (subB_any v6 v7 a y _ (HV6.out.keep b7) HV7.out SA.out SY.out).mono ?_
  rintro e w8 ⟨v8, rfl, hv8, b8⟩
  obtain ⟨A, ca, na, nx, rfl, _, _, _, HV8⟩ := hv8.letters
  have c6 := c5.trans (b6.mono c5.size)
  have c7 := c6.trans (b7.mono c6.size)
  have c8 := c7.trans (b8.mono c7.size)
  clear hv8 b6 b7 b8 c5 c6 c7 HV6 HV7
  go_wp2_with fail
  have b0 := Box1.mk1 w8 nx (.slice A na ca) 29
  refine (of_any _ _ HR.out.lo HR.out.hi).mono ?_
  rintro e w9 ⟨v9, rfl, hv9, b9⟩
  have HV9 := Lib.hid hv9
  clear hv9
  go_wp2_with fail
  refine (of_any _ _ HR.out.lo HR.out.hi).mono ?_
  rintro e w10 ⟨v10, rfl, hv10, b10⟩
  have HV10 := Lib.hid hv10
  clear hv10
  go_wp2_with fail
  refine (mulB_any v9 v10 y y _ (HV9.out.keep b10) HV10.out SY.out SY.out SYY.out).mono ?_
  rintro e w11 ⟨v11, rfl, hv11, b11⟩
  have HV11 := Lib.hid hv11
  clear hv11
  go_wp2_with fail
  refine (of_any _ _ hb hb').mono ?_
  rintro e w12 ⟨v12, rfl, hv12, b12⟩
  have HV12 := Lib.hid hv12
  clear hv12
  go_wp2_with fail
  refine (of_any _ _ hb hb').mono ?_
  rintro e w13 ⟨v13, rfl, hv13, b13⟩
  have HV13 := Lib.hid hv13
  clear hv13
  go_wp2_with fail
  refine (mulB_any v12 v13 b b _ (HV12.out.keep b13) HV13.out SB.out SB.out SBB.out).mono ?_
  rintro e w14 ⟨v14, rfl, hv14, b14⟩
  have HV14 := Lib.hid hv14
  clear hv14
  go_wp2_with fail
  refine (cmp_any v11 v14 (y * y) (b * b) _ (((HV11.out.keep b12).keep b13).keep b14) HV14.out SYY.out SBB.out).mono ?_
  rw [HR.out.sq]
  rintro e W ⟨rfl, b15⟩
  have HX := Lib.hid (((((((b0.keep b9).keep b10).keep b11).keep b12).keep b13).keep b14).keep b15)
  clear b0 b9 b10 b11 b12 b13 b14 b15 HV9 HV10 HV11 HV12 HV13 HV14
  go_wp2_with fail
  obtain ⟨c0, c1, _⟩ := HX.out
  go_region_held3 (fun w' => w'.cell? ⟨w8.heap.size, 0, none⟩ = some (.bool nx) ∧ w'.cell? ⟨w8.heap.size, 1, none⟩ = some (.slice A na ca))
    (go_keep)
    (first
      | (go_at_call_of 14 (Value.int IntKind.i64 q); refine (of_any q _ HM.out.1 HM.out.2.1).mono ?_; rintro e w16 ⟨v16, rfl, hv16, b16⟩; have HB16 : Hid (Below W.heap.size W w16) := (Below.refl W.heap.size W).drew.trans b16; have HV16 := Lib.hid hv16; clear b16 hv16; obtain ⟨k0, k1, _⟩ := HX.out.keep HB16.out)
      | (go_at_call_of 14 (Value.int IntKind.i64 b); refine (of_any b _ hb hb').mono ?_; rintro e w17 ⟨v17, rfl, hv17, b17⟩; have HB17 : Hid (Below W.heap.size W w17) := HB16.out.trans (b17.mono HB16.out.size); have HV17 := Lib.hid hv17; have HV16' := Lib.hid (HV16.out.keep b17); clear b17 hv17; obtain ⟨k0, k1, _⟩ := HX.out.keep HB17.out)
      | (go_at_call 18; refine (mulB_any v16 v17 q b _ HV16'.out HV17.out (small64 HM.out.1 HM.out.2.1) SB.out (small_prod (prod_mul HM.out.1 HM.out.2.1 hb hb'))).mono ?_; rintro e w18 ⟨v18, rfl, hv18, b18⟩; rw [HM.out.2.2] at hv18; have HB18 : Hid (Below W.heap.size W w18) := HB17.out.trans (b18.mono HB17.out.size); have HV18 := Lib.hid hv18; clear b18 hv18; obtain ⟨k0, k1, _⟩ := HX.out.keep HB18.out)
      | (go_at_call 22; refine (cmp_any v18 _ (a - y) (a - y) _ HV18.out (HV8.out _ (HX.out.below.trans (HB18.out.mono HX.out.below.size))) SAY.out SAY.out).mono ?_; rw [HCZ.out]; rintro e w19 ⟨rfl, b19⟩; have HB19 : Hid (Below W.heap.size W w19) := HB18.out.trans (b19.mono HB18.out.size); clear b19; obtain ⟨k0, k1, _⟩ := HX.out.keep HB19.out)
      | (go_at_call 10; refine (awake_any _).mono ?_; rintro e w20 ⟨rfl, b20⟩; have HB20 : Hid (Below W.heap.size W w20) := HB19.out.trans (b20.mono HB19.out.size); clear b20; obtain ⟨k0, k1, _⟩ := HX.out.keep HB20.out))
  go_wp2
  go_ret
  exact Ret.mk rfl (c8.trans ((HX.out.keep HB20.out).below.mono c8.size))

set_option maxHeartbeats 4000000 in
theorem divides_in1 (a b q y : Int) (w : World) (ha : -9223372036854775808 ≤ a) (ha' : a ≤ 9223372036854775807) (hb : -9223372036854775808 ≤ b) (hb' : b ≤ 9223372036854775807) (hbz : (b == 0) = false)
    (HQ : Hid (q = qV a b ∧ 0 = qE a b ∧ y = mV a b ∧ mE a b = 0)) (HR : Hid (RestH a b y)) (hy : (y != 0) = true) (hs : (!decide (y < 0) == decide (b < 0)) = false) (HM : Hid (-9223372036854775808 ≤ q ∧ q ≤ 9223372036854775807 ∧ q * b = a - y)) :
    Calls Try.prog 6 #[.int .i64 a, .int .i64 b] w (Ret (.bool true) w) := by
  have SP : Hid (Prod a) := by show Prod a; unfold Prod; omega
  have SW := Lib.hid (word64 hb hb')
  have SA := Lib.hid (small64 ha ha')
  have SB := Lib.hid (small64 hb hb')
  have SY := Lib.hid (small64 HR.out.lo HR.out.hi)
  have SYY := Lib.hid (small_prod (prod_mul HR.out.lo HR.out.hi HR.out.lo HR.out.hi))
  have SBB := Lib.hid (small_prod (prod_mul hb hb' hb hb'))
  have SAY : Hid (Small (a - y)) := (small_sum' ha ha' HR.out.lo HR.out.hi)
  have HCZ : Hid (cmpZ (a - y) (a - y) = 0) := by show cmpZ (a - y) (a - y) = 0; unfold cmpZ; rw [if_pos rfl]
  go_enter Try.func6, Try.ntmps6
  go_wp2_with fail
  refine (div_any _ _ _ ha ha' hb hb').mono ?_
  rw [← HQ.out.1, ← HQ.out.2.1]
  rintro e w1 ⟨rfl, b1⟩
  go_wp2_with fail
  refine (mod_any _ _ _ ha ha' hb hb').mono ?_
  rw [← HQ.out.2.2.1, HQ.out.2.2.2]
  rintro e w2 ⟨rfl, b2⟩
  go_wp2_with fail
  refine (of_any _ _ ha ha').mono ?_
  rintro e w3 ⟨v3, rfl, hv3, b3⟩
  have HV3 := Lib.hid hv3
  clear hv3
  go_wp2_with fail
  refine (of_any _ _ hb hb').mono ?_
  rintro e w4 ⟨v4, rfl, hv4, b4⟩
  have HV4 := Lib.hid hv4
  clear hv4
  go_wp2_with fail
  have hq := quot_true v3 v4 a b w4 (HV3.out.keep b4) HV4.out SP.out SW.out
  rw [← HQ.out.1, ← HQ.out.2.1] at hq
  refine hq.mono ?_
  clear hq
  rintro e w5 ⟨rfl, b5⟩
  have c2 := b1.trans (b2.mono b1.size)
  have c3 := c2.trans (b3.mono c2.size)
  have c4 := c3.trans (b4.mono c3.size)
  have c5 := c4.trans (b5.mono c4.size)
  clear b1 b2 b3 b4 b5 c2 c3 c4 HV3 HV4
  go_wp2_with fail
  refine (of_any _ _ ha ha').mono ?_
  rintro e w6 ⟨v6, rfl, hv6, b6⟩
  have HV6 := Lib.hid hv6
  clear hv6
  go_wp2_with fail
  refine (of_any _ _ HR.out.lo HR.out.hi).mono ?_
  rintro e w7 ⟨v7, rfl, hv7, b7⟩
  have HV7 := Lib.hid hv7
  clear hv7
  go_wp2_with fail
  refine (subB_any v6 v7 a y _ (HV6.out.keep b7) HV7.out SA.out SY.out).mono ?_
  rintro e w8 ⟨v8, rfl, hv8, b8⟩
  obtain ⟨A, ca, na, nx, rfl, _, _, _, HV8⟩ := hv8.letters
  have c6 := c5.trans (b6.mono c5.size)
  have c7 := c6.trans (b7.mono c6.size)
  have c8 := c7.trans (b8.mono c7.size)
  clear hv8 b6 b7 b8 c5 c6 c7 HV6 HV7
  go_wp2_with fail
  have b0 := Box1.mk1 w8 nx (.slice A na ca) 29
  refine (of_any _ _ HR.out.lo HR.out.hi).mono ?_
  rintro e w9 ⟨v9, rfl, hv9, b9⟩
  have HV9 := Lib.hid hv9
  clear hv9
  go_wp2_with fail
  refine (of_any _ _ HR.out.lo HR.out.hi).mono ?_
  rintro e w10 ⟨v10, rfl, hv10, b10⟩
  have HV10 := Lib.hid hv10
  clear hv10
  go_wp2_with fail
  refine (mulB_any v9 v10 y y _ (HV9.out.keep b10) HV10.out SY.out SY.out SYY.out).mono ?_
  rintro e w11 ⟨v11, rfl, hv11, b11⟩
  have HV11 := Lib.hid hv11
  clear hv11
  go_wp2_with fail
  refine (of_any _ _ hb hb').mono ?_
  rintro e w12 ⟨v12, rfl, hv12, b12⟩
  have HV12 := Lib.hid hv12
  clear hv12
  go_wp2_with fail
  refine (of_any _ _ hb hb').mono ?_
  rintro e w13 ⟨v13, rfl, hv13, b13⟩
  have HV13 := Lib.hid hv13
  clear hv13
  go_wp2_with fail
  refine (mulB_any v12 v13 b b _ (HV12.out.keep b13) HV13.out SB.out SB.out SBB.out).mono ?_
  rintro e w14 ⟨v14, rfl, hv14, b14⟩
  have HV14 := Lib.hid hv14
  clear hv14
  go_wp2_with fail
  refine (cmp_any v11 v14 (y * y) (b * b) _ (((HV11.out.keep b12).keep b13).keep b14) HV14.out SYY.out SBB.out).mono ?_
  rw [HR.out.sq]
  rintro e W ⟨rfl, b15⟩
  have HX := Lib.hid (((((((b0.keep b9).keep b10).keep b11).keep b12).keep b13).keep b14).keep b15)
  clear b0 b9 b10 b11 b12 b13 b14 b15 HV9 HV10 HV11 HV12 HV13 HV14
  go_wp2_with fail
  obtain ⟨c0, c1, _⟩ := HX.out
  go_region_held3 (fun w' => w'.cell? ⟨w8.heap.size, 0, none⟩ = some (.bool nx) ∧ w'.cell? ⟨w8.heap.size, 1, none⟩ = some (.slice A na ca))
    (go_keep)
    (first
      | (go_at_call_of 14 (Value.int IntKind.i64 q); refine (of_any q _ HM.out.1 HM.out.2.1).mono ?_; rintro e w16 ⟨v16, rfl, hv16, b16⟩; have HB16 : Hid (Below W.heap.size W w16) := (Below.refl W.heap.size W).drew.trans b16; have HV16 := Lib.hid hv16; clear b16 hv16; obtain ⟨k0, k1, _⟩ := HX.out.keep HB16.out)
      | (go_at_call_of 14 (Value.int IntKind.i64 b); refine (of_any b _ hb hb').mono ?_; rintro e w17 ⟨v17, rfl, hv17, b17⟩; have HB17 : Hid (Below W.heap.size W w17) := HB16.out.trans (b17.mono HB16.out.size); have HV17 := Lib.hid hv17; have HV16' := Lib.hid (HV16.out.keep b17); clear b17 hv17; obtain ⟨k0, k1, _⟩ := HX.out.keep HB17.out)
      | (go_at_call 18; refine (mulB_any v16 v17 q b _ HV16'.out HV17.out (small64 HM.out.1 HM.out.2.1) SB.out (small_prod (prod_mul HM.out.1 HM.out.2.1 hb hb'))).mono ?_; rintro e w18 ⟨v18, rfl, hv18, b18⟩; rw [HM.out.2.2] at hv18; have HB18 : Hid (Below W.heap.size W w18) := HB17.out.trans (b18.mono HB17.out.size); have HV18 := Lib.hid hv18; clear b18 hv18; obtain ⟨k0, k1, _⟩ := HX.out.keep HB18.out)
      | (go_at_call 22; refine (cmp_any v18 _ (a - y) (a - y) _ HV18.out (HV8.out _ (HX.out.below.trans (HB18.out.mono HX.out.below.size))) SAY.out SAY.out).mono ?_; rw [HCZ.out]; rintro e w19 ⟨rfl, b19⟩; have HB19 : Hid (Below W.heap.size W w19) := HB18.out.trans (b19.mono HB18.out.size); clear b19; obtain ⟨k0, k1, _⟩ := HX.out.keep HB19.out)
      | (go_at_call 10; refine (awake_any _).mono ?_; rintro e w20 ⟨rfl, b20⟩; have HB20 : Hid (Below W.heap.size W w20) := HB19.out.trans (b20.mono HB19.out.size); clear b20; obtain ⟨k0, k1, _⟩ := HX.out.keep HB20.out))
  go_wp2
  go_ret
  exact Ret.mk rfl (c8.trans ((HX.out.keep HB20.out).below.mono c8.size))

end Go.Proofs.Ytcnjapajhchfkaa
