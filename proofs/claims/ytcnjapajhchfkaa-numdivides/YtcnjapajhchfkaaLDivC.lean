/- NumDivides, third part: the quotient does not fit. -/
import Derived.Test.YtcnjapajhchfkaaLDivA
import Derived.StillTailTactics
import Derived.Deep.RegionLaw
namespace Go.Proofs.Ytcnjapajhchfkaa
open Go.RowKit
set_option linter.unusedVariables false

set_option maxHeartbeats 4000000 in
theorem divides_over0 (a b q y : Int) (w : World) (ha : -9223372036854775808 ≤ a) (ha' : a ≤ 9223372036854775807) (hb : -9223372036854775808 ≤ b) (hb' : b ≤ 9223372036854775807) (hbz : (b == 0) = false)
    (HQ : Hid (q = qV a b ∧ 8 = qE a b ∧ y = mV a b ∧ mE a b = 0)) (HR : Hid (RestH a b y)) (hy : (y != 0) = false) :
    Calls Try.prog 6 #[.int .i64 a, .int .i64 b] w (Ret (.bool true) w) := by
  have SP : Hid (Prod a) := by show Prod a; unfold Prod; omega
  have SW := Lib.hid (word64 hb hb')
  have SA := Lib.hid (small64 ha ha')
  have SB := Lib.hid (small64 hb hb')
  have SY := Lib.hid (small64 HR.out.lo HR.out.hi)
  have SYY := Lib.hid (small_prod (prod_mul HR.out.lo HR.out.hi HR.out.lo HR.out.hi))
  have SBB := Lib.hid (small_prod (prod_mul hb hb' hb hb'))
  have SAY : Hid (Small (a - y)) := (small_sum' ha ha' HR.out.lo HR.out.hi)
  have HCZ : Hid (cmpZ (a - y) (a - y) = 0) := by show cmpZ (a - y) (a - y) = 0; unfold cmpZ; rw [if_pos rfl]
  go_enter Try.func6, Try.ntmps6
  go_wp2_with fail
  refine (div_any _ _ _ ha ha' hb hb').mono ?_
  rw [← HQ.out.1, ← HQ.out.2.1]
  rintro e w1 ⟨rfl, b1⟩
  go_wp2_with fail
  refine (mod_any _ _ _ ha ha' hb hb').mono ?_
  rw [← HQ.out.2.2.1, HQ.out.2.2.2]
  rintro e w2 ⟨rfl, b2⟩
  go_wp2_with fail
  refine (of_any _ _ ha ha').mono ?_
  rintro e w3 ⟨v3, rfl, hv3, b3⟩
  have HV3 := Lib.hid hv3
  clear hv3
  go_wp2_with fail
  refine (of_any _ _ hb hb').mono ?_
  rintro e w4 ⟨v4, rfl, hv4, b4⟩
  have HV4 := Lib.hid hv4
  clear hv4
  go_wp2_with fail
  have hq := quot_true v3 v4 a b w4 (HV3.out.keep b4) HV4.out SP.out SW.out
  rw [← HQ.out.1, ← HQ.out.2.1] at hq
  refine hq.mono ?_
  clear hq
  rintro e w5 ⟨rfl, b5⟩
  have c2 := b1.trans (b2.mono b1.size)
  have c3 := c2.trans (b3.mono c2.size)
  have c4 := c3.trans (b4.mono c3.size)
  have c5 := c4.trans (b5.mono c4.size)
  clear b1 b2 b3 b4 b5 c2 c3 c4 HV3 HV4
  go_wp2_with fail
  refine (of_any _ _ ha ha').mono ?_
  rintro e w6 ⟨v6, rfl, hv6, b6⟩
  have HV6 := Lib.hid hv6
  clear hv6
  go_wp2_with fail
  refine (of_any _ _ HR.out.lo HR.out.hi).mono ?_
  rintro e w7 ⟨v7, rfl, hv7, b7⟩
  have HV7 := Lib.hid hv7
  clear hv7
  go_wp2_with fail
  refine (subB_any v6 v7 a y _ (HV6.out.keep b7) HV7.out SA.out SY.out).mono ?_
  rintro e w8 ⟨v8, rfl, hv8, b8⟩
  obtain ⟨A, ca, na, nx, rfl, _, _, _, HV8⟩ := hv8.letters
  have c6 := c5.trans (b6.mono c5.size)
  have c7 := c6.trans (b7.mono c6.size)
  have c8 := c7.trans (b8.mono c7.size)
  clear hv8 b6 b7 b8 c5 c6 c7 HV6 HV7
  go_wp2_with fail
  have b0 := Box1.mk1 w8 nx (.slice A na ca) 29
  refine (of_any _ _ HR.out.lo HR.out.hi).mono ?_
  rintro e w9 ⟨v9, rfl, hv9, b9⟩
  have HV9 := Lib.hid hv9
  clear hv9
  go_wp2_with fail
  refine (of_any _ _ HR.out.lo HR.out.hi).mono ?_
  rintro e w10 ⟨v10, rfl, hv10, b10⟩
  have HV10 := Lib.hid hv10
  clear hv10
  go_wp2_with fail
  refine (mulB_any v9 v10 y y _ (HV9.out.keep b10) HV10.out SY.out SY.out SYY.out).mono ?_
  rintro e w11 ⟨v11, rfl, hv11, b11⟩
  have HV11 := Lib.hid hv11
  clear hv11
  go_wp2_with fail
  refine (of_any _ _ hb hb').mono ?_
  rintro e w12 ⟨v12, rfl, hv12, b12⟩
  have HV12 := Lib.hid hv12
  clear hv12
  go_wp2_with fail
  refine (of_any _ _ hb hb').mono ?_
  rintro e w13 ⟨v13, rfl, hv13, b13⟩
  have HV13 := Lib.hid hv13
  clear hv13
  go_wp2_with fail
  refine (mulB_any v12 v13 b b _ (HV12.out.keep b13) HV13.out SB.out SB.out SBB.out).mono ?_
  rintro e w14 ⟨v14, rfl, hv14, b14⟩
  have HV14 := Lib.hid hv14
  clear hv14
  go_wp2_with fail
  refine (cmp_any v11 v14 (y * y) (b * b) _ (((HV11.out.keep b12).keep b13).keep b14) HV14.out SYY.out SBB.out).mono ?_
  rw [HR.out.sq]
  rintro e W ⟨rfl, b15⟩
  have HX := Lib.hid (((((((b0.keep b9).keep b10).keep b11).keep b12).keep b13).keep b14).keep b15)
  clear b0 b9 b10 b11 b12 b13 b14 b15 HV9 HV10 HV11 HV12 HV13 HV14
  go_wp2_with fail
  obtain ⟨c0, c1, _⟩ := HX.out
  refine wp_region_any (by kernel_rfl) ?_
  change wpAny _ _ _ _ _ _ _ (World.drew _)
  refine wpAny_take (i := 0) (v := .int .i64 8) rfl (by kernel_rfl) (by kernel_rfl) (by kernel_rfl) (fun _ _ _ h => h) (Or.inl ⟨by rfl, fun w => by go_simp⟩) ?_
  go_simp
  refine wpAny_take (i := 1) (v := .bool true) rfl (by kernel_rfl) (by kernel_rfl) (by kernel_rfl) (fun _ _ _ h => h) (Or.inl ⟨by rfl, fun w => by go_simp⟩) ?_
  go_simp
  refine wpAny_take (i := 2) (v := .bool true) rfl (by kernel_rfl) (by kernel_rfl) (by kernel_rfl) (fun _ _ _ h => h) (Or.inl ⟨by rfl, fun w => by go_simp⟩) ?_
  go_simp
  refine wpAny_take (i := 3) (v := undef) rfl (by kernel_rfl) (by kernel_rfl) (by kernel_rfl) (fun _ _ _ h => h) (Or.inr ⟨by rfl, rfl⟩) ?_
  go_simp
  refine wpAny_take (i := 4) (v := undef) rfl (by kernel_rfl) (by kernel_rfl) (by kernel_rfl) (fun _ _ _ h => h) (Or.inr ⟨by rfl, rfl⟩) ?_
  go_simp
  refine wpAny_take (i := 5) (v := undef) rfl (by kernel_rfl) (by kernel_rfl) (by kernel_rfl) (fun _ _ _ h => h) (Or.inr ⟨by rfl, rfl⟩) ?_
  go_simp
  refine wpAny_take (i := 6) (v := undef) rfl (by kernel_rfl) (by kernel_rfl) (by kernel_rfl) (fun _ _ _ h => h) (Or.inr ⟨by rfl, rfl⟩) ?_
  go_simp
  refine wpAny_take (i := 7) (v := undef) rfl (by kernel_rfl) (by kernel_rfl) (by kernel_rfl) (fun _ _ _ h => h) (Or.inr ⟨by rfl, rfl⟩) ?_
  go_simp
  refine wpAny_take (i := 8) (v := undef) rfl (by kernel_rfl) (by kernel_rfl) (by kernel_rfl) (fun _ _ _ h => h) (Or.inr ⟨by rfl, rfl⟩) ?_
  go_simp
  refine wpAny_take (i := 9) (v := undef) rfl (by kernel_rfl) (by kernel_rfl) (by kernel_rfl) (fun _ _ _ h => h) (Or.inr ⟨by rfl, rfl⟩) ?_
  go_simp
  refine wpAny_take (i := 10) (v := undef) rfl (by kernel_rfl) (by kernel_rfl) (by kernel_rfl) (fun _ _ _ h => h) (Or.inr ⟨by rfl, rfl⟩) ?_
  go_simp
  refine wpAny_take (i := 11) (v := .bool true) rfl (by kernel_rfl) (by kernel_rfl) (by kernel_rfl) (fun _ _ _ h => h) (Or.inl ⟨by rfl, fun w => by go_simp⟩) ?_
  go_simp
  refine wpAny_take (i := 12) (v := .bool true) rfl (by kernel_rfl) (by kernel_rfl) (by kernel_rfl) (fun _ _ _ h => h) (Or.inl ⟨by rfl, fun w => by go_simp⟩) ?_
  go_simp
  refine wpAny_ready (rs := [13]) (by kernel_rfl) (by simp) ?_
  refine AllReady.cons rfl (fun K hK => ?_) AllReady.nil
  go_simp
  refine (awake_any _).mono ?_
  rintro e w20 ⟨rfl, b20⟩
  have HB20 : Hid (Below W.heap.size W w20) := (Below.refl W.heap.size W).drew.trans b20
  clear b20
  refine hK _ _ ?_
  clear hK K
  go_simp
  refine wpAny_take (i := 14) (v := .bool true) rfl (by kernel_rfl) (by kernel_rfl) (by kernel_rfl) (fun _ _ _ h => h) (Or.inl ⟨by rfl, fun w => by go_simp⟩) ?_
  go_simp
  refine wpAny_take (i := 15) (v := .bool true) rfl (by kernel_rfl) (by kernel_rfl) (by kernel_rfl) (fun _ _ _ h => h) (Or.inl ⟨by rfl, fun w => by go_simp⟩) ?_
  go_simp
  refine wpAny_done (by kernel_rfl) ?_ _
  go_wp2
  go_ret
  exact Ret.mk rfl (c8.trans ((HX.out.keep HB20.out).below.mono c8.size))

set_option maxHeartbeats 4000000 in
theorem divides_over1 (a b q y : Int) (w : World) (ha : -9223372036854775808 ≤ a) (ha' : a ≤ 9223372036854775807) (hb : -9223372036854775808 ≤ b) (hb' : b ≤ 9223372036854775807) (hbz : (b == 0) = false)
    (HQ : Hid (q = qV a b ∧ 8 = qE a b ∧ y = mV a b ∧ mE a b = 0)) (HR : Hid (RestH a b y)) (hy : (y != 0) = true) (hs : (!decide (y < 0) == decide (b < 0)) = false) :
    Calls Try.prog 6 #[.int .i64 a, .int .i64 b] w (Ret (.bool true) w) := by
  have SP : Hid (Prod a) := by show Prod a; unfold Prod; omega
  have SW := Lib.hid (word64 hb hb')
  have SA := Lib.hid (small64 ha ha')
  have SB := Lib.hid (small64 hb hb')
  have SY := Lib.hid (small64 HR.out.lo HR.out.hi)
  have SYY := Lib.hid (small_prod (prod_mul HR.out.lo HR.out.hi HR.out.lo HR.out.hi))
  have SBB := Lib.hid (small_prod (prod_mul hb hb' hb hb'))
  have SAY : Hid (Small (a - y)) := (small_sum' ha ha' HR.out.lo HR.out.hi)
  have HCZ : Hid (cmpZ (a - y) (a - y) = 0) := by show cmpZ (a - y) (a - y) = 0; unfold cmpZ; rw [if_pos rfl]
  go_enter Try.func6, Try.ntmps6
  go_wp2_with fail
  refine (div_any _ _ _ ha ha' hb hb').mono ?_
  rw [← HQ.out.1, ← HQ.out.2.1]
  rintro e w1 ⟨rfl, b1⟩
  go_wp2_with fail
  refine (mod_any _ _ _ ha ha' hb hb').mono ?_
  rw [← HQ.out.2.2.1, HQ.out.2.2.2]
  rintro e w2 ⟨rfl, b2⟩
  go_wp2_with fail
  refine (of_any _ _ ha ha').mono ?_
  rintro e w3 ⟨v3, rfl, hv3, b3⟩
  have HV3 := Lib.hid hv3
  clear hv3
  go_wp2_with fail
  refine (of_any _ _ hb hb').mono ?_
  rintro e w4 ⟨v4, rfl, hv4, b4⟩
  have HV4 := Lib.hid hv4
  clear hv4
  go_wp2_with fail
  have hq := quot_true v3 v4 a b w4 (HV3.out.keep b4) HV4.out SP.out SW.out
  rw [← HQ.out.1, ← HQ.out.2.1] at hq
  refine hq.mono ?_
  clear hq
  rintro e w5 ⟨rfl, b5⟩
  have c2 := b1.trans (b2.mono b1.size)
  have c3 := c2.trans (b3.mono c2.size)
  have c4 := c3.trans (b4.mono c3.size)
  have c5 := c4.trans (b5.mono c4.size)
  clear b1 b2 b3 b4 b5 c2 c3 c4 HV3 HV4
  go_wp2_with fail
  refine (of_any _ _ ha ha').mono ?_
  rintro e w6 ⟨v6, rfl, hv6, b6⟩
  have HV6 := Lib.hid hv6
  clear hv6
  go_wp2_with fail
  refine (of_any _ _ HR.out.lo HR.out.hi).mono ?_
  rintro e w7 ⟨v7, rfl, hv7, b7⟩
  have HV7 := Lib.hid hv7
  clear hv7
  go_wp2_with fail
  refine (subB_any v6 v7 a y _ (HV6.out.keep b7) HV7.out SA.out SY.out).mono ?_
  rintro e w8 ⟨v8, rfl, hv8, b8⟩
  obtain ⟨A, ca, na, nx, rfl, _, _, _, HV8⟩ := hv8.letters
  have c6 := c5.trans (b6.mono c5.size)
  have c7 := c6.trans (b7.mono c6.size)
  have c8 := c7.trans (b8.mono c7.size)
  clear hv8 b6 b7 b8 c5 c6 c7 HV6 HV7
  go_wp2_with fail
  have b0 := Box1.mk1 w8 nx (.slice A na ca) 29
  refine (of_any _ _ HR.out.lo HR.out.hi).mono ?_
  rintro e w9 ⟨v9, rfl, hv9, b9⟩
  have HV9 := Lib.hid hv9
  clear hv9
  go_wp2_with fail
  refine (of_any _ _ HR.out.lo HR.out.hi).mono ?_
  rintro e w10 ⟨v10, rfl, hv10, b10⟩
  have HV10 := Lib.hid hv10
  clear hv10
  go_wp2_with fail
  refine (mulB_any v9 v10 y y _ (HV9.out.keep b10) HV10.out SY.out SY.out SYY.out).mono ?_
  rintro e w11 ⟨v11, rfl, hv11, b11⟩
  have HV11 := Lib.hid hv11
  clear hv11
  go_wp2_with fail
  refine (of_any _ _ hb hb').mono ?_
  rintro e w12 ⟨v12, rfl, hv12, b12⟩
  have HV12 := Lib.hid hv12
  clear hv12
  go_wp2_with fail
  refine (of_any _ _ hb hb').mono ?_
  rintro e w13 ⟨v13, rfl, hv13, b13⟩
  have HV13 := Lib.hid hv13
  clear hv13
  go_wp2_with fail
  refine (mulB_any v12 v13 b b _ (HV12.out.keep b13) HV13.out SB.out SB.out SBB.out).mono ?_
  rintro e w14 ⟨v14, rfl, hv14, b14⟩
  have HV14 := Lib.hid hv14
  clear hv14
  go_wp2_with fail
  refine (cmp_any v11 v14 (y * y) (b * b) _ (((HV11.out.keep b12).keep b13).keep b14) HV14.out SYY.out SBB.out).mono ?_
  rw [HR.out.sq]
  rintro e W ⟨rfl, b15⟩
  have HX := Lib.hid (((((((b0.keep b9).keep b10).keep b11).keep b12).keep b13).keep b14).keep b15)
  clear b0 b9 b10 b11 b12 b13 b14 b15 HV9 HV10 HV11 HV12 HV13 HV14
  go_wp2_with fail
  obtain ⟨c0, c1, _⟩ := HX.out
  refine wp_region_any (by kernel_rfl) ?_
  change wpAny _ _ _ _ _ _ _ (World.drew _)
  refine wpAny_take (i := 0) (v := .int .i64 8) rfl (by kernel_rfl) (by kernel_rfl) (by kernel_rfl) (fun _ _ _ h => h) (Or.inl ⟨by rfl, fun w => by go_simp⟩) ?_
  go_simp
  refine wpAny_take (i := 1) (v := .bool true) rfl (by kernel_rfl) (by kernel_rfl) (by kernel_rfl) (fun _ _ _ h => h) (Or.inl ⟨by rfl, fun w => by go_simp⟩) ?_
  go_simp
  refine wpAny_take (i := 2) (v := .bool true) rfl (by kernel_rfl) (by kernel_rfl) (by kernel_rfl) (fun _ _ _ h => h) (Or.inl ⟨by rfl, fun w => by go_simp⟩) ?_
  go_simp
  refine wpAny_take (i := 3) (v := undef) rfl (by kernel_rfl) (by kernel_rfl) (by kernel_rfl) (fun _ _ _ h => h) (Or.inr ⟨by rfl, rfl⟩) ?_
  go_simp
  refine wpAny_take (i := 4) (v := undef) rfl (by kernel_rfl) (by kernel_rfl) (by kernel_rfl) (fun _ _ _ h => h) (Or.inr ⟨by rfl, rfl⟩) ?_
  go_simp
  refine wpAny_take (i := 5) (v := undef) rfl (by kernel_rfl) (by kernel_rfl) (by kernel_rfl) (fun _ _ _ h => h) (Or.inr ⟨by rfl, rfl⟩) ?_
  go_simp
  refine wpAny_take (i := 6) (v := undef) rfl (by kernel_rfl) (by kernel_rfl) (by kernel_rfl) (fun _ _ _ h => h) (Or.inr ⟨by rfl, rfl⟩) ?_
  go_simp
  refine wpAny_take (i := 7) (v := undef) rfl (by kernel_rfl) (by kernel_rfl) (by kernel_rfl) (fun _ _ _ h => h) (Or.inr ⟨by rfl, rfl⟩) ?_
  go_simp
  refine wpAny_take (i := 8) (v := undef) rfl (by kernel_rfl) (by kernel_rfl) (by kernel_rfl) (fun _ _ _ h => h) (Or.inr ⟨by rfl, rfl⟩) ?_
  go_simp
  refine wpAny_take (i := 9) (v := undef) rfl (by kernel_rfl) (by kernel_rfl) (by kernel_rfl) (fun _ _ _ h => h) (Or.inr ⟨by rfl, rfl⟩) ?_
  go_simp
  refine wpAny_take (i := 10) (v := undef) rfl (by kernel_rfl) (by kernel_rfl) (by kernel_rfl) (fun _ _ _ h => h) (Or.inr ⟨by rfl, rfl⟩) ?_
  go_simp
  refine wpAny_take (i := 11) (v := .bool true) rfl (by kernel_rfl) (by kernel_rfl) (by kernel_rfl) (fun _ _ _ h => h) (Or.inl ⟨by rfl, fun w => by go_simp⟩) ?_
  go_simp
  refine wpAny_take (i := 12) (v := .bool true) rfl (by kernel_rfl) (by kernel_rfl) (by kernel_rfl) (fun _ _ _ h => h) (Or.inl ⟨by rfl, fun w => by go_simp⟩) ?_
  go_simp
  refine wpAny_ready (rs := [13]) (by kernel_rfl) (by simp) ?_
  refine AllReady.cons rfl (fun K hK => ?_) AllReady.nil
  go_simp
  refine (awake_any _).mono ?_
  rintro e w20 ⟨rfl, b20⟩
  have HB20 : Hid (Below W.heap.size W w20) := (Below.refl W.heap.size W).drew.trans b20
  clear b20
  refine hK _ _ ?_
  clear hK K
  go_simp
  refine wpAny_take (i := 14) (v := .bool true) rfl (by kernel_rfl) (by kernel_rfl) (by kernel_rfl) (fun _ _ _ h => h) (Or.inl ⟨by rfl, fun w => by go_simp⟩) ?_
  go_simp
  refine wpAny_take (i := 15) (v := .bool true) rfl (by kernel_rfl) (by kernel_rfl) (by kernel_rfl) (fun _ _ _ h => h) (Or.inl ⟨by rfl, fun w => by go_simp⟩) ?_
  go_simp
  refine wpAny_done (by kernel_rfl) ?_ _
  go_wp2
  go_ret
  exact Ret.mk rfl (c8.trans ((HX.out.keep HB20.out).below.mono c8.size))

end Go.Proofs.Ytcnjapajhchfkaa
