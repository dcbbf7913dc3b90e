/- The law package's own 'quotient'. -/
import Derived.Test.YtcnjapajhchfkaaBig10
namespace Go.Proofs.Ytcnjapajhchfkaa
open Go.RowKit
set_option linter.unusedVariables false

theorem cmp_neg (x y : Int) : decide (cmpZ x y < 0) = decide (x < y) := by
  unfold cmpZ
  by_cases h : x = y
  · subst h; simp
  · rw [if_neg h]
    by_cases h2 : x < y <;> simp [h2]
theorem cmp_pos (x y : Int) : decide (0 ≤ cmpZ x y) = decide (y ≤ x) := by
  unfold cmpZ
  by_cases h : x = y
  · subst h; simp
  · rw [if_neg h]
    by_cases h2 : x < y
    · rw [if_pos h2, decide_eq_false (by omega), decide_eq_false (by omega)]
    · rw [if_neg h2, decide_eq_true (by omega), decide_eq_true (by omega)]
theorem fdiv_lt_iff {x y k : Int} (hy : 0 < y) : x.fdiv y < k ↔ x < k * y := by
  rw [Int.fdiv_eq_ediv_of_nonneg x (Int.le_of_lt hy)]
  exact Int.ediv_lt_iff_lt_mul hy
theorem le_fdiv_iff {x y k : Int} (hy : 0 < y) : k ≤ x.fdiv y ↔ k * y ≤ x := by
  rw [Int.fdiv_eq_ediv_of_nonneg x (Int.le_of_lt hy)]
  exact Int.le_ediv_iff_mul_le hy
theorem below_bools (x y : Int) (hy : 0 < y) : decide (cmpZ x (-9223372036854775808 * y) < 0) = decide (x.fdiv y < -9223372036854775808) ∧ decide (0 ≤ cmpZ x ((9223372036854775807 + 1) * y)) = decide (9223372036854775808 ≤ x.fdiv y) := by
  rw [cmp_neg, cmp_pos]
  refine ⟨?_, ?_⟩
  · rw [decide_eq_decide, fdiv_lt_iff hy]
  · rw [decide_eq_decide, le_fdiv_iff hy]
    exact Iff.rfl

theorem below_any (v u : Value) (x y : Int) (w : World) (hv : BigIs w v x) (hu : BigIs w u y) (hx : Prod x) (hy : Word y) (hn : y ≠ 0) :
    Calls Try.prog 36 #[v, u] w (Ret (.tuple #[.bool (decide (x.fdiv y < -9223372036854775808)), .bool (decide (9223372036854775808 ≤ x.fdiv y))]) w) := by
  by_cases h : y < 0
  · have hb := below_bools (-x) (-y) (by omega)
    rw [fdiv_neg_neg] at hb
    have := below_minus v u (-x) (-y) w (by rw [Int.neg_neg]; exact hv) (by rw [Int.neg_neg]; exact hu) (by unfold Prod at *; omega) (by unfold Word at *; omega) (by omega)
    rw [hb.1, hb.2] at this
    exact this
  · have hb := below_bools x y (by omega)
    have := below_plus v u x y w hv hu hx hy (by omega)
    rw [hb.1, hb.2] at this
    exact this

theorem floorH {x y : Int} (hx : Prod x) (hy : Word y) (hp : 0 < y) (hf : Fit (x.fdiv y)) : FloorH x y (x.fdiv y) := by
  have e := Int.mul_fdiv_add_fmod x y
  have m0 := Int.fmod_nonneg_of_pos x hp
  have m1 := Int.fmod_lt_of_pos x hp
  have hm : y * x.fdiv y = x.fdiv y * y := Int.mul_comm _ _
  have er : x - x.fdiv y * y = x.fmod y := by omega
  have hs : Small (x.fdiv y * y) := by
    unfold Small
    rw [Int.natAbs_mul]
    have h1 : (x.fdiv y).natAbs ≤ 9223372036854775808 := by unfold Fit at hf; omega
    exact Nat.lt_of_le_of_lt (Nat.mul_le_mul h1 hy) (by decide)
  refine ⟨small_prod hx, small_word hy, small64 hf.1 hf.2, hs, ?_, by rw [er]; exact m0, by rw [er]; exact m1⟩
  rw [er]
  apply small_word
  unfold Word at *
  omega

theorem floor_any (v u t : Value) (x y : Int) (w : World) (hv : BigIs w v x) (hu : BigIs w u y) (ht : BigIs w t (x.fdiv y)) (hx : Prod x) (hy : Word y) (hn : y ≠ 0) (hf : Fit (x.fdiv y)) :
    Calls Try.prog 37 #[v, u, t] w (Ret (.bool true) w) := by
  by_cases h : y < 0
  · have hH : FloorH (-x) (-y) ((-x).fdiv (-y)) := floorH (by unfold Prod at *; omega) (by unfold Word at *; omega) (by omega) (by rw [fdiv_neg_neg]; exact hf)
    rw [fdiv_neg_neg] at hH
    exact floor_minus v u t (-x) (-y) _ w (by rw [Int.neg_neg]; exact hv) (by rw [Int.neg_neg]; exact hu) ht hH
  · exact floor_plus v u t x y _ w hv hu ht (floorH hx hy (by omega) hf)

set_option maxHeartbeats 2000000 in
theorem quot_zero (v u : Value) (x : Int) (w : World) (hv : BigIs w v x) (hu : BigIs w u 0) :
    Calls Try.prog 21 #[.int .i64 0, .int .i64 9, v, u] w (Ret (.bool true) w) := by
  obtain ⟨A, ca, na, nx, rfl, _, _, _, _⟩ := hv.letters
  obtain ⟨B, cb, nb, ny, rfl, _, HZ, _, _⟩ := hu.letters
  have hnb : nb = 0 := by rw [HZ.out]
  subst hnb
  clear hv hu HZ
  go_enter Try.func21, Try.ntmps21
  go_wp2
  go_ret
  exact Ret.mk rfl (((Below.refl _ _).alloc (Nat.le_refl _) _).alloc (by simp) _)

set_option maxHeartbeats 2000000 in
theorem quot_over (v u : Value) (x y : Int) (w : World) (hv : BigIs w v x) (hu : BigIs w u y) (hx : Prod x) (hy : Word y) (hn : y ≠ 0) (hf : ¬ Fit (x.fdiv y)) :
    Calls Try.prog 21 #[.int .i64 0, .int .i64 8, v, u] w (Ret (.bool true) w) := by
  obtain ⟨A, ca, na, nx, rfl, _, _, _, HV⟩ := hv.letters
  obtain ⟨B, cb, nb, ny, rfl, _, HZ, _, HU⟩ := hu.letters
  have hnb : ((nb : Int) == 0) = false := by
    have : ¬ nb = 0 := by rw [HZ.out]; exact hn
    simpa using this
  have HP := Lib.hid (And.intro hx hy)
  have HN := Lib.hid hn
  have HB : Hid ((decide (x.fdiv y < -9223372036854775808) || decide (9223372036854775808 ≤ x.fdiv y)) = true) := by
    show _ = true
    unfold Fit at hf
    simp
    omega
  clear hv hu hx hy hn hf HZ
  go_enter Try.func21, Try.ntmps21
  go_wp2_with fail
  refine (below_any _ _ x y _ (HV.out _ (((Below.refl _ _).alloc (Nat.le_refl _) _).alloc (by simp) _)) (HU.out _ (((Below.refl _ _).alloc (Nat.le_refl _) _).alloc (by simp) _)) HP.out.1 HP.out.2 HN.out).mono ?_
  rintro e w1 ⟨rfl, b1⟩
  have HF : Hid (Below w.heap.size w w1) := (((Below.refl _ _).alloc (Nat.le_refl _) _).alloc (by simp) _).trans (b1.mono (by simp; omega))
  clear b1
  generalize decide (x.fdiv y < -9223372036854775808) = lo at HB ⊢
  generalize decide (9223372036854775808 ≤ x.fdiv y) = hi at HB ⊢
  cases lo
  · obtain rfl : hi = true := by have := HB.out; simpa using this
    go_wp2
    go_ret
    exact Ret.mk rfl HF.out
  · go_wp2
    go_ret
    exact Ret.mk rfl HF.out

set_option maxHeartbeats 2000000 in
theorem quot_in (v u : Value) (x y : Int) (w : World) (hv : BigIs w v x) (hu : BigIs w u y) (hx : Prod x) (hy : Word y) (hn : y ≠ 0) (hf : Fit (x.fdiv y)) :
    Calls Try.prog 21 #[.int .i64 (x.fdiv y), .int .i64 0, v, u] w (Ret (.bool true) w) := by
  obtain ⟨A, ca, na, nx, rfl, _, _, _, HV⟩ := hv.letters
  obtain ⟨B, cb, nb, ny, rfl, _, HZ, _, HU⟩ := hu.letters
  have hnb : ((nb : Int) == 0) = false := by
    have : ¬ nb = 0 := by rw [HZ.out]; exact hn
    simpa using this
  have HP := Lib.hid (And.intro hx hy)
  have HN := Lib.hid hn
  have HF := Lib.hid hf
  have HL : Hid (decide (x.fdiv y < -9223372036854775808) = false) := decide_eq_false (by unfold Fit at hf; omega)
  have HH : Hid (decide (9223372036854775808 ≤ x.fdiv y) = false) := decide_eq_false (by unfold Fit at hf; omega)
  clear hv hu hx hy hn hf HZ
  go_enter Try.func21, Try.ntmps21
  go_wp2_with fail
  have hX := Box2.mk2 w nx ny (.slice A na ca) (.slice B nb cb) 29
  refine (below_any _ _ x y _ (HV.out _ hX.below) (HU.out _ hX.below) HP.out.1 HP.out.2 HN.out).mono ?_
  rw [HL.out, HH.out]
  rintro e W ⟨rfl, b1⟩
  have hY := hX.keep b1
  have HX := Lib.hid hY
  clear hX b1 hY
  go_wp2_with fail
  obtain ⟨c0, c1, c2, c3, _, _, _, _, _⟩ := HX.out
  generalize hq : x.fdiv y = q at *
  have HQ := Lib.hid hq
  clear hq
  go_region_held3 (fun w' => w'.cell? ⟨w.heap.size, 0, none⟩ = some (.bool nx) ∧ w'.cell? ⟨w.heap.size, 1, none⟩ = some (.slice A na ca) ∧ w'.cell? ⟨w.heap.size + 1, 0, none⟩ = some (.bool ny) ∧ w'.cell? ⟨w.heap.size + 1, 1, none⟩ = some (.slice B nb cb))
    (go_keep)
    (first
      | (go_at_call 14; refine (of_any q _ HF.out.1 HF.out.2).mono ?_; rintro e w1 ⟨v1, rfl, hbig1, hb1'⟩; have HB1 : Hid (Below W.heap.size W w1) := (Below.refl W.heap.size W).drew.trans hb1'; have HV1 := Lib.hid hbig1; clear hb1' hbig1; obtain ⟨k0, k1, k2, k3, _, _, _, _, _⟩ := HX.out.keep HB1.out)
      | (go_at_call 37; refine (floor_any _ _ v1 x y _ (HV.out _ (HX.out.keep HB1.out).below) (HU.out _ (HX.out.keep HB1.out).below) (by rw [HQ.out]; exact HV1.out) HP.out.1 HP.out.2 HN.out (by rw [HQ.out]; exact HF.out)).mono ?_; rintro e w2 ⟨rfl, hb2'⟩; have HB2 : Hid (Below W.heap.size W w2) := HB1.out.trans (hb2'.mono HB1.out.size); clear hb2'; obtain ⟨k0, k1, k2, k3, _, _, _, _, _⟩ := HX.out.keep HB2.out))
  go_wp2
  go_ret
  exact Ret.mk rfl (HX.out.keep HB2.out).below

theorem quot_true (v u : Value) (x y : Int) (w : World) (hv : BigIs w v x) (hu : BigIs w u y) (hx : Prod x) (hy : Word y) :
    Calls Try.prog 21 #[.int .i64 (qV x y), .int .i64 (qE x y), v, u] w (Ret (.bool true) w) := by
  unfold qV qE
  by_cases hn : y = 0
  · subst hn
    rw [if_pos rfl, if_pos rfl]
    exact quot_zero v u x w hv hu
  · rw [if_neg hn, if_neg hn]
    by_cases hf : Fit (x.fdiv y)
    · rw [rV_in hf, rE_in hf]
      exact quot_in v u x y w hv hu hx hy hn hf
    · rw [rV_out hf, rE_out hf]
      exact quot_over v u x y w hv hu hx hy hn hf

end Go.Proofs.Ytcnjapajhchfkaa
