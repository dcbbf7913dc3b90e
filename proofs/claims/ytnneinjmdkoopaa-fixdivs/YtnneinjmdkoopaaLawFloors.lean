/- The law package's own 'floors' (layer 2). -/
import Derived.Test.YtnneinjmdkoopaaLawQuot
import Derived.Test.YtnneinjmdkoopaaFix
namespace Go.Proofs.Ytnneinjmdkoopaa
open Go.RowKit
set_option linter.unusedVariables false

set_option maxHeartbeats 2000000 in
theorem floors_over (v u : Value) (x y : Int) (w : World) (hv : BigIs w v x) (hu : BigIs w u y) (hx : Prod x) (hy : Word y) (hn : y ≠ 0) (hf : ¬ Fit (x.fdiv y)) :
    Calls Try.prog 11 #[.int .i64 0, .int .i64 8, v, u] w (Ret (.bool true) w) := by
  obtain ⟨A, ca, na, nx, rfl, _, _, _, HV⟩ := hv.letters
  obtain ⟨B, cb, nb, ny, rfl, _, _, _, HU⟩ := hu.letters
  have HP := Lib.hid (And.intro hx hy)
  have HN := Lib.hid hn
  have HB : Hid ((decide (x.fdiv y < -9223372036854775808) || decide (9223372036854775808 ≤ x.fdiv y)) = true) := by
    show _ = true
    unfold Fit at hf
    simp
    omega
  clear hv hu hx hy hn hf
  go_enter Try.func11, Try.ntmps11
  go_wp2_with fail
  refine (below_any _ _ x y _ (HV.out _ (((Below.refl _ _).alloc (Nat.le_refl _) _).alloc (by simp) _)) (HU.out _ (((Below.refl _ _).alloc (Nat.le_refl _) _).alloc (by simp) _)) HP.out.1 HP.out.2 HN.out).mono ?_
  rintro e w1 ⟨rfl, b1⟩
  have HF : Hid (Below w.heap.size w w1) := (((Below.refl _ _).alloc (Nat.le_refl _) _).alloc (by simp) _).trans (b1.mono (by simp; omega))
  clear b1
  generalize decide (x.fdiv y < -9223372036854775808) = lo at HB ⊢
  generalize decide (9223372036854775808 ≤ x.fdiv y) = hi at HB ⊢
  cases lo
  · obtain rfl : hi = true := by have := HB.out; simpa using this
    go_wp2
    go_ret
    exact Ret.mk rfl HF.out
  · go_wp2
    go_ret
    exact Ret.mk rfl HF.out

set_option maxHeartbeats 2000000 in
theorem floors_in (v u : Value) (x y : Int) (w : World) (hv : BigIs w v x) (hu : BigIs w u y) (hx : Prod x) (hy : Word y) (hn : y ≠ 0) (hf : Fit (x.fdiv y)) :
    Calls Try.prog 11 #[.int .i64 (x.fdiv y), .int .i64 0, v, u] w (Ret (.bool true) w) := by
  obtain ⟨A, ca, na, nx, rfl, _, _, _, HV⟩ := hv.letters
  obtain ⟨B, cb, nb, ny, rfl, _, _, _, HU⟩ := hu.letters
  have HP := Lib.hid (And.intro hx hy)
  have HN := Lib.hid hn
  have HF := Lib.hid hf
  have HL : Hid (decide (x.fdiv y < -9223372036854775808) = false) := decide_eq_false (by unfold Fit at hf; omega)
  have HH : Hid (decide (9223372036854775808 ≤ x.fdiv y) = false) := decide_eq_false (by unfold Fit at hf; omega)
  clear hv hu hx hy hn hf
  go_enter Try.func11, Try.ntmps11
  go_wp2_with fail
  have hX := Box2.mk2 w nx ny (.slice A na ca) (.slice B nb cb) 28
  refine (below_any _ _ x y _ (HV.out _ hX.below) (HU.out _ hX.below) HP.out.1 HP.out.2 HN.out).mono ?_
  rw [HL.out, HH.out]
  rintro e W ⟨rfl, b1⟩
  have hY := hX.keep b1
  have HX := Lib.hid hY
  clear hX b1 hY
  go_wp2_with fail
  obtain ⟨c0, c1, c2, c3, _, _, _, _, _⟩ := HX.out
  generalize hq : x.fdiv y = q at *
  have HQ := Lib.hid hq
  clear hq
  go_region_held3 (fun w' => w'.cell? ⟨w.heap.size, 0, none⟩ = some (.bool nx) ∧ w'.cell? ⟨w.heap.size, 1, none⟩ = some (.slice A na ca) ∧ w'.cell? ⟨w.heap.size + 1, 0, none⟩ = some (.bool ny) ∧ w'.cell? ⟨w.heap.size + 1, 1, none⟩ = some (.slice B nb cb))
    (go_keep)
    (first
      | (go_at_call 13; refine (of_any q _ HF.out.1 HF.out.2).mono ?_; rintro e w1 ⟨v1, rfl, hbig1, hb1'⟩; have HB1 : Hid (Below W.heap.size W w1) := (Below.refl W.heap.size W).drew.trans hb1'; have HV1 := Lib.hid hbig1; clear hb1' hbig1; obtain ⟨k0, k1, k2, k3, _, _, _, _, _⟩ := HX.out.keep HB1.out)
      | (go_at_call 31; refine (floor_any _ _ v1 x y _ (HV.out _ (HX.out.keep HB1.out).below) (HU.out _ (HX.out.keep HB1.out).below) (by rw [HQ.out]; exact HV1.out) HP.out.1 HP.out.2 HN.out (by rw [HQ.out]; exact HF.out)).mono ?_; rintro e w2 ⟨rfl, hb2'⟩; have HB2 : Hid (Below W.heap.size W w2) := HB1.out.trans (hb2'.mono HB1.out.size); clear hb2'; obtain ⟨k0, k1, k2, k3, _, _, _, _, _⟩ := HX.out.keep HB2.out))
  go_wp2
  go_ret
  exact Ret.mk rfl (HX.out.keep HB2.out).below

theorem floors_true (v u : Value) (x y : Int) (w : World) (hv : BigIs w v x) (hu : BigIs w u y) (hx : Prod x) (hy : Word y) (hn : y ≠ 0) :
    Calls Try.prog 11 #[.int .i64 (rV (x.fdiv y)), .int .i64 (rE (x.fdiv y)), v, u] w (Ret (.bool true) w) := by
  by_cases hf : Fit (x.fdiv y)
  · rw [rV_in hf, rE_in hf]
    exact floors_in v u x y w hv hu hx hy hn hf
  · rw [rV_out hf, rE_out hf]
    exact floors_over v u x y w hv hu hx hy hn hf

theorem prod_of {a b : Int} (ha : -9223372036854775808 ≤ a) (ha' : a ≤ 9223372036854775807) (hb : -9223372036854775808 ≤ b) (hb' : b ≤ 9223372036854775807) : Prod (a * b) := by
  unfold Prod
  rw [Int.natAbs_mul]
  have h1 : a.natAbs ≤ 9223372036854775808 := by omega
  have h2 : b.natAbs ≤ 9223372036854775808 := by omega
  exact Nat.le_trans (Nat.mul_le_mul h1 h2) (by decide)
theorem word_of {a : Int} (ha : -9223372036854775808 ≤ a) (ha' : a ≤ 9223372036854775807) : Word a := by
  unfold Word
  omega

end Go.Proofs.Ytnneinjmdkoopaa
