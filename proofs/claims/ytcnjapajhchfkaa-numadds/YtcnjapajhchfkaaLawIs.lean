/- The law package's own 'is'. -/
import Derived.Test.YtcnjapajhchfkaaBig6
namespace Go.Proofs.Ytcnjapajhchfkaa
open Go.RowKit
set_option linter.unusedVariables false

theorem wf_fit {a : Int} (h : (Lit.int .i64 a).wf = true) : -9223372036854775808 ≤ a ∧ a ≤ 9223372036854775807 := by
  simpa [Lit.wf, IntKind.min, IntKind.max, IntKind.signed, IntKind.bits] using h

set_option maxHeartbeats 1000000 in
theorem is_in (v : Value) (z : Int) (w : World) (hv : BigIs w v z) (hz : Small z) (h0 : -9223372036854775808 ≤ z) (h1 : z ≤ 9223372036854775807) :
    Calls Try.prog 13 #[.int .i64 z, .int .i64 0, v] w (Ret (.bool true) w) := by
  obtain ⟨A, c, na, nx, rfl, _, _, _, HV⟩ := hv.letters
  have SZ := Lib.hid hz
  clear hz hv
  have HC : Hid ((cmpZ z z == 0) = true) := by show (cmpZ z z == 0) = true; unfold cmpZ; simp
  have HF : Hid (decide (Fit z) = true) := decide_eq_true ⟨h0, h1⟩
  go_enter Try.func13, Try.ntmps13
  go_wp2_with fail
  refine (fits_any _ z _ (HV.out _ ((Below.refl _ _).alloc (Nat.le_refl _) _)) SZ.out).mono ?_
  rw [HF.out]
  rintro e w1 ⟨rfl, b1⟩
  have hX := (Box1.mk1 w nx (.slice A na c) 29).keep b1
  have HX := Lib.hid hX
  obtain ⟨k0, k1, _⟩ := hX
  clear b1
  go_wp2_with fail
  refine (is_any _ z z _ (HV.out _ HX.out.below) SZ.out h0 h1).mono ?_
  rw [HC.out]
  rintro e w2 ⟨rfl, b2⟩
  go_wp2
  go_ret
  exact Ret.mk rfl (HX.out.below.trans (b2.mono HX.out.below.size))

set_option maxHeartbeats 1000000 in
theorem is_out (v : Value) (z : Int) (w : World) (hv : BigIs w v z) (hz : Small z) (hf : ¬ Fit z) :
    Calls Try.prog 13 #[.int .i64 0, .int .i64 8, v] w (Ret (.bool true) w) := by
  obtain ⟨A, c, na, nx, rfl, _, _, _, HV⟩ := hv.letters
  have SZ := Lib.hid hz
  have HF : Hid (decide (Fit z) = false) := decide_eq_false hf
  clear hz hv hf
  go_enter Try.func13, Try.ntmps13
  go_wp2_with fail
  refine (fits_any _ z _ (HV.out _ ((Below.refl _ _).alloc (Nat.le_refl _) _)) SZ.out).mono ?_
  rw [HF.out]
  rintro e w1 ⟨rfl, b1⟩
  have hX := (Box1.mk1 w nx (.slice A na c) 29).keep b1
  have HX := Lib.hid hX
  clear hX b1
  go_wp2
  go_ret
  exact Ret.mk rfl HX.out.below

theorem is_true (v : Value) (z : Int) (w : World) (hv : BigIs w v z) (hz : Small z) :
    Calls Try.prog 13 #[.int .i64 (rV z), .int .i64 (rE z), v] w (Ret (.bool true) w) := by
  by_cases hf : Fit z
  · rw [rV_in hf, rE_in hf]
    exact is_in v z w hv hz hf.1 hf.2
  · rw [rV_out hf, rE_out hf]
    exact is_out v z w hv hz hf

end Go.Proofs.Ytcnjapajhchfkaa
