/- The walk of the law. -/
import Derived.Test.YtiiojickhegapaaReal4
import Derived.Test.YtiiojickhegapaaAwake4
namespace Go.Proofs.Ytiiojickhegapaa
open Go.RowKit
set_option linter.unusedVariables false

/-- A number that went to a float comes back. -/
theorem back_of (v : Int) (r : Nat) (h1 : -70368744177664 ≤ v) (h2 : v < 70368744177664) (hr : IsF r (v * (pw (-16) : Int))) : ofV r = v ∧ ofE r = 0 ∧ nearV r = v ∧ nearE r = 0 := by
  have pe : pw 0 = pw (-16) * 65536 := pw_at (-16) 0 16 (by decide) (by decide)
  have p := pw_pos (-16)
  have ph := pw_half
  have hx : 65536 * fval r = v * (pw 0 : Int) := by rw [fval_eq hr, pe, Int.natCast_mul]; grind
  have hf : fl r = v := by unfold fl; rw [hx, Int.mul_ediv_cancel _ (by omega)]
  have hd : rd r = v := by
    unfold rd
    rw [hx, roundU_eq, Int.mul_ediv_cancel _ (by omega), Int.mul_emod_left, if_neg (by omega)]
  have hs := (isF_size hr).1
  have hok : OfOk r := ⟨hs, by omega, by omega⟩
  have hok2 : NearOk r := ⟨hok, by omega⟩
  unfold ofV ofE nearV nearE
  rw [if_pos hok, if_pos hok, if_pos hok2, if_pos hok2, if_neg (by omega), hf, hd]
  exact ⟨rfl, rfl, rfl, rfl⟩

set_option maxHeartbeats 800000 in
theorem walk_RealBack (a0 : Int) (w0 : (Lit.int .i64 a0).wf = true) (w : World) : Calls Try.prog 5 #[.int .i64 a0] w (Ret (.bool true) w) := by
  obtain ⟨v0, v1⟩ := wfI w0
  have v0' : -9223372036854775808 ≤ a0 := v0
  have v1' : a0 ≤ 9223372036854775807 := v1
  clear v0 v1 w0
  by_cases hv : a0 < -70368744177664 ∨ 70368744177664 ≤ a0
  · have h1 := fun w => to_out a0 w hv
    have he := eq_is isF_zero isF_zero
    rw [decide_eq_true rfl] at he
    clear v0' v1'
    rcases hv with hv | hv
    · go_enter Try.func5, Try.ntmps5
      go_wp2_with fail
      refine (h1 _).mono ?_
      rintro e w1 ⟨rfl, b1⟩
      have HB1 := Lib.hid b1
      clear b1
      clear h1
      go_wp2_with fail
      refine (awake_any _).mono ?_
      rintro e w2 ⟨rfl, b2⟩
      have HB2 : Hid (Below w.heap.size w w2) := HB1.out.trans (b2.mono HB1.out.size)
      clear b2 HB1
      go_wp2
      go_ret
      exact Ret.mk rfl HB2.out
    · have hv2 : ¬ a0 < -70368744177664 := by omega
      go_enter Try.func5, Try.ntmps5
      go_wp2_with fail
      refine (h1 _).mono ?_
      rintro e w1 ⟨rfl, b1⟩
      have HB1 := Lib.hid b1
      clear b1
      clear h1
      go_wp2_with fail
      refine (awake_any _).mono ?_
      rintro e w2 ⟨rfl, b2⟩
      have HB2 : Hid (Below w.heap.size w w2) := HB1.out.trans (b2.mono HB1.out.size)
      clear b2 HB1
      go_wp2
      go_ret
      exact Ret.mk rfl HB2.out
  · obtain ⟨r, r1, r2, r3, h1⟩ := to_in a0 (by omega) (by omega)
    obtain ⟨e1, e2, e3, e4⟩ := back_of a0 r (by omega) (by omega) r1
    have h2 := fun w => of_any r r2 w
    have h3 := fun w => near_any r r2 w
    rw [e1, e2] at h2
    rw [e3, e4] at h3
    have pe : pw 0 = pw (-16) * 65536 := pw_at (-16) 0 16 (by decide) (by decide)
    have p := pw_pos (-16)
    have hsm : (a0 * (pw (-16) : Int)).natAbs < pw 80 := by
      have e : pw 80 = pw (-16) * 2 ^ 96 := pw_at (-16) 80 96 (by decide) (by decide)
      rw [Int.natAbs_mul, Int.natAbs_natCast, e, Nat.mul_comm]
      exact Nat.mul_lt_mul_of_pos_left (by omega) p
    obtain ⟨t, t1, t2⟩ := mul_is r1 hsm
    have hq := eq_is t2 (ofInt_is a0 (by omega))
    rw [decide_eq_true (by rw [pe, Int.natCast_mul]; grind)] at hq
    have hm : ∀ w, (binOp .mul 27 (.float .f64 r) (.float .f64 4679240012837945344)).run Try.prog w = .ok (.float .f64 t) w := fun w => run_float_arith w _ _ _ _ _ _ t1
    have hfb := bitsOf r
    have hv1 : decide (a0 < -70368744177664) = false := decide_eq_false (by omega)
    have hv2 : decide (70368744177664 ≤ a0) = false := decide_eq_false (by omega)
    clear e1 e2 e3 e4 pe p hsm t1 t2 r1 r2 hv
    by_cases hz : a0 = 0
    · have hr0 := r3 hz
      subst hr0
      clear r3
      have hz1 : (a0 != 0) = false := by simp [hz]
      clear hz v0' v1'
      go_enter Try.func5, Try.ntmps5
      go_wp2_with fail
      refine (h1 _).mono ?_
      rintro e w1 ⟨rfl, b1⟩
      have HB1 := Lib.hid b1
      clear b1
      clear h1
      go_wp2_with fail
      refine (h2 _).mono ?_
      rintro e w2 ⟨rfl, b2⟩
      have HB2 : Hid (Below w.heap.size w w2) := HB1.out.trans (b2.mono HB1.out.size)
      clear b2 HB1
      clear h2
      go_wp2_with fail
      refine (h3 _).mono ?_
      rintro e w3 ⟨rfl, b3⟩
      have HB3 : Hid (Below w.heap.size w w3) := HB2.out.trans (b3.mono HB2.out.size)
      clear b3 HB2
      clear h3
      go_wp2_with fail
      refine (awake_any _).mono ?_
      rintro e w4 ⟨rfl, b4⟩
      have HB4 : Hid (Below w.heap.size w w4) := HB3.out.trans (b4.mono HB3.out.size)
      clear b4 HB3
      go_wp2
      go_ret
      exact Ret.mk rfl HB4.out
    · have hz1 : (a0 != 0) = true := by simp [hz]
      clear r3 hz v0' v1'
      go_enter Try.func5, Try.ntmps5
      go_wp2_with fail
      refine (h1 _).mono ?_
      rintro e w1 ⟨rfl, b1⟩
      have HB1 := Lib.hid b1
      clear b1
      clear h1
      go_wp2_with fail
      refine (h2 _).mono ?_
      rintro e w2 ⟨rfl, b2⟩
      have HB2 : Hid (Below w.heap.size w w2) := HB1.out.trans (b2.mono HB1.out.size)
      clear b2 HB1
      clear h2
      go_wp2_with fail
      refine (h3 _).mono ?_
      rintro e w3 ⟨rfl, b3⟩
      have HB3 : Hid (Below w.heap.size w w3) := HB2.out.trans (b3.mono HB2.out.size)
      clear b3 HB2
      clear h3
      go_wp2_with fail
      refine (awake_any _).mono ?_
      rintro e w4 ⟨rfl, b4⟩
      have HB4 : Hid (Below w.heap.size w w4) := HB3.out.trans (b4.mono HB3.out.size)
      clear b4 HB3
      go_wp2
      go_ret
      exact Ret.mk rfl HB4.out

end Go.Proofs.Ytiiojickhegapaa
