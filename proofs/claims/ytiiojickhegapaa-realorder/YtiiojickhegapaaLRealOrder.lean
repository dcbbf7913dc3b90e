/- The walk of the law. -/
import Derived.Test.YtiiojickhegapaaReal4
import Derived.Test.YtiiojickhegapaaAwake4
namespace Go.Proofs.Ytiiojickhegapaa
open Go.RowKit
set_option linter.unusedVariables false

theorem of_cases (b : Nat) : (OfOk b ∧ ofV b = fl b ∧ ofE b = 0) ∨ (ofV b = 0 ∧ (ofE b = 14 ∨ ofE b = 8)) := by
  by_cases h : OfOk b
  · left
    have := h.1
    refine ⟨h, if_pos h, ?_⟩
    unfold ofE
    rw [if_neg (by omega), if_pos h]
  · right
    refine ⟨if_neg h, ?_⟩
    unfold ofE
    rw [if_neg h]
    split
    · exact .inl rfl
    · exact .inr rfl
theorem fl_mono {a b : Nat} (h : fval a ≤ fval b) : fl a ≤ fl b := by
  unfold fl
  exact Int.ediv_le_ediv (by have := pw_pos 0; omega) (by omega)
theorem isF_15 : IsF 4539628424389459968 (pw (-15) : Int) := by
  have h : Ieee.double.read 4539628424389459968 = .number false 4503599627370496 (-67) := by decide +kernel
  have := isF_of_read h
  have e : pw (-15) = pw (-67) * 2 ^ 52 := pw_at (-67) (-15) 52 (by decide) (by decide)
  have h2 : val false 4503599627370496 (-67) = (pw (-15) : Int) := by unfold val; simp only [Bool.false_eq_true, if_false]; omega
  rw [← h2]; exact this
/-- What Of answers is no more than the float, and less than a 65536th below it. -/
theorem fl_near (b : Nat) : 0 ≤ fval b - fl b * (pw (-16) : Int) ∧ fval b - fl b * (pw (-16) : Int) < (pw (-16) : Int) := by
  have pe : pw 0 = pw (-16) * 65536 := pw_at (-16) 0 16 (by decide) (by decide)
  have p := pw_pos (-16)
  have h1 := Int.emod_nonneg (65536 * fval b) (b := (pw 0 : Int)) (by omega)
  have h2 := Int.emod_lt_of_pos (65536 * fval b) (b := (pw 0 : Int)) (by omega)
  have h3 : (pw 0 : Int) * (65536 * fval b / (pw 0 : Int)) + 65536 * fval b % (pw 0 : Int) = 65536 * fval b := Int.mul_ediv_add_emod _ _
  have h4 : fl b = 65536 * fval b / (pw 0 : Int) := rfl
  rw [← h4] at h3
  have h5 : (pw 0 : Int) * fl b = 65536 * (fl b * (pw (-16) : Int)) := by rw [pe, Int.natCast_mul]; grind
  omega

set_option maxHeartbeats 1600000 in
theorem walk_RealOrder (a0 a1 : Int) (w0 : (Lit.int .u64 a0).wf = true) (w1 : (Lit.int .u64 a1).wf = true) (w : World) : Calls Try.prog 6 #[.int .u64 a0, .int .u64 a1] w (Ret (.bool true) w) := by
  obtain ⟨v0, v1⟩ := wfI w0
  have v0' : 0 ≤ a0 := v0
  have v1' : a0 ≤ 18446744073709551615 := v1
  obtain ⟨a, rfl⟩ : ∃ b : Nat, a0 = (b : Int) := ⟨a0.toNat, by omega⟩
  have hla : a < 18446744073709551616 := by omega
  clear v0 v1 v0' v1' w0
  obtain ⟨v0, v1⟩ := wfI w1
  have v0' : 0 ≤ a1 := v0
  have v1' : a1 ≤ 18446744073709551615 := v1
  obtain ⟨b, rfl⟩ : ∃ b : Nat, a1 = (b : Int) := ⟨a1.toNat, by omega⟩
  have hlb : b < 18446744073709551616 := by omega
  clear v0 v1 v0' v1' w1
  have h1 := fun w => of_any a hla w
  have h2 := fun w => of_any b hlb w
  have hc1 := frombits a
  have hc2 := frombits b
  rcases of_cases a with ⟨oa, va, ea⟩ | ⟨va, ea⟩
  · rw [va, ea] at h1
    rcases of_cases b with ⟨ob, vb, eb⟩ | ⟨vb, eb⟩
    · rw [vb, eb] at h2
      have ha := fin_is a oa.1
      have hb := fin_is b ob.1
      obtain ⟨r, r1, r2, r3, h3⟩ := to_in (fl a) oa.2.1 oa.2.2
      obtain ⟨n1, n2⟩ := fl_near a
      have p15 : pw (-15) = pw (-16) * 2 := pw_at (-16) (-15) 1 (by decide) (by decide)
      have p16 := pw_pos (-16)
      have e16 : pw (-17 + 1) = pw (-16) := rfl
      obtain ⟨t, z, t1, t2, t3, -⟩ := sub_near ha r1 n1 (-17) (by omega) (by omega) (by rw [e16]; exact n2)
      rw [e16] at t3
      have hlt := lt_is t2 isF_15
      rw [decide_eq_true (by omega)] at hlt
      have hle1 := lt_is r1 ha
      have hle2 := eq_is r1 ha
      have hle : (FloatKind.f64.format.order r a == some Ordering.lt || FloatKind.f64.format.order r a == some Ordering.eq) = true := by
        rw [hle1, hle2, Bool.or_eq_true, decide_eq_true_eq, decide_eq_true_eq]; omega
      have hm : ∀ w, (binOp .sub 27 (.float .f64 a) (.float .f64 r)).run Try.prog w = .ok (.float .f64 t) w := fun w => run_float_arith w _ _ _ _ _ _ t1
      have o1 := lt_is ha hb
      have o2 := eq_is ha hb
      have o3 := gt_is ha hb
      clear r1 r2 r3 n1 n2 p15 p16 e16 t1 t2 t3 hle1 hle2 va ea vb eb oa ob
      by_cases hc : fval a ≤ fval b
      · have hmono := fl_mono hc
        have q1 : (FloatKind.f64.format.order a b == some Ordering.lt || FloatKind.f64.format.order a b == some Ordering.eq) = true := by
          rw [o1, o2, Bool.or_eq_true, decide_eq_true_eq, decide_eq_true_eq]; omega
        have q3 : decide (fl b < fl a) = false := decide_eq_false (by omega)
        by_cases hc2' : fval a = fval b
        · have hmono2 := fl_mono (Int.le_of_eq hc2'.symm)
          have q2 : (FloatKind.f64.format.order a b == some Ordering.gt || FloatKind.f64.format.order a b == some Ordering.eq) = true := by
            rw [o2, o3, Bool.or_eq_true, decide_eq_true_eq, decide_eq_true_eq]; omega
          have q4 : decide (fl a < fl b) = false := decide_eq_false (by omega)
          clear ha hb o1 o2 o3 hc hc2' hmono hmono2 hla hlb
          generalize fl a = va at *
          generalize fl b = vb at *
          go_enter Try.func6, Try.ntmps6
          go_wp2_with fail
          refine (h1 _).mono ?_
          rintro e w1 ⟨rfl, b1⟩
          have HB1 := Lib.hid b1
          clear b1
          clear h1
          go_wp2_with fail
          refine (h2 _).mono ?_
          rintro e w2 ⟨rfl, b2⟩
          have HB2 : Hid (Below w.heap.size w w2) := HB1.out.trans (b2.mono HB1.out.size)
          clear b2 HB1
          clear h2
          go_wp2_with fail
          refine (h3 _).mono ?_
          rintro e w3 ⟨rfl, b3⟩
          have HB3 : Hid (Below w.heap.size w w3) := HB2.out.trans (b3.mono HB2.out.size)
          clear b3 HB2
          clear h3
          go_wp2_with fail
          refine (awake_any _).mono ?_
          rintro e w4 ⟨rfl, b4⟩
          have HB4 : Hid (Below w.heap.size w w4) := HB3.out.trans (b4.mono HB3.out.size)
          clear b4 HB3
          go_wp2
          go_ret
          exact Ret.mk rfl HB4.out
        · have q2 : (FloatKind.f64.format.order a b == some Ordering.gt || FloatKind.f64.format.order a b == some Ordering.eq) = false := by
            rw [o2, o3, decide_eq_false hc2', decide_eq_false (by omega)]; rfl
          clear ha hb o1 o2 o3 hc hc2' hmono hla hlb
          generalize fl a = va at *
          generalize fl b = vb at *
          go_enter Try.func6, Try.ntmps6
          go_wp2_with fail
          refine (h1 _).mono ?_
          rintro e w1 ⟨rfl, b1⟩
          have HB1 := Lib.hid b1
          clear b1
          clear h1
          go_wp2_with fail
          refine (h2 _).mono ?_
          rintro e w2 ⟨rfl, b2⟩
          have HB2 : Hid (Below w.heap.size w w2) := HB1.out.trans (b2.mono HB1.out.size)
          clear b2 HB1
          clear h2
          go_wp2_with fail
          refine (h3 _).mono ?_
          rintro e w3 ⟨rfl, b3⟩
          have HB3 : Hid (Below w.heap.size w w3) := HB2.out.trans (b3.mono HB2.out.size)
          clear b3 HB2
          clear h3
          go_wp2_with fail
          refine (awake_any _).mono ?_
          rintro e w4 ⟨rfl, b4⟩
          have HB4 : Hid (Below w.heap.size w w4) := HB3.out.trans (b4.mono HB3.out.size)
          clear b4 HB3
          go_wp2
          go_ret
          exact Ret.mk rfl HB4.out
      · have hmono := fl_mono (Int.le_of_lt (Int.not_le.1 hc))
        have q1 : (FloatKind.f64.format.order a b == some Ordering.lt || FloatKind.f64.format.order a b == some Ordering.eq) = false := by
          rw [o1, o2, decide_eq_false (by omega), decide_eq_false (by omega)]; rfl
        have q2 : (FloatKind.f64.format.order a b == some Ordering.gt || FloatKind.f64.format.order a b == some Ordering.eq) = true := by
          rw [o2, o3, Bool.or_eq_true, decide_eq_true_eq, decide_eq_true_eq]; omega
        have q4 : decide (fl a < fl b) = false := decide_eq_false (by omega)
        clear ha hb o1 o2 o3 hc hmono hla hlb
        generalize fl a = va at *
        generalize fl b = vb at *
        go_enter Try.func6, Try.ntmps6
        go_wp2_with fail
        refine (h1 _).mono ?_
        rintro e w1 ⟨rfl, b1⟩
        have HB1 := Lib.hid b1
        clear b1
        clear h1
        go_wp2_with fail
        refine (h2 _).mono ?_
        rintro e w2 ⟨rfl, b2⟩
        have HB2 : Hid (Below w.heap.size w w2) := HB1.out.trans (b2.mono HB1.out.size)
        clear b2 HB1
        clear h2
        go_wp2_with fail
        refine (h3 _).mono ?_
        rintro e w3 ⟨rfl, b3⟩
        have HB3 : Hid (Below w.heap.size w w3) := HB2.out.trans (b3.mono HB2.out.size)
        clear b3 HB2
        clear h3
        go_wp2_with fail
        refine (awake_any _).mono ?_
        rintro e w4 ⟨rfl, b4⟩
        have HB4 : Hid (Below w.heap.size w w4) := HB3.out.trans (b4.mono HB3.out.size)
        clear b4 HB3
        go_wp2
        go_ret
        exact Ret.mk rfl HB4.out
    · rw [vb] at h2
      clear va ea vb oa
      generalize fl a = va at *
      rcases eb with eb | eb
      · rw [eb] at h2
        clear eb
        go_enter Try.func6, Try.ntmps6
        go_wp2_with fail
        refine (h1 _).mono ?_
        rintro e w1 ⟨rfl, b1⟩
        have HB1 := Lib.hid b1
        clear b1
        clear h1
        go_wp2_with fail
        refine (h2 _).mono ?_
        rintro e w2 ⟨rfl, b2⟩
        have HB2 : Hid (Below w.heap.size w w2) := HB1.out.trans (b2.mono HB1.out.size)
        clear b2 HB1
        clear h2
        go_wp2_with fail
        refine (awake_any _).mono ?_
        rintro e w3 ⟨rfl, b3⟩
        have HB3 : Hid (Below w.heap.size w w3) := HB2.out.trans (b3.mono HB2.out.size)
        clear b3 HB2
        go_wp2
        go_ret
        exact Ret.mk rfl HB3.out
      · rw [eb] at h2
        clear eb
        go_enter Try.func6, Try.ntmps6
        go_wp2_with fail
        refine (h1 _).mono ?_
        rintro e w1 ⟨rfl, b1⟩
        have HB1 := Lib.hid b1
        clear b1
        clear h1
        go_wp2_with fail
        refine (h2 _).mono ?_
        rintro e w2 ⟨rfl, b2⟩
        have HB2 : Hid (Below w.heap.size w w2) := HB1.out.trans (b2.mono HB1.out.size)
        clear b2 HB1
        clear h2
        go_wp2_with fail
        refine (awake_any _).mono ?_
        rintro e w3 ⟨rfl, b3⟩
        have HB3 : Hid (Below w.heap.size w w3) := HB2.out.trans (b3.mono HB2.out.size)
        clear b3 HB2
        go_wp2
        go_ret
        exact Ret.mk rfl HB3.out
  · rw [va] at h1
    rcases of_cases b with ⟨ob, vb, eb⟩ | ⟨vb, eb⟩
    · rw [vb, eb] at h2
      clear va vb eb ob
      generalize fl b = vb at *
      rcases ea with ea | ea
      · rw [ea] at h1
        clear ea
        go_enter Try.func6, Try.ntmps6
        go_wp2_with fail
        refine (h1 _).mono ?_
        rintro e w1 ⟨rfl, b1⟩
        have HB1 := Lib.hid b1
        clear b1
        clear h1
        go_wp2_with fail
        refine (h2 _).mono ?_
        rintro e w2 ⟨rfl, b2⟩
        have HB2 : Hid (Below w.heap.size w w2) := HB1.out.trans (b2.mono HB1.out.size)
        clear b2 HB1
        clear h2
        go_wp2_with fail
        refine (awake_any _).mono ?_
        rintro e w3 ⟨rfl, b3⟩
        have HB3 : Hid (Below w.heap.size w w3) := HB2.out.trans (b3.mono HB2.out.size)
        clear b3 HB2
        go_wp2
        go_ret
        exact Ret.mk rfl HB3.out
      · rw [ea] at h1
        clear ea
        go_enter Try.func6, Try.ntmps6
        go_wp2_with fail
        refine (h1 _).mono ?_
        rintro e w1 ⟨rfl, b1⟩
        have HB1 := Lib.hid b1
        clear b1
        clear h1
        go_wp2_with fail
        refine (h2 _).mono ?_
        rintro e w2 ⟨rfl, b2⟩
        have HB2 : Hid (Below w.heap.size w w2) := HB1.out.trans (b2.mono HB1.out.size)
        clear b2 HB1
        clear h2
        go_wp2_with fail
        refine (awake_any _).mono ?_
        rintro e w3 ⟨rfl, b3⟩
        have HB3 : Hid (Below w.heap.size w w3) := HB2.out.trans (b3.mono HB2.out.size)
        clear b3 HB2
        go_wp2
        go_ret
        exact Ret.mk rfl HB3.out
    · rw [vb] at h2
      clear va vb
      rcases ea with ea | ea <;> rcases eb with eb | eb
      · rw [ea] at h1
        rw [eb] at h2
        clear ea eb
        go_enter Try.func6, Try.ntmps6
        go_wp2_with fail
        refine (h1 _).mono ?_
        rintro e w1 ⟨rfl, b1⟩
        have HB1 := Lib.hid b1
        clear b1
        clear h1
        go_wp2_with fail
        refine (h2 _).mono ?_
        rintro e w2 ⟨rfl, b2⟩
        have HB2 : Hid (Below w.heap.size w w2) := HB1.out.trans (b2.mono HB1.out.size)
        clear b2 HB1
        clear h2
        go_wp2_with fail
        refine (awake_any _).mono ?_
        rintro e w3 ⟨rfl, b3⟩
        have HB3 : Hid (Below w.heap.size w w3) := HB2.out.trans (b3.mono HB2.out.size)
        clear b3 HB2
        go_wp2
        go_ret
        exact Ret.mk rfl HB3.out
      · rw [ea] at h1
        rw [eb] at h2
        clear ea eb
        go_enter Try.func6, Try.ntmps6
        go_wp2_with fail
        refine (h1 _).mono ?_
        rintro e w1 ⟨rfl, b1⟩
        have HB1 := Lib.hid b1
        clear b1
        clear h1
        go_wp2_with fail
        refine (h2 _).mono ?_
        rintro e w2 ⟨rfl, b2⟩
        have HB2 : Hid (Below w.heap.size w w2) := HB1.out.trans (b2.mono HB1.out.size)
        clear b2 HB1
        clear h2
        go_wp2_with fail
        refine (awake_any _).mono ?_
        rintro e w3 ⟨rfl, b3⟩
        have HB3 : Hid (Below w.heap.size w w3) := HB2.out.trans (b3.mono HB2.out.size)
        clear b3 HB2
        go_wp2
        go_ret
        exact Ret.mk rfl HB3.out
      · rw [ea] at h1
        rw [eb] at h2
        clear ea eb
        go_enter Try.func6, Try.ntmps6
        go_wp2_with fail
        refine (h1 _).mono ?_
        rintro e w1 ⟨rfl, b1⟩
        have HB1 := Lib.hid b1
        clear b1
        clear h1
        go_wp2_with fail
        refine (h2 _).mono ?_
        rintro e w2 ⟨rfl, b2⟩
        have HB2 : Hid (Below w.heap.size w w2) := HB1.out.trans (b2.mono HB1.out.size)
        clear b2 HB1
        clear h2
        go_wp2_with fail
        refine (awake_any _).mono ?_
        rintro e w3 ⟨rfl, b3⟩
        have HB3 : Hid (Below w.heap.size w w3) := HB2.out.trans (b3.mono HB2.out.size)
        clear b3 HB2
        go_wp2
        go_ret
        exact Ret.mk rfl HB3.out
      · rw [ea] at h1
        rw [eb] at h2
        clear ea eb
        go_enter Try.func6, Try.ntmps6
        go_wp2_with fail
        refine (h1 _).mono ?_
        rintro e w1 ⟨rfl, b1⟩
        have HB1 := Lib.hid b1
        clear b1
        clear h1
        go_wp2_with fail
        refine (h2 _).mono ?_
        rintro e w2 ⟨rfl, b2⟩
        have HB2 : Hid (Below w.heap.size w w2) := HB1.out.trans (b2.mono HB1.out.size)
        clear b2 HB1
        clear h2
        go_wp2_with fail
        refine (awake_any _).mono ?_
        rintro e w3 ⟨rfl, b3⟩
        have HB3 : Hid (Below w.heap.size w w3) := HB2.out.trans (b3.mono HB2.out.size)
        clear b3 HB2
        go_wp2
        go_ret
        exact Ret.mk rfl HB3.out

end Go.Proofs.Ytiiojickhegapaa
