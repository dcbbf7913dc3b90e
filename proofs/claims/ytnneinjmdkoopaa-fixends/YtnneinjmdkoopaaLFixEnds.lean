/- The walk of FixEnds. -/
import Derived.Test.YtnneinjmdkoopaaAwake2
namespace Go.Proofs.Ytnneinjmdkoopaa
open Go.RowKit
set_option linter.unusedVariables false

theorem lerp_none {a b : Int} (h : ¬ Fit (b - a)) (t : Int) : lerpV a b t = 0 ∧ lerpE a b t = 8 := ⟨if_neg (fun g => h g.1), if_neg (fun g => h g.1)⟩
theorem lerp_some {a b t : Int} (h : Fit (b - a)) (h2 : Fit ((b - a) * t / 65536)) (h3 : Fit (a + (b - a) * t / 65536)) : lerpV a b t = a + (b - a) * t / 65536 ∧ lerpE a b t = 0 := by
  unfold lerpV lerpE
  rw [if_pos ⟨h, h2⟩, if_pos ⟨h, h2⟩]
  exact ⟨rV_in h3, rE_in h3⟩
theorem lerp_first {a b : Int} (h : Fit (b - a)) (ha : Fit a) : lerpV a b 0 = a ∧ lerpE a b 0 = 0 := by
  have e : (b - a) * 0 / 65536 = 0 := by simp
  have := lerp_some (t := 0) h (by rw [e]; exact ⟨by decide, by decide⟩) (by rw [e, Int.add_zero]; exact ha)
  rw [e, Int.add_zero] at this
  exact this
theorem lerp_last {a b : Int} (h : Fit (b - a)) (hb : Fit b) : lerpV a b 65536 = b ∧ lerpE a b 65536 = 0 := by
  have e : (b - a) * 65536 / 65536 = b - a := by omega
  have e2 : a + (b - a) = b := by omega
  have := lerp_some (t := 65536) h (by rw [e]; exact h) (by rw [e, e2]; exact hb)
  rw [e, e2] at this
  exact this
theorem lerp_half {a b : Int} (h : Fit (b - a)) (ha : Fit a) (hb : Fit b) : ∃ z, lerpV a b 32768 = z ∧ lerpE a b 32768 = 0 ∧ (a ≤ b → a ≤ z ∧ z ≤ b) ∧ (b < a → z < a ∧ b ≤ z ∧ z ≤ a) := by
  have e : (b - a) * 32768 / 65536 = (b - a) / 2 := by omega
  have := lerp_some (t := 32768) h (by rw [e]; unfold Fit at *; omega) (by rw [e]; unfold Fit at *; omega)
  rw [e] at this
  exact ⟨_, this.1, this.2, by omega, by omega⟩

set_option maxHeartbeats 1000000 in
theorem ends_none (a b : Int) (w : World) (ha : -9223372036854775808 ≤ a) (ha' : a ≤ 9223372036854775807) (hb : -9223372036854775808 ≤ b) (hb' : b ≤ 9223372036854775807) (HF : Hid (¬ Fit (b - a))) :
    Calls Try.prog 6 #[.int .i64 a, .int .i64 b] w (Ret (.bool true) w) := by
  go_enter Try.func6, Try.ntmps6
  go_wp2_with fail
  refine (lerp_any _ _ _ _ ha ha' hb hb' (by omega) (by omega)).mono ?_
  rw [(lerp_none HF.out _).1, (lerp_none HF.out _).2]
  rintro e w1 ⟨rfl, b1⟩
  go_wp2_with fail
  refine (lerp_any _ _ _ _ ha ha' hb hb' (by omega) (by omega)).mono ?_
  rw [(lerp_none HF.out _).1, (lerp_none HF.out _).2]
  rintro e w2 ⟨rfl, b2⟩
  go_wp2_with fail
  refine (lerp_any _ _ _ _ ha ha' hb hb' (by omega) (by omega)).mono ?_
  rw [(lerp_none HF.out _).1, (lerp_none HF.out _).2]
  rintro e w3 ⟨rfl, b3⟩
  go_wp2_with fail
  refine (awake2_any _).mono ?_
  rintro e w4 ⟨rfl, b4⟩
  have HB : Hid (Below w.heap.size w w4) := by
    have c2 := b1.trans (b2.mono b1.size)
    have c3 := c2.trans (b3.mono c2.size)
    exact c3.trans (b4.mono c3.size)
  clear b1 b2 b3 b4
  go_wp2
  go_ret
  exact Ret.mk rfl HB.out

set_option maxHeartbeats 1000000 in
theorem ends_some (a b : Int) (w : World) (ha : -9223372036854775808 ≤ a) (ha' : a ≤ 9223372036854775807) (hb : -9223372036854775808 ≤ b) (hb' : b ≤ 9223372036854775807) (HF : Hid (Fit (b - a))) :
    Calls Try.prog 6 #[.int .i64 a, .int .i64 b] w (Ret (.bool true) w) := by
  have H0 := Lib.hid (lerp_first HF.out ⟨ha, ha'⟩)
  have H1 := Lib.hid (lerp_last HF.out ⟨hb, hb'⟩)
  obtain ⟨z, hz, hz2, hup, hdn⟩ := lerp_half HF.out ⟨ha, ha'⟩ ⟨hb, hb'⟩
  have H2 := Lib.hid (And.intro hz hz2)
  clear hz hz2
  by_cases hab : a ≤ b
  · obtain ⟨z0, z1⟩ := hup hab
    clear hup hdn
    go_enter Try.func6, Try.ntmps6
    go_wp2_with fail
    refine (lerp_any _ _ _ _ ha ha' hb hb' (by omega) (by omega)).mono ?_
    rw [H0.out.1, H0.out.2]
    rintro e w1 ⟨rfl, b1⟩
    go_wp2_with fail
    refine (lerp_any _ _ _ _ ha ha' hb hb' (by omega) (by omega)).mono ?_
    rw [H1.out.1, H1.out.2]
    rintro e w2 ⟨rfl, b2⟩
    go_wp2_with fail
    refine (lerp_any _ _ _ _ ha ha' hb hb' (by omega) (by omega)).mono ?_
    rw [H2.out.1, H2.out.2]
    rintro e w3 ⟨rfl, b3⟩
    go_wp2_with fail
    refine (awake2_any _).mono ?_
    rintro e w4 ⟨rfl, b4⟩
    have HB : Hid (Below w.heap.size w w4) := by
      have c2 := b1.trans (b2.mono b1.size)
      have c3 := c2.trans (b3.mono c2.size)
      exact c3.trans (b4.mono c3.size)
    clear b1 b2 b3 b4
    go_wp2
    go_ret
    exact Ret.mk rfl HB.out
  · obtain ⟨z0, z1, z2⟩ := hdn (by omega)
    have z3 : ¬ a ≤ z := by omega
    clear hup hdn
    go_enter Try.func6, Try.ntmps6
    go_wp2_with fail
    refine (lerp_any _ _ _ _ ha ha' hb hb' (by omega) (by omega)).mono ?_
    rw [H0.out.1, H0.out.2]
    rintro e w1 ⟨rfl, b1⟩
    go_wp2_with fail
    refine (lerp_any _ _ _ _ ha ha' hb hb' (by omega) (by omega)).mono ?_
    rw [H1.out.1, H1.out.2]
    rintro e w2 ⟨rfl, b2⟩
    go_wp2_with fail
    refine (lerp_any _ _ _ _ ha ha' hb hb' (by omega) (by omega)).mono ?_
    rw [H2.out.1, H2.out.2]
    rintro e w3 ⟨rfl, b3⟩
    go_wp2_with fail
    refine (awake2_any _).mono ?_
    rintro e w4 ⟨rfl, b4⟩
    have HB : Hid (Below w.heap.size w w4) := by
      have c2 := b1.trans (b2.mono b1.size)
      have c3 := c2.trans (b3.mono c2.size)
      exact c3.trans (b4.mono c3.size)
    clear b1 b2 b3 b4
    go_wp2
    go_ret
    exact Ret.mk rfl HB.out

theorem walk_FixEnds (a b : Int) (h0 : (Lit.int .i64 a).wf = true) (h1 : (Lit.int .i64 b).wf = true) (w : World) :
    Calls Try.prog 6 #[.int .i64 a, .int .i64 b] w (Ret (.bool true) w) := by
  obtain ⟨ha, ha'⟩ := wfI h0
  obtain ⟨hb, hb'⟩ := wfI h1
  by_cases hf : Fit (b - a)
  · exact ends_some a b w ha ha' hb hb' hf
  · exact ends_none a b w ha ha' hb hb' hf

end Go.Proofs.Ytnneinjmdkoopaa
