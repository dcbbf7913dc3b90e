/- law06's awake: the chapter's examples hold. -/
import Derived.Test.YthfnmgpeekjjoaaRel9
import Derived.Test.YthfnmgpeekjjoaaRel12
namespace Go.Proofs.Ythfnmgpeekjjoaa
open Go.RowKit
set_option linter.unusedVariables false

theorem wfI6 {a : Int} (h : (Lit.int .i64 a).wf = true) : -9223372036854775808 ≤ a ∧ a ≤ 9223372036854775807 := by
  simpa [Lit.wf, IntKind.min, IntKind.max, IntKind.signed, IntKind.bits] using h

/-- The chapter's corners. -/
def oneF (i : Nat) : Nat := if i < 4 then 10 * i else 0
theorem oneF_bd (i : Nat) : oneF i < 256 := by unfold oneF; split <;> omega
theorem one_val : Val 1 1 5 4 := ⟨by decide, by decide⟩
def RetOne (w : World) (e : Ending) (w' : World) : Prop :=
  ∃ A, e = .returned (.agg #[.int .i64 1, .int .i64 1, .int .i64 5, .slice A 4 4]) ∧ Bs w' A 4 oneF ∧ Below w.heap.size w w'

set_option maxHeartbeats 400000 in
theorem one_any (w : World) : Calls Try.prog 28 #[] w (RetOne w) := by
  have HB : Hid (Bs ((w.alloc (.cells #[.int .i64 1, .int .i64 1, .int .i64 5, .slice (some ⟨w.heap.size + 1, 0, none⟩) 4 4] 24)).alloc (.cells #[.int .u8 0, .int .u8 10, .int .u8 20, .int .u8 30] 5)) (some ⟨w.heap.size + 1, 0, none⟩) 4 oneF) := by
    intro _
    refine ⟨w.heap.size + 1, 0, rfl, by simp, fun i hi => ?_⟩
    rw [Nat.zero_add, cell_new _ _ _ _ _ (by simp)]
    match i, hi with
    | 0, _ => rfl
    | 1, _ => rfl
    | 2, _ => rfl
    | 3, _ => rfl
  go_enter Try.func28, Try.ntmps28
  go_wp2
  refine bodyPost_ret (v := .agg #[.int .i64 1, .int .i64 1, .int .i64 5, .slice (some ⟨w.heap.size + 1, 0, none⟩) 4 4]) (by simp [results, Try.results28, go_sem]) rfl ?_
  exact ⟨_, rfl, HB.out, ((Below.refl _ _).alloc (Nat.le_refl _) _).alloc (by simp) _⟩

theorem aw_h : hAt oneF 1 32768 32768 = 983040 := by decide +kernel
theorem aw_s : cHi oneF 1 0 0 - cLo oneF 1 0 0 = 30 := by decide +kernel
theorem aw_d : (if (5 : Int) ≤ cLo oneF 1 0 0 then 0 else 5 - cLo oneF 1 0 0) = 5 := by decide +kernel
theorem aw_e : sb (catN (tri 1 1 5) 3 oneF) (3 + 4) = ⟨#[1, 1, 5, 0, 10, 20, 30]⟩ := by
  apply ByteArray.ext
  decide +kernel

set_option maxHeartbeats 1000000 in
theorem awake_any (w : World) : Calls Try.prog 14 #[] w (Ret (.bool true) w) := by
  have m4 : 4 ≤ maxLen := by simp [maxLen]
  have C1 : Hid (∀ A u, Bs u A 4 oneF → Calls Try.prog 15 #[.agg #[.int .i64 1, .int .i64 1, .int .i64 5, .slice A 4 4], .int .i64 32768, .int .i64 32768] u (Ret (.tuple #[.int .i64 983040, .int .i64 0]) u)) := by
    intro A u hb
    have h := height_in 1 1 5 32768 32768 A 4 4 oneF u m4 hb oneF_bd one_val (by unfold On; omega)
    rw [aw_h] at h
    exact h
  have C2 : Hid (∀ A u, Calls Try.prog 15 #[.agg #[.int .i64 1, .int .i64 1, .int .i64 5, .slice A 4 4], .int .i64 65536, .int .i64 0] u (Ret (.tuple #[.int .i64 0, .int .i64 4]) u)) :=
    fun A u => height_out 1 1 5 65536 0 A 4 4 u m4 one_val (by unfold On; omega)
  have C3 : Hid (∀ A u, Bs u A 4 oneF → Calls Try.prog 17 #[.agg #[.int .i64 1, .int .i64 1, .int .i64 5, .slice A 4 4], .int .i64 0, .int .i64 0] u (Ret (.tuple #[.int .i64 30, .int .i64 0]) u)) := by
    intro A u hb
    have h := slope_in 1 1 5 0 0 A 4 4 oneF u m4 hb oneF_bd one_val (by omega) (by omega) (by omega) (by omega)
    rw [aw_s] at h
    exact h
  have C4 : Hid (∀ A u, Bs u A 4 oneF → Calls Try.prog 18 #[.agg #[.int .i64 1, .int .i64 1, .int .i64 5, .slice A 4 4], .int .i64 0, .int .i64 0] u (Ret (.tuple #[.int .i64 5, .int .i64 0]) u)) := by
    intro A u hb
    have h := depth_in 1 1 5 0 0 A 4 4 oneF u m4 hb oneF_bd one_val (by omega) (by omega) (by omega) (by omega)
    rw [aw_d] at h
    exact h
  have C5 : Hid (∀ A u, Bs u A 4 oneF → Calls Try.prog 23 #[.agg #[.int .i64 1, .int .i64 1, .int .i64 5, .slice A 4 4]] u (RetOb (3 + 4) (catN (tri 1 1 5) 3 oneF) u)) :=
    fun A u hb => encode_ok 1 1 5 A 4 4 oneF u hb m4 one_val
  clear m4
  go_enter Try.func14, Try.ntmps14
  go_wp2_with fail
  refine (one_any _).mono ?_
  rintro e w1 ⟨A, rfl, hb1, b1⟩
  have HB := Lib.hid (hb1.alloc (.cells #[.int .i64 1, .int .i64 1, .int .i64 5, .slice A 4 4] 24))
  have X1 := Lib.hid (Bx.next b1 (.int .i64 1) (.int .i64 1) (.int .i64 5) (.slice A 4 4) 24)
  clear hb1 b1
  go_wp2_with fail
  refine (C1.out _ _ HB.out).mono ?_
  rintro e w2 ⟨rfl, b2⟩
  have X2 := Lib.hid (X1.out.keep b2)
  have HB2 := Lib.hid (HB.out.keep b2)
  clear b2 X1 HB
  obtain ⟨_, c0, c1, c2, c3, _, _, _, _, _⟩ := X2.out
  go_wp2_with fail
  refine (C2.out _ _).mono ?_
  rintro e w3 ⟨rfl, b2⟩
  have X3 := Lib.hid (X2.out.keep b2)
  have HB3 := Lib.hid (HB2.out.keep b2)
  clear b2 X2 HB2 c0 c1 c2 c3
  obtain ⟨_, c0, c1, c2, c3, _, _, _, _, _⟩ := X3.out
  go_wp2_with fail
  refine (C3.out _ _ HB3.out).mono ?_
  rintro e w4 ⟨rfl, b2⟩
  have X4 := Lib.hid (X3.out.keep b2)
  have HB4 := Lib.hid (HB3.out.keep b2)
  clear b2 X3 HB3 c0 c1 c2 c3
  obtain ⟨_, c0, c1, c2, c3, _, _, _, _, _⟩ := X4.out
  go_wp2_with fail
  refine (C4.out _ _ HB4.out).mono ?_
  rintro e w5 ⟨rfl, b2⟩
  have X5 := Lib.hid (X4.out.keep b2)
  have HB5 := Lib.hid (HB4.out.keep b2)
  clear b2 X4 HB4 c0 c1 c2 c3
  obtain ⟨_, c0, c1, c2, c3, _, _, _, _, _⟩ := X5.out
  go_wp2_with fail
  refine (C5.out _ _ HB5.out).mono ?_
  rintro e w6 ⟨A6, K6, rfl, _, _, hO, b2⟩
  have X6 := Lib.hid (X5.out.keep b2)
  have hcv := conv_any hO.bs K6
  rw [aw_e] at hcv
  clear b2 X5 HB5 c0 c1 c2 c3 hO C1 C2 C3 C4 C5
  go_wp2
  go_ret
  exact Ret.mk (by simp) X6.out.below

end Go.Proofs.Ythfnmgpeekjjoaa
