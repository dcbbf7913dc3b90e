/- law08's few, in and awake. -/
import Derived.Test.YtljedkceicahaaaRy11
import Derived.Test.YtljedkceicahaaaRy6
namespace Go.Proofs.Ytljedkceicahaaa
open Go.RowKit Go.Shelf
set_option linter.unusedVariables false
attribute [local go_sem] Oper.semAt_some eq_two

set_option maxHeartbeats 400000 in
theorem few8_any (W H T : Int) (A : Option Addr) (n c : Nat) (p : Nat → Nat) (w : World) (hb : Bs w A n p) (hn : n ≤ c) (hc : c ≤ maxLen) :
    Calls Try.prog 14 #[.agg #[.int .i64 W, .int .i64 H, .int .i64 T, .slice A n c]] w (Ret (.agg #[.int .i64 W, .int .i64 H, .int .i64 T, .slice A (fewN n) c]) w) := by
  unfold maxLen at hc
  by_cases h : 4300 < n
  · have HE : Hid (fewN n = 4300) := by show _ = _; unfold fewN; rw [if_pos h]
    obtain ⟨g, o, rfl, _, _⟩ := hb (by omega)
    clear hb
    have h' : (4300 : Int) < (n : Int) := by omega
    have hc0 : ¬ c = 0 := by omega
    have hc1 : (4300 : Int) ≤ (c : Int) := by omega
    go_enter Try.func14, Try.ntmps14
    go_wp2
    refine bodyPost_ret (v := .agg #[.int .i64 W, .int .i64 H, .int .i64 T, .slice (some ⟨g, o, none⟩) 4300 c]) (by simp [results, Try.results14, go_sem]) rfl ?_
    rw [HE.out]
    exact Ret.mk rfl (((Below.refl _ _).alloc (Nat.le_refl _) _).alloc (by simp) _)
  · have HE : Hid (fewN n = n) := by show _ = _; unfold fewN; rw [if_neg h]
    clear hb
    have h' : ¬ (4300 : Int) < (n : Int) := by omega
    go_enter Try.func14, Try.ntmps14
    go_wp2
    refine bodyPost_ret (v := .agg #[.int .i64 W, .int .i64 H, .int .i64 T, .slice A n c]) (by simp [results, Try.results14, go_sem]) rfl ?_
    rw [HE.out]
    exact Ret.mk rfl (((Below.refl _ _).alloc (Nat.le_refl _) _).alloc (by simp) _)

/-- A place on the greatest map. -/
def In1 (v : Int) : Prop := 0 ≤ v ∧ v ≤ 63
instance (v : Int) : Decidable (In1 v) := by unfold In1; exact inferInstance
theorem in8_any (v : Int) (w : World) : Calls Try.prog 10 #[.int .i64 v] w fun e w' => e = .returned (.bool (decide (In1 v))) ∧ w = w' := by
  by_cases h1 : 0 ≤ v
  · by_cases h2 : v ≤ 63
    · have HE : Hid (decide (In1 v) = true) := decide_eq_true ⟨h1, h2⟩
      rw [HE.out]
      go_enter Try.func10, Try.ntmps10
      go_wp2
      go_ret
      exact ⟨by simp, rfl⟩
    · have HE : Hid (decide (In1 v) = false) := decide_eq_false (fun g => h2 g.2)
      rw [HE.out]
      go_enter Try.func10, Try.ntmps10
      go_wp2
      go_ret
      exact ⟨by simp, rfl⟩
  · have HE : Hid (decide (In1 v) = false) := decide_eq_false (fun g => h1 g.1)
    rw [HE.out]
    go_enter Try.func10, Try.ntmps10
    go_wp2
    go_ret
    exact ⟨by simp, rfl⟩

/-- The chapter's corners. -/
def nd (i : Nat) : Nat := if i = 1 then 9 else 0
theorem nd_bd (i : Nat) : nd i < 256 := by unfold nd; split <;> omega
theorem nd_val : Val 3 1 0 8 := ⟨by decide, by decide⟩
theorem nd_a : seesB nd 3 0 0 2 0 (cLo nd 3 0 0 + 0) (cLo nd 3 2 0 + 0) = false := by decide +kernel
theorem nd_b : seesB nd 3 0 0 2 0 (cLo nd 3 0 0 + 9) (cLo nd 3 2 0 + 9) = true := by decide +kernel
theorem nd_made (w : World) : Bs (w.alloc (.cells #[.int .u8 0, .int .u8 9, .int .u8 0, .int .u8 0, .int .u8 0, .int .u8 0, .int .u8 0, .int .u8 0] 5)) (some ⟨w.heap.size, 0, none⟩) 8 nd := by
  intro _
  refine ⟨w.heap.size, 0, rfl, by simp, fun i hi => ?_⟩
  rw [Nat.zero_add, cell_new _ _ _ _ _ rfl]
  match i, hi with
  | 0, _ => rfl
  | 1, _ => rfl
  | 2, _ => rfl
  | 3, _ => rfl
  | 4, _ => rfl
  | 5, _ => rfl
  | 6, _ => rfl
  | 7, _ => rfl
theorem ln_31 : lng 0 0 3 1 = 3 := by decide
theorem ln_x : cq 0 3 3 2 = 2 := by decide
theorem ln_y : cq 0 1 3 2 = 1 := by decide

set_option maxRecDepth 100000 in
set_option maxHeartbeats 1000000 in
theorem awake_any (w : World) : Calls Try.prog 11 #[] w (Ret (.bool true) w) := by
  have m8 : 8 ≤ maxLen := by simp [maxLen]
  have C1 : Hid (∀ A u, Bs u A 8 nd → Calls Try.prog 20 #[.agg #[.int .i64 3, .int .i64 1, .int .i64 0, .slice A 8 8], .agg #[.int .i64 0, .int .i64 0], .agg #[.int .i64 2, .int .i64 0], .int .i64 0, .int .i64 0] u (Ret (.tuple #[.bool false, .int .i64 0]) u)) := by
    intro A u hb
    have h := Sees_in 3 1 0 0 0 2 0 0 0 A 8 8 nd u m8 hb nd_bd nd_val (by decide) (by decide) (by decide)
    rw [nd_a] at h
    exact h
  have C2 : Hid (∀ A u, Bs u A 8 nd → Calls Try.prog 20 #[.agg #[.int .i64 3, .int .i64 1, .int .i64 0, .slice A 8 8], .agg #[.int .i64 0, .int .i64 0], .agg #[.int .i64 2, .int .i64 0], .int .i64 9, .int .i64 9] u (Ret (.tuple #[.bool true, .int .i64 0]) u)) := by
    intro A u hb
    have h := Sees_in 3 1 0 0 0 2 0 9 9 A 8 8 nd u m8 hb nd_bd nd_val (by decide) (by decide) (by decide)
    rw [nd_b] at h
    exact h
  have C3 : Hid (∀ u : World, Calls Try.prog 9 #[.int .i64 0, .int .i64 0, .int .i64 3, .int .i64 1] u fun e w' => ∃ g K, e = .returned (.tuple #[.slice (some ⟨g, 0, none⟩) 4 K, .int .i64 0]) ∧ w'.cell? ⟨g, 4, none⟩ = some (.int .i64 2) ∧ w'.cell? ⟨g, 5, none⟩ = some (.int .i64 1) ∧ Below u.heap.size u w') := by
    intro u
    refine (Line_in 0 0 3 1 u (by unfold In4; decide)).mono ?_
    rintro e w' ⟨g, K, rfl, h1, h2, h3, h4⟩
    have h5 := h3 2 (by rw [ln_31]; decide)
    rw [ln_31, ln_x, ln_y] at h5
    rw [ln_31]
    exact ⟨g, K, rfl, h5.1, h5.2, h4⟩
  clear m8
  go_enter Try.func11, Try.ntmps11
  go_wp2_with fail
  refine (C3.out _).mono ?_
  rintro e w1 ⟨g, K, rfl, q0, q1, b1⟩
  obtain ⟨V1, hV1⟩ : ∃ V1, w1.alloc (.cells #[.int .u8 0, .int .u8 9, .int .u8 0, .int .u8 0, .int .u8 0, .int .u8 0, .int .u8 0, .int .u8 0] 5) = V1 := ⟨_, rfl⟩
  have e1 : Below w1.heap.size w1 V1 := by rw [← hV1]; exact (Below.refl _ _).alloc (Nat.le_refl _) _
  have e2 : V1.heap.size = w1.heap.size + 1 := by rw [← hV1]; simp
  have k1 : Bs V1 (some ⟨w1.heap.size, 0, none⟩) 8 nd := by rw [← hV1]; exact nd_made w1
  have X0 := Lib.hid (Bx.next (b1.trans (e1.mono b1.size)) (.int .i64 3) (.int .i64 1) (.int .i64 0) (.slice (some ⟨w1.heap.size, 0, none⟩) 8 8) 24)
  have e3 : Below V1.heap.size V1 (V1.alloc (.cells #[.int .i64 3, .int .i64 1, .int .i64 0, .slice (some ⟨w1.heap.size, 0, none⟩) 8 8] 24)) := (Below.refl _ _).alloc (Nat.le_refl _) _
  have K0 := Lib.hid (k1.keep e3)
  have Q0 := Lib.hid (kc e3 (kc e1 q0))
  have Q1 := Lib.hid (kc e3 (kc e1 q1))
  rw [e2] at X0
  obtain ⟨-, c0, c1, c2, c3, -, -, -, -, -⟩ := X0.out
  rw [← hV1] at c0 c1 c2 c3
  have HV1 := Lib.hid hV1
  clear q0 q1 b1 e1 e2 e3 k1 hV1
  go_wp2_with fail
  rw [HV1.out]
  clear c0 c1 c2 c3 HV1
  generalize V1.alloc (.cells #[.int .i64 3, .int .i64 1, .int .i64 0, .slice (some ⟨w1.heap.size, 0, none⟩) 8 8] 24) = V2 at *
  refine (C1.out _ _ K0.out).mono ?_
  rintro e w2 ⟨rfl, b2⟩
  have X2 := Lib.hid (X0.out.keep b2)
  have K2 := Lib.hid (K0.out.keep b2)
  have R0 := Lib.hid (kc b2 Q0.out)
  have R1 := Lib.hid (kc b2 Q1.out)
  clear b2 X0 K0 Q0 Q1
  obtain ⟨-, c0, c1, c2, c3, -, -, -, -, -⟩ := X2.out
  go_wp2_with fail
  refine (C2.out _ _ K2.out).mono ?_
  rintro e w3 ⟨rfl, b2⟩
  have X3 := Lib.hid (X2.out.keep b2)
  have r0 := kc b2 R0.out
  have r1 := kc b2 R1.out
  clear b2 X2 K2 R0 R1 c0 c1 c2 c3
  go_wp2
  go_ret
  exact Ret.mk rfl X3.out.below

end Go.Proofs.Ytljedkceicahaaa
