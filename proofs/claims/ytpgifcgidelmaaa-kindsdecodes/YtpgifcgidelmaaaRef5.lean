/- The reference's Scaled at a positive exponent, its Of and its Near, over the translated program. -/
import Derived.Test.YtpgifcgidelmaaaRef4
import Derived.Test.YtpgifcgidelmaaaReal4
namespace Go.Proofs.Ytpgifcgidelmaaa
open Go.RowKit
set_option linter.unusedVariables false

theorem whole_units (m E : Nat) : m * pw (E : Int) = m * 2 ^ E * pw 0 := by
  have e : pw (E : Int) = pw 0 * 2 ^ E := pw_at 0 E E (by omega) (by decide)
  rw [e]; grind
theorem cls_zero : cls 0 = 0 := if_pos rfl
theorem scaled_whole (m E : Nat) (h : m * 2 ^ E < 140737488355328) : ScaledIs m (E : Int) (m * 2 ^ E) 0 true := by
  right
  rw [whole_units, Nat.mul_div_cancel _ (pw_pos 0), Nat.mul_mod_left, cls_zero]
  exact ⟨rfl, h, rfl, rfl⟩
theorem scaled_great (m E : Nat) (h : 140737488355328 ≤ m * 2 ^ E) : ScaledIs m (E : Int) 0 0 false := by
  left
  rw [whole_units]
  exact ⟨rfl, rfl, rfl, Nat.mul_le_mul_right _ h⟩
/-- The second loop's rounds. -/
def Rose (m E j mj : Nat) : Prop := mj = m * 2 ^ j ∧ j ≤ E ∧ (mj < 140737488355328 ∨ j = 0)
theorem Rose.start (m E : Nat) : Rose m E 0 m := ⟨by simp, Nat.zero_le _, .inr rfl⟩
theorem Rose.next {m E j mj : Nat} (h : Rose m E j mj) (hj : j < E) (hl : 2 * mj < 140737488355328) : Rose m E (j + 1) (2 * mj) :=
  ⟨by rw [h.1, Nat.pow_succ]; grind, hj, .inl hl⟩
theorem Rose.over {m E j mj : Nat} (h : Rose m E j mj) (hj : j < E) (hl : 140737488355328 ≤ 2 * mj) : ScaledIs m (E : Int) 0 0 false := by
  apply scaled_great
  have e1 : 2 * mj = m * 2 ^ (j + 1) := by rw [h.1, Nat.pow_succ]; grind
  rw [e1] at hl
  exact Nat.le_trans hl (Nat.mul_le_mul_left _ (Nat.pow_le_pow_right (by decide) hj))
theorem Rose.stay {m E j mj : Nat} (h : Rose m E j mj) (hj : j = E ∨ mj = 0) (hl : mj < 140737488355328) : ScaledIs m (E : Int) mj 0 true := by
  rcases hj with hj | hj
  · have := scaled_whole m E (by rw [← hj, ← h.1]; exact hl)
    rw [← hj] at this
    rw [← hj, h.1]; exact this
  · have hm : m = 0 := by
      have h1 := h.1
      rw [hj] at h1
      rcases Nat.mul_eq_zero.1 h1.symm with g | g
      · exact g
      · have := Nat.two_pow_pos j; omega
    have := scaled_whole m E (by rw [hm]; simp)
    rw [hm] at this ⊢
    rw [hj]
    simpa using this
theorem Rose.great {m E j mj : Nat} (h : Rose m E j mj) (hl : 140737488355328 ≤ mj) : ScaledIs m (E : Int) 0 0 false := by
  apply scaled_great
  rw [h.1] at hl
  exact Nat.le_trans hl (Nat.mul_le_mul_left _ (Nat.pow_le_pow_right (by decide) h.2.1))

set_option maxHeartbeats 400000 in
theorem scaled_pos (m E : Nat) (w : World) (hm : m < 9007199254740992) (hE : E ≤ 1200) :
    Calls Try.prog 41 #[.int .u64 m, .int .i64 (E : Int)] w (RetScaled m (E : Int) w) := by
  have HS := Lib.hid (Rose.start m E)
  have hneg : decide ((E : Int) < 0) = false := decide_eq_false (by omega)
  go_enter Try.func41, Try.ntmps41
  go_wp2
  go_loop [0, 1, 7, 8] (fun a e r h => a = .int .u64 (m : Int) ∧ e = .int .i64 (E : Int) ∧ r = .bool false ∧ h = .bool false) (fun _ _ _ _ => 0)
  case atStart => exact ⟨rfl, rfl, rfl, rfl⟩
  case round =>
    obtain ⟨rfl, rfl, rfl, rfl⟩ := hrel
    by_cases hz : m = 0
    · subst hz
      have HX : Hid (ScaledIs 0 (E : Int) 0 0 true) := HS.out.stay (.inr rfl) (by decide)
      clear HS hm
      go_wp2
      go_loop [0, 1] (fun a e => a = .int .u64 0 ∧ e = .int .i64 (E : Int)) (fun _ _ => 0)
      case atStart => exact ⟨rfl, rfl⟩
      case round =>
        obtain ⟨rfl, rfl⟩ := hrel
        by_cases hp : (0 : Int) < (E : Int)
        · go_wp2
          go_ret3
          exact ⟨0, 0, true, HX.out, rfl, rfl⟩
        · have hE0 : E = 0 := by omega
          subst hE0
          clear hp hneg
          go_wp2
          go_ret3
          exact ⟨0, 0, true, HX.out, rfl, rfl⟩
    · have hz' : ((m : Int) == 0) = false := by simp; omega
      go_wp2
      go_loop [0, 1] (fun a e => ∃ j mj : Nat, a = .int .u64 (mj : Int) ∧ e = .int .i64 ((E : Int) - j) ∧ j ≤ E ∧ 0 < mj ∧ mj < 9007199254740992 ∧ Hid (Rose m E j mj)) (fun _ e => (intOf e).toNat)
      case atStart => exact ⟨0, m, rfl, congrArg (Value.int .i64) (by omega), by omega, by omega, hm, HS⟩
      case round =>
        obtain ⟨j, mj, rfl, rfl, hj, hmj, hmj2, HR⟩ := hrel
        have hz2 : ((mj : Int) == 0) = false := by simp; omega
        have hz3 : ((mj : Int) != 0) = true := by simp; omega
        by_cases hjE : j = E
        · subst hjE
          have e0 : (j : Int) - (j : Int) = 0 := by omega
          rw [e0]
          by_cases hbig : 140737488355328 ≤ mj
          · have HX := Lib.hid (HR.out.great hbig)
            have hb : 140737488355328 ≤ (mj : Int) := by omega
            clear HR HS hz hbig hz' hneg
            go_wp2
            go_ret3
            exact ⟨0, 0, false, HX.out, rfl, rfl⟩
          · have HX := Lib.hid (HR.out.stay (.inl rfl) (by omega))
            have hb : decide (140737488355328 ≤ (mj : Int)) = false := decide_eq_false (by omega)
            clear HR HS hz hbig hmj hmj2 hm hz' hneg
            go_wp2
            go_ret3
            exact ⟨mj, 0, true, HX.out, rfl, rfl⟩
        · have hp : (0 : Int) < (E : Int) - (j : Int) := by omega
          have hp2 : (E : Int) - (j : Int) ≤ 1200 := by omega
          by_cases hbig : 140737488355328 ≤ 2 * mj
          · have HX := Lib.hid (HR.out.over (by omega) hbig)
            have hb : 140737488355328 ≤ (mj : Int) * 2 := by omega
            clear HR HS hz hbig hz' hneg
            go_wp2
            go_ret3
            exact ⟨0, 0, false, HX.out, rfl, rfl⟩
          · have HN := Lib.hid (HR.out.next (by omega) (by omega))
            have hb : decide (140737488355328 ≤ (mj : Int) * 2) = false := decide_eq_false (by omega)
            clear HR HS hz hz' hneg
            go_wp2
            go_round
            case rel => exact ⟨j + 1, 2 * mj, congrArg (Value.int .u64) (by omega), congrArg (Value.int .i64) (by omega), by omega, by omega, by omega, HN⟩
            case measure => simp [intOf]; omega

theorem scaled_any (m : Nat) (e : Int) (w : World) (hm : m < 9007199254740992) (h1 : -1200 ≤ e) (h2 : e ≤ 1200) :
    Calls Try.prog 41 #[.int .u64 m, .int .i64 e] w (RetScaled m e w) := by
  by_cases h : e < 0
  · have he : e = -((e.natAbs : Nat) : Int) := by omega
    rw [he]
    exact scaled_neg m e.natAbs w hm (by omega) (by omega)
  · have he : e = ((e.natAbs : Nat) : Int) := by omega
    rw [he]
    exact scaled_pos m e.natAbs w hm (by omega)
end Go.Proofs.Ytpgifcgidelmaaa
