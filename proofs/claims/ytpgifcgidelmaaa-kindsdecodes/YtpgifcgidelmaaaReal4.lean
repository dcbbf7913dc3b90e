/- The contracts of package real's exported functions: what each answers for every float, by its bits. -/
import Derived.Test.YtpgifcgidelmaaaReal3
namespace Go.Proofs.Ytpgifcgidelmaaa
open Go.RowKit
set_option linter.unusedVariables false

/-- A finite float's number, in units. -/
noncomputable def fval (b : Nat) : Int := match Ieee.double.read b with
  | .number s m i => val s m i
  | _ => 0
theorem fval_num {b : Nat} {s : Bool} {m : Nat} {i : Int} (h : Ieee.double.read b = .number s m i) : fval b = val s m i := by unfold fval; rw [h]
theorem fval_eq {b : Nat} {z : Int} (h : IsF b z) : fval b = z := by
  obtain ⟨s, m, i, h1, rfl, -⟩ := h
  exact fval_num h1
theorem fin_read (b : Nat) (h : (b : Int) % 9223372036854775808 < 9218868437227405312) : ∃ s m i, Ieee.double.read b = .number s m i := by
  unfold Ieee.Format.read
  have e1 : Ieee.double.binade = 4503599627370496 := by decide
  have e2 : Ieee.double.infRung = 9218868437227405312 := by decide
  have e3 : Ieee.double.signWeight = 9223372036854775808 := by decide
  rw [e1, e2, e3]
  dsimp only
  split
  · exact ⟨_, _, _, rfl⟩
  · rw [if_pos (by omega)]
    exact ⟨_, _, _, rfl⟩
theorem fin_is (b : Nat) (h : (b : Int) % 9223372036854775808 < 9218868437227405312) : IsF b (fval b) := by
  obtain ⟨s, m, i, h1⟩ := fin_read b h
  rw [fval_num h1]
  exact isF_of_read h1

/-- In 65536ths: rounded down; the nearest. -/
noncomputable def fl (b : Nat) : Int := 65536 * fval b / (pw 0 : Int)
noncomputable def rd (b : Nat) : Int := roundU (65536 * fval b)
def OfOk (b : Nat) : Prop := (b : Int) % 9223372036854775808 < 9218868437227405312 ∧ -70368744177664 ≤ fl b ∧ fl b < 70368744177664
def NearOk (b : Nat) : Prop := OfOk b ∧ rd b < 70368744177664
noncomputable instance (b : Nat) : Decidable (OfOk b) := inferInstanceAs (Decidable (_ ∧ _))
noncomputable instance (b : Nat) : Decidable (NearOk b) := inferInstanceAs (Decidable (_ ∧ _))
noncomputable def ofV (b : Nat) : Int := if OfOk b then fl b else 0
noncomputable def ofE (b : Nat) : Int := if 9218868437227405312 < (b : Int) % 9223372036854775808 then 14 else if OfOk b then 0 else 8
noncomputable def nearV (b : Nat) : Int := if NearOk b then rd b else 0
noncomputable def nearE (b : Nat) : Int := if 9218868437227405312 < (b : Int) % 9223372036854775808 then 14 else if NearOk b then 0 else 8

theorem rd_fl (b : Nat) : rd b = fl b ∨ rd b = fl b + 1 := by
  unfold rd fl
  rw [roundU_eq]
  split
  · exact .inr rfl
  · exact .inl rfl
theorem in_range {b : Nat} (h : OfOk b) : -(1073741824 * (pw 0 : Int)) ≤ fval b ∧ fval b < 1073741824 * (pw 0 : Int) := by
  obtain ⟨-, h1, h2⟩ := h
  unfold fl at h1 h2
  have p := pw_pos 0
  rw [Int.le_ediv_iff_mul_le (by omega)] at h1
  rw [Int.ediv_lt_iff_lt_mul (by omega)] at h2
  omega
theorem out_range {b : Nat} (hf : (b : Int) % 9223372036854775808 < 9218868437227405312) (h : ¬ OfOk b) : fval b < -(1073741824 * (pw 0 : Int)) ∨ 1073741824 * (pw 0 : Int) ≤ fval b := by
  by_cases h1 : -70368744177664 ≤ fl b
  · right
    have h2 : 70368744177664 ≤ fl b := by
      by_cases h2 : fl b < 70368744177664
      · exact absurd ⟨hf, h1, h2⟩ h
      · omega
    unfold fl at h2
    have p := pw_pos 0
    rw [Int.le_ediv_iff_mul_le (by omega)] at h2
    omega
  · left
    have h2 : fl b < -70368744177664 := by omega
    unfold fl at h2
    have p := pw_pos 0
    rw [Int.ediv_lt_iff_lt_mul (by omega)] at h2
    omega

theorem of_any (b : Nat) (hb : b < 18446744073709551616) (w : World) :
    Calls Try.prog 55 #[.float .f64 b] w (Ret (.tuple #[.int .i64 (ofV b), .int .i64 (ofE b)]) w) := by
  by_cases h1 : 9218868437227405312 < (b : Int) % 9223372036854775808
  · have e1 : ofV b = 0 := if_neg (fun h => by have := h.1; omega)
    have e2 : ofE b = 14 := if_pos h1
    rw [e1, e2]
    exact of_panics b 14 w (fun w => counted_nan b w hb h1)
  · by_cases h2 : (b : Int) % 9223372036854775808 = 9218868437227405312
    · have hn : ¬ OfOk b := fun h => by have := h.1; omega
      have e1 : ofV b = 0 := if_neg hn
      have e2 : ofE b = 8 := by unfold ofE; rw [if_neg h1, if_neg hn]
      rw [e1, e2]
      exact of_panics b 8 w (fun w => counted_inf b w hb h2)
    · have hf : (b : Int) % 9223372036854775808 < 9218868437227405312 := by omega
      by_cases h3 : OfOk b
      · have e1 : ofV b = fl b := if_pos h3
        have e2 : ofE b = 0 := by unfold ofE; rw [if_neg h1, if_pos h3]
        rw [e1, e2]
        obtain ⟨g1, g2⟩ := in_range h3
        obtain ⟨r, r1, r2⟩ := counted_in b (fval b) hb (fin_is b hf) g1 g2
        exact of_fine b r (fl b) w r2 (fun w => down_in r _ w r1 (by omega) (by omega))
      · have e1 : ofV b = 0 := if_neg h3
        have e2 : ofE b = 8 := by unfold ofE; rw [if_neg h1, if_neg h3]
        rw [e1, e2]
        exact of_panics b 8 w (fun w => counted_out b (fval b) w hb (fin_is b hf) (out_range hf h3))

theorem frombits (b : Nat) (w : World) : (callFunc 56 #[.int .u64 b]).run Try.prog w = .ok (.value (.float .f64 b)) w := ofBits b w

set_option maxHeartbeats 400000 in
theorem bits_any (b : Nat) (hb : b < 18446744073709551616) (w : World) :
    Calls Try.prog 52 #[.int .u64 b] w (Ret (.tuple #[.int .i64 (ofV b), .int .i64 (ofE b)]) w) := by
  have hc := frombits b
  go_enter Try.func52, Try.ntmps52
  go_wp2_with fail
  refine (of_any b hb _).mono ?_
  rintro e w1 ⟨rfl, b1⟩
  have HB := Lib.hid b1
  clear b1
  go_wp2
  go_ret2
  exact Ret.mk rfl HB.out

theorem to_out (v : Int) (w : World) (h : v < -70368744177664 ∨ 70368744177664 ≤ v) :
    Calls Try.prog 42 #[.int .i64 v] w (Ret (.tuple #[.float .f64 0, .int .i64 8]) w) :=
  to_panics v 8 w (fun w => held_out v w h)
theorem to_in (v : Int) (h1 : -70368744177664 ≤ v) (h2 : v < 70368744177664) :
    ∃ r, IsF r (v * (pw (-16) : Int)) ∧ r < 18446744073709551616 ∧ (v = 0 → r = 0) ∧ ∀ w, Calls Try.prog 42 #[.int .i64 v] w (Ret (.tuple #[.float .f64 r, .int .i64 0]) w) := by
  obtain ⟨r, r1, r2, r3, r4⟩ := exact_in v h1 h2
  exact ⟨r, r1, r2, r3, fun w => to_fine v r w (fun w => held_in v w h1 h2) r4⟩
end Go.Proofs.Ytpgifcgidelmaaa
