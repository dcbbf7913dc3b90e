/- Contracts of package num, second part: Div, Mod, the words' division, the signs, Mul, MulDiv. -/
import Derived.Test.YtckeplbmkjoiaaaDoorNum
namespace Go.Proofs.YtckeplbmkjoiaaaDoor
open Go.RowKit
set_option linter.unusedVariables false

theorem tdiv_in (a b : Int) (ha : -9223372036854775808 ≤ a) (ha' : a ≤ 9223372036854775807) (hn : ¬ (a = -9223372036854775808 ∧ b = -1)) : wrap64 (a.tdiv b) = a.tdiv b := by
  apply IntWalk.wrap64_in
  have h := Int.natAbs_tdiv_le_natAbs a b
  by_cases h1 : a = -9223372036854775808
  · subst h1
    have hb : b ≠ -1 := fun e => hn ⟨rfl, e⟩
    by_cases hb0 : b = 0
    · subst hb0; simp
    · by_cases hb1 : 0 < b
      · have : (-9223372036854775808 : Int).tdiv b ≤ 0 := by
          have := Int.tdiv_nonneg (a := 9223372036854775808) (b := b) (by omega) (by omega)
          rw [Int.neg_tdiv]
          omega
        omega
      · have e : (-9223372036854775808 : Int).tdiv b = (9223372036854775808 : Int) / (-b) := by
          rw [← Int.neg_tdiv_neg, Int.neg_neg, Int.tdiv_eq_ediv_of_nonneg (by omega)]
        have h2 : (9223372036854775808 : Int) / (-b) ≤ 9223372036854775807 := by
          have := Int.ediv_lt_of_lt_mul (a := 9223372036854775808) (b := 9223372036854775808) (c := -b) (by omega) (by omega)
          omega
        have h3 := Int.ediv_nonneg (a := 9223372036854775808) (b := -b) (by omega) (by omega)
        omega
  · omega

/-- The four ways of Div. -/
theorem div_zero (a : Int) : qV a 0 = 0 ∧ qE a 0 = 9 := ⟨rfl, rfl⟩
theorem div_over : qV (-9223372036854775808) (-1) = 0 ∧ qE (-9223372036854775808) (-1) = 8 := ⟨by decide, by decide⟩
theorem div_ways (a b : Int) (ha : -9223372036854775808 ≤ a) (ha' : a ≤ 9223372036854775807) (hb : b ≠ 0) (hn : ¬ (a = -9223372036854775808 ∧ b = -1)) :
    qE a b = 0 ∧ qV a b = (if a.tmod b ≠ 0 ∧ ((a < 0) ≠ (b < 0)) then a.tdiv b - 1 else a.tdiv b) ∧ Fit (a.tdiv b) ∧ Fit (qV a b) := by
  have e := fdiv_of_tdiv a b hb
  have h1 := tdiv_in a b ha ha' hn
  have hF : Fit (a.tdiv b) := by
    unfold Fit
    rw [← h1]
    unfold wrap64
    omega
  have hG : Fit (a.fdiv b) := by
    have e1 := Int.mul_tdiv_add_tmod a b
    have e2 := Int.natAbs_tdiv_le_natAbs a b
    rw [e]
    split
    · rename_i hc
      obtain ⟨c1, c2⟩ := hc
      unfold Fit at *
      by_cases hq : a.tdiv b = -9223372036854775808
      · exfalso
        have ha2 : a = -9223372036854775808 ∨ a = 9223372036854775808 := by omega
        have ha3 : a = -9223372036854775808 := by omega
        rw [hq] at e1
        by_cases hb1 : b = 1
        · subst hb1; simp at c1
        · have hb2 : 1 < b := by
            subst ha3
            have : ¬ b < 0 := by intro hh; apply c2; simp [hh]
            omega
          have m1 := Int.tmod_lt_of_pos a (by omega : 0 < b)
          have m2 := Int.lt_tmod_of_pos a (by omega : 0 < b)
          omega
      · omega
    · exact hF
  unfold qE qV
  rw [if_neg hb, if_neg hb, rV_in hG, rE_in hG]
  exact ⟨rfl, e, hF, hG⟩

/-- Mod's remainder. -/
theorem mod_ways (a b : Int) (hb : b ≠ 0) (hb1 : -9223372036854775808 ≤ b) (hb2 : b ≤ 9223372036854775807) : mE a b = 0 ∧ mV a b = (if ((a.tmod b != 0) && (!decide (a.tmod b < 0) == decide (b < 0))) = true then a.tmod b + b else a.tmod b) ∧
    (((a.tmod b != 0) && (!decide (a.tmod b < 0) == decide (b < 0))) = true → wrap64 (a.tmod b + b) = a.tmod b + b) := by
  unfold mE mV
  rw [if_neg hb, if_neg hb]
  have h := fmod_of_tmod a b hb
  refine ⟨rfl, h.trans (ite_congr (by simp) (fun _ => rfl) (fun _ => rfl)), fun hc => IntWalk.wrap64_in _ ?_⟩
  have hc2 : a.tmod b ≠ 0 ∧ ¬((a.tmod b < 0) ↔ (b < 0)) := by simpa using hc
  obtain ⟨c1, c2⟩ := hc2
  have m := Int.natAbs_tmod a b
  have n := Nat.mod_lt a.natAbs (show 0 < b.natAbs by omega)
  omega

set_option maxHeartbeats 400000 in
theorem mod_any (a b : Int) (w : World) (ha : -9223372036854775808 ≤ a) (ha' : a ≤ 9223372036854775807) (hb : -9223372036854775808 ≤ b) (hb' : b ≤ 9223372036854775807) :
    Calls Tryd.prog 29 #[.int .i64 a, .int .i64 b] w (Ret (.tuple #[.int .i64 (mV a b), .int .i64 (mE a b)]) w) := by
  by_cases h0 : b = 0
  · subst h0
    go_enter Tryd.func29, Tryd.ntmps29
    go_wp2
    go_ret2
    exact Ret.mk (two_eq rfl rfl) (Below.refl _ _)
  have H := Lib.hid (mod_ways a b h0 hb hb')
  have hb0 : (b == 0) = false := beq_eq_false_iff_ne.2 h0
  have HE := Lib.hid H.out.1.symm
  cases hm : (a.tmod b != 0) <;> cases hs : (!decide (a.tmod b < 0) == decide (b < 0))
  all_goals
    go_enter Tryd.func29, Tryd.ntmps29
    go_wp2
    go_ret2
    first
      | exact Ret.mk (two_eq ((H.out.2.2 (by rw [hm, hs]; rfl)).trans (H.out.2.1.trans (if_pos (by rw [hm, hs]; rfl))).symm) HE.out) (Below.refl _ _)
      | exact Ret.mk (two_eq (H.out.2.1.trans (if_neg (by rw [hm, hs]; simp))).symm HE.out) (Below.refl _ _)

end Go.Proofs.YtckeplbmkjoiaaaDoor
