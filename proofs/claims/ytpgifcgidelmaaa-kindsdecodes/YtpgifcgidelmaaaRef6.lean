/- The reference's Of and Near, over the translated program. -/
import Derived.Test.YtpgifcgidelmaaaRef5
namespace Go.Proofs.Ytpgifcgidelmaaa
open Go.RowKit
set_option linter.unusedVariables false

theorem x_mag (s : Bool) (m : Nat) (i : Int) (hi : -1074 ≤ i) : 65536 * val s m i = if s then -((m * pw (i + 16) : Nat) : Int) else ((m * pw (i + 16) : Nat) : Int) := by
  have e : pw (i + 16) = pw i * 2 ^ 16 := pw_at i (i + 16) 16 (by omega) (by omega)
  have e2 : m * pw (i + 16) = 65536 * (m * pw i) := by rw [e]; grind
  rw [e2]
  unfold val
  cases s
  · simp only [Bool.false_eq_true, if_false]; omega
  · simp only [if_true]; omega

theorem cls_lim (r : Nat) : 0 ≤ cls r ∧ cls r ≤ 3 ∧ (cls r = 0 ↔ r = 0) ∧ (2 ≤ cls r ↔ pw (-1) ≤ r) ∧ ((0 < cls r ∧ cls r ≤ 2) ↔ (0 < r ∧ r ≤ pw (-1))) := by
  have p := pw_pos (-1)
  unfold cls
  by_cases h1 : r = 0
  · rw [if_pos h1]; omega
  · rw [if_neg h1]
    by_cases h2 : r < pw (-1)
    · rw [if_pos h2]; omega
    · rw [if_neg h2]
      by_cases h3 : r = pw (-1)
      · rw [if_pos h3]; omega
      · rw [if_neg h3]; omega

theorem ref_false {b : Nat} {s : Bool} {m : Nat} {i : Int} {q : Nat} {k : Int} (h : Ieee.double.read b = .number s m i) (hS : ScaledIs m (i + 16) q k false) : ¬ OfOk b := by
  rcases hS with ⟨-, -, -, h3⟩ | ⟨h1, -⟩
  · intro ho
    obtain ⟨g1, g2⟩ := in_range ho
    have hx := x_mag s m i (read_lim h).2.1
    rw [← fval_num h] at hx
    have p := pw_pos 0
    generalize m * pw (i + 16) = Z at *
    cases s
    · simp only [Bool.false_eq_true, if_false] at hx; omega
    · simp only [if_true] at hx; omega
  · cases h1

theorem ref_true {b : Nat} {s : Bool} {m : Nat} {i : Int} {q : Nat} {k : Int} (h : Ieee.double.read b = .number s m i) (hS : ScaledIs m (i + 16) q k true) :
    q < 140737488355328 ∧ 0 ≤ k ∧ k ≤ 3 ∧ fl b = (if s then (if 0 < k then -(q : Int) - 1 else -(q : Int)) else (q : Int)) ∧
    rd b = (if s then (if 0 < k ∧ k ≤ 2 then fl b + 1 else fl b) else (if 2 ≤ k then fl b + 1 else fl b)) := by
  rcases hS with ⟨h1, -⟩ | ⟨-, hq, h2, h3⟩
  · cases h1
  · have hx := x_mag s m i (read_lim h).2.1
    rw [← fval_num h] at hx
    have p := pw_pos 0
    have pe := pw_half
    have p1 := pw_pos (-1)
    have hu := roundU_eq (65536 * fval b)
    unfold rd fl
    rw [hu, hx]
    obtain ⟨c1, c2, c3, c4, c5⟩ := cls_lim (m * pw (i + 16) % pw 0)
    rw [← h3] at c1 c2 c3 c4 c5
    have hd := Nat.div_add_mod (m * pw (i + 16)) (pw 0)
    have hm := Nat.mod_lt (m * pw (i + 16)) p
    rw [← h2] at hd
    clear h2 h3 hu
    generalize m * pw (i + 16) % pw 0 = r at *
    generalize m * pw (i + 16) = Z at *
    have hZ : (Z : Int) = (pw 0 : Int) * (q : Int) + (r : Int) := by rw [← hd, Int.natCast_add, Int.natCast_mul]
    refine ⟨hq, c1, c2, ?_⟩
    cases s
    · simp only [Bool.false_eq_true, if_false]
      have a1 : (Z : Int) / (pw 0 : Int) = q := by
        have e : (q : Int) * (pw 0 : Int) = (pw 0 : Int) * (q : Int) := Int.mul_comm _ _
        rw [Int.ediv_eq_iff_of_pos (by omega), hZ, e]; omega
      have a2 : (Z : Int) % (pw 0 : Int) = r := by
        rw [Int.emod_def, a1, hZ]; omega
      rw [a1, a2]
      refine ⟨rfl, ?_⟩
      by_cases hk : 2 ≤ k
      · have g : (pw (-1) : Int) ≤ (r : Int) := by omega
        rw [if_pos hk, if_pos g]
      · have g : ¬ (pw (-1) : Int) ≤ (r : Int) := by omega
        rw [if_neg hk, if_neg g]
    · simp only [if_true]
      by_cases hr : r = 0
      · have hk : k = 0 := by omega
        have a1 : -(Z : Int) / (pw 0 : Int) = -(q : Int) := by
          have e : -(q : Int) * (pw 0 : Int) = -((pw 0 : Int) * (q : Int)) := by grind
          rw [Int.ediv_eq_iff_of_pos (by omega), hZ, e]; omega
        have a2 : -(Z : Int) % (pw 0 : Int) = 0 := by
          have e : (pw 0 : Int) * -(q : Int) = -((pw 0 : Int) * (q : Int)) := by grind
          rw [Int.emod_def, a1, hZ, e]; omega
        have g : ¬ (pw (-1) : Int) ≤ 0 := by omega
        have g1 : ¬ (0 < k) := by omega
        have g2 : ¬ (0 < k ∧ k ≤ 2) := by omega
        rw [a1, a2, if_neg g, if_neg g1, if_neg g2]
        exact ⟨rfl, rfl⟩
      · have hk : 0 < k := by omega
        have a1 : -(Z : Int) / (pw 0 : Int) = -(q : Int) - 1 := by
          have e : (-(q : Int) - 1) * (pw 0 : Int) = -((pw 0 : Int) * (q : Int)) - (pw 0 : Int) := by grind
          rw [Int.ediv_eq_iff_of_pos (by omega), hZ, e]; omega
        have a2 : -(Z : Int) % (pw 0 : Int) = (pw 0 : Int) - r := by
          have e : (pw 0 : Int) * (-(q : Int) - 1) = -((pw 0 : Int) * (q : Int)) - (pw 0 : Int) := by grind
          rw [Int.emod_def, a1, hZ, e]; omega
        rw [a1, a2, if_pos hk]
        refine ⟨rfl, ?_⟩
        by_cases hk2 : 0 < k ∧ k ≤ 2
        · have g : (pw (-1) : Int) ≤ (pw 0 : Int) - r := by omega
          rw [if_pos hk2, if_pos g]
        · have g : ¬ (pw (-1) : Int) ≤ (pw 0 : Int) - r := by omega
          rw [if_neg hk2, if_neg g]

theorem ofE_fin {b : Nat} (hf : (b : Int) % 9223372036854775808 < 9218868437227405312) : ofE b = if OfOk b then 0 else 8 := by unfold ofE; rw [if_neg (by omega)]

set_option maxHeartbeats 400000 in
theorem refOf_any (b : Nat) (hb : b < 18446744073709551616) (w : World) :
    Calls Try.prog 32 #[.int .u64 b] w (Ret (.tuple #[.int .i64 (ofV b), .int .i64 (ofE b)]) w) := by
  by_cases h1 : 9218868437227405312 < (b : Int) % 9223372036854775808
  · have e1 : ofV b = 0 := if_neg (fun h => by have := h.1; omega)
    have e2 : ofE b = 14 := if_pos h1
    rw [e1, e2]
    have hc := fun w => parts_nan b w hb h1
    clear e1 e2 h1
    go_enter Try.func32, Try.ntmps32
    go_wp2_with fail
    refine (hc _).mono ?_
    rintro e w1 ⟨rfl, b1⟩
    have HB := Lib.hid b1
    clear b1 hc
    go_wp2
    go_ret2
    exact Ret.mk rfl HB.out
  · by_cases h2 : (b : Int) % 9223372036854775808 = 9218868437227405312
    · have hn : ¬ OfOk b := fun h => by have := h.1; omega
      have e1 : ofV b = 0 := if_neg hn
      have e2 : ofE b = 8 := by unfold ofE; rw [if_neg h1, if_neg hn]
      rw [e1, e2]
      have hc := fun w => parts_inf b w hb h2
      clear e1 e2 h1 h2 hn
      go_enter Try.func32, Try.ntmps32
      go_wp2_with fail
      refine (hc _).mono ?_
      rintro e w1 ⟨rfl, b1⟩
      have HB := Lib.hid b1
      clear b1 hc
      go_wp2
      go_ret2
      exact Ret.mk rfl HB.out
    · have hf : (b : Int) % 9223372036854775808 < 9218868437227405312 := by omega
      obtain ⟨s, m, i, hr⟩ := fin_read b hf
      obtain ⟨l1, l2, l3, -⟩ := read_lim hr
      have HE := Lib.hid (ofE_fin hf)
      have hc := fun w => parts_num b s m i w hb hr
      have hs := fun w => scaled_any m (i + 16) w (by omega) (by omega) (by omega)
      have i1 : -9223372036854775808 ≤ i + 16 := by omega
      have i2 : i + 16 ≤ 9223372036854775807 := by omega
      clear l1 l2 l3
      have HR := Lib.hid hr
      have HF := Lib.hid hf
      clear h1 h2 hr hf
      go_enter Try.func32, Try.ntmps32
      go_wp2_with fail
      refine (hc _).mono ?_
      rintro e w1 ⟨rfl, b1⟩
      have HB := Lib.hid b1
      clear b1 hc
      go_wp2_with fail
      refine (hs _).mono ?_
      rintro e w2 ⟨q, k, ok, hS, rfl, rfl⟩
      clear hs i1 i2
      have hE := HE.out
      clear HE
      cases ok
      · have hn := ref_false HR.out hS
        have e1 : ofV b = 0 := if_neg hn
        rw [if_neg hn] at hE
        have HV' := Lib.hid e1
        have HE' := Lib.hid hE
        clear e1 hE hn hS
        go_wp2
        go_ret2
        exact Ret.mk (two_eq HV'.out.symm HE'.out.symm) HB.out
      · obtain ⟨t1, t2, t3, t4, -⟩ := ref_true HR.out hS
        clear hS
        have HOk : Hid (OfOk b ↔ (-70368744177664 ≤ fl b ∧ fl b < 70368744177664)) := ⟨fun h => h.2, fun h => ⟨HF.out, h⟩⟩
        have hV : ofV b = if OfOk b then fl b else 0 := rfl
        have hcv : bits BinOp.and IntKind.u64 0 1 = 0 := by decide
        cases s
        · simp only [Bool.false_eq_true, if_false] at t4
          by_cases hbig : (q : Int) < 70368744177664
          · have hok : OfOk b := HOk.out.2 ⟨by omega, by omega⟩
            rw [if_pos hok] at hV hE
            have HV' := Lib.hid (hV.trans t4)
            have HE' := Lib.hid hE
            have hb2 : decide ((q : Int) < -70368744177664) = false := decide_eq_false (by omega)
            have hb3 : decide (70368744177664 ≤ (q : Int)) = false := decide_eq_false (by omega)
            have hb4 : (q : Int) ≤ 9223372036854775807 := by omega
            clear hV hE hok HOk HR HF t4 t1 t2 t3 hbig
            go_wp2
            go_ret2
            exact Ret.mk (two_eq HV'.out.symm HE'.out.symm) HB.out
          · have hn : ¬ OfOk b := fun h => by have := (HOk.out.1 h).2; omega
            rw [if_neg hn] at hV hE
            have HV' := Lib.hid hV
            have HE' := Lib.hid hE
            have hb2 : 70368744177664 ≤ (q : Int) := by omega
            clear hV hE hn HOk HR HF t4 hbig
            go_wp2
            go_ret2
            exact Ret.mk (two_eq HV'.out.symm HE'.out.symm) HB.out
        · simp only [if_true] at t4
          by_cases hk : 0 < k
          · rw [if_pos hk] at t4
            by_cases hbig : -(q : Int) - 1 < -70368744177664
            · have hn : ¬ OfOk b := fun h => by have := (HOk.out.1 h).1; omega
              rw [if_neg hn] at hV hE
              have HV' := Lib.hid hV
              have HE' := Lib.hid hE
              clear hV hE hn HOk HR HF t4
              go_wp2
              go_ret2
              exact Ret.mk (two_eq HV'.out.symm HE'.out.symm) HB.out
            · have hok : OfOk b := HOk.out.2 ⟨by omega, by omega⟩
              rw [if_pos hok] at hV hE
              have HV' := Lib.hid (hV.trans t4)
              have HE' := Lib.hid hE
              have hb2 : decide (-(q : Int) - 1 < -70368744177664) = false := decide_eq_false (by omega)
              have hb3 : decide (70368744177664 ≤ -(q : Int) - 1) = false := decide_eq_false (by omega)
              have hb4 : (q : Int) ≤ 140737488355328 := by omega
              clear hV hE hok HOk HR HF t4 hbig t1 t2 t3
              go_wp2
              go_ret2
              exact Ret.mk (two_eq HV'.out.symm HE'.out.symm) HB.out
          · have hk0 : k = 0 := by omega
            subst hk0
            rw [if_neg hk] at t4
            by_cases hbig : -(q : Int) < -70368744177664
            · have hn : ¬ OfOk b := fun h => by have := (HOk.out.1 h).1; omega
              rw [if_neg hn] at hV hE
              have HV' := Lib.hid hV
              have HE' := Lib.hid hE
              clear hV hE hn HOk HR HF t4
              go_wp2
              go_ret2
              exact Ret.mk (two_eq HV'.out.symm HE'.out.symm) HB.out
            · have hok : OfOk b := HOk.out.2 ⟨by omega, by omega⟩
              rw [if_pos hok] at hV hE
              have HV' := Lib.hid (hV.trans t4)
              have HE' := Lib.hid hE
              have hb2 : decide (70368744177664 < (q : Int)) = false := decide_eq_false (by omega)
              have hb3 : decide ((q : Int) ≤ -70368744177664) = false := decide_eq_false (by omega)
              have hb5 : decide (-(q : Int) < -70368744177664) = false := decide_eq_false (by omega)
              have hb6 : decide (70368744177664 ≤ -(q : Int)) = false := decide_eq_false (by omega)
              have hb4 : (q : Int) ≤ 140737488355328 := by omega
              clear hV hE hok HOk HR HF t4 hbig t1 t2 t3
              go_wp2
              go_ret2
              exact Ret.mk (two_eq HV'.out.symm HE'.out.symm) HB.out

theorem nearE_fin {b : Nat} (hf : (b : Int) % 9223372036854775808 < 9218868437227405312) : nearE b = if NearOk b then 0 else 8 := by unfold nearE; rw [if_neg (by omega)]

end Go.Proofs.Ytpgifcgidelmaaa
