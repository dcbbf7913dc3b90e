/- The chapter's examples, which every law of stage 4 asks for. -/
import Derived.Test.YtiiojickhegapaaReal4
namespace Go.Proofs.Ytiiojickhegapaa
open Go.RowKit
set_option linter.unusedVariables false

theorem wfI {k : IntKind} {v : Int} (h : (Lit.int k v).wf = true) : k.min ≤ v ∧ v ≤ k.max := by
  simpa [Lit.wf] using h

def sgn (s : Bool) (m : Nat) : Int := if s then -(m : Int) else (m : Int)
theorem fval_at {b : Nat} {s : Bool} {m k : Nat} (h : Ieee.double.read b = .number s m (-(k : Int))) : fval b = sgn s m * (pw (-(k : Int)) : Int) := by
  rw [fval_num h]
  unfold val sgn
  rw [Int.natCast_mul]
  cases s
  · simp
  · simp [Int.neg_mul]
theorem fl_at {b : Nat} {s : Bool} {m k : Nat} (h : Ieee.double.read b = .number s m (-(k : Int))) (hk : k ≤ 1200) : fl b = 65536 * sgn s m / ((2 ^ k : Nat) : Int) := by
  have e : pw 0 = pw (-(k : Int)) * 2 ^ k := pw_at (-(k : Int)) 0 k (by omega) (by omega)
  unfold fl
  rw [fval_at h, e, Int.natCast_mul, ← Int.mul_assoc, Int.mul_comm _ (pw (-(k : Int)) : Int), Int.mul_ediv_mul_of_pos _ _ (by have := pw_pos (-(k : Int)); omega)]
theorem rd_at {b : Nat} {s : Bool} {m k : Nat} (h : Ieee.double.read b = .number s m (-(k : Int))) (hk : k ≤ 1200) : rd b = (131072 * sgn s m + ((2 ^ k : Nat) : Int)) / (2 * ((2 ^ k : Nat) : Int)) := by
  have e : pw 0 = pw (-(k : Int)) * 2 ^ k := pw_at (-(k : Int)) 0 k (by omega) (by omega)
  have eh := pw_half
  have p := pw_pos (-(k : Int))
  unfold rd roundU
  rw [fval_at h]
  have e1 : (65536 * (sgn s m * (pw (-(k : Int)) : Int)) + (pw (-1) : Int)) / (pw 0 : Int) = (2 * (65536 * (sgn s m * (pw (-(k : Int)) : Int)) + (pw (-1) : Int))) / (2 * (pw 0 : Int)) := by
    rw [Int.mul_ediv_mul_of_pos _ _ (by omega)]
  have e2 : 2 * (65536 * (sgn s m * (pw (-(k : Int)) : Int)) + (pw (-1) : Int)) = (pw (-(k : Int)) : Int) * (131072 * sgn s m + ((2 ^ k : Nat) : Int)) := by
    have e3 : 2 * (pw (-1) : Int) = (pw (-(k : Int)) : Int) * ((2 ^ k : Nat) : Int) := by rw [← Int.natCast_mul, ← e]; omega
    rw [Int.mul_add, Int.mul_add, e3]; grind
  have e4 : 2 * (pw 0 : Int) = (pw (-(k : Int)) : Int) * (2 * ((2 ^ k : Nat) : Int)) := by rw [e, Int.natCast_mul]; grind
  rw [e1, e2, e4, Int.mul_ediv_mul_of_pos _ _ (by omega)]

theorem ex_a : ofV 4609434218613702656 = 98304 ∧ ofE 4609434218613702656 = 0 := by
  have h : Ieee.double.read 4609434218613702656 = .number false 6755399441055744 (-((52 : Nat) : Int)) := by decide +kernel
  have hf : fl 4609434218613702656 = 98304 := by rw [fl_at h (by decide)]; decide +kernel
  have hok : OfOk 4609434218613702656 := by unfold OfOk; rw [hf]; exact ⟨by decide, by decide, by decide⟩
  unfold ofV ofE
  rw [if_pos hok, if_pos hok, if_neg (by decide), hf]
  exact ⟨rfl, rfl⟩

theorem ex_b : ofV 13755392620465711345 = -1 ∧ ofE 13755392620465711345 = 0 := by
  have h : Ieee.double.read 13755392620465711345 = .number true 5902958103587057 (-((69 : Nat) : Int)) := by decide +kernel
  have hf : fl 13755392620465711345 = -1 := by rw [fl_at h (by decide)]; decide +kernel
  have hok : OfOk 13755392620465711345 := by unfold OfOk; rw [hf]; exact ⟨by decide, by decide, by decide⟩
  unfold ofV ofE
  rw [if_pos hok, if_pos hok, if_neg (by decide), hf]
  exact ⟨rfl, rfl⟩

theorem ex_c : ofV 4742290407621132288 = 0 ∧ ofE 4742290407621132288 = 8 := by
  have h : Ieee.double.read 4742290407621132288 = .number false 4503599627370496 (-((22 : Nat) : Int)) := by decide +kernel
  have hf : fl 4742290407621132288 = 70368744177664 := by rw [fl_at h (by decide)]; decide +kernel
  have hok : ¬ OfOk 4742290407621132288 := by unfold OfOk; rw [hf]; intro h; exact absurd h.2.2 (by decide)
  unfold ofV ofE
  rw [if_neg hok, if_neg hok, if_neg (by decide)]
  exact ⟨rfl, rfl⟩

theorem ex_d : ofV 13965662444475908096 = -70368744177664 ∧ ofE 13965662444475908096 = 0 := by
  have h : Ieee.double.read 13965662444475908096 = .number true 4503599627370496 (-((22 : Nat) : Int)) := by decide +kernel
  have hf : fl 13965662444475908096 = -70368744177664 := by rw [fl_at h (by decide)]; decide +kernel
  have hok : OfOk 13965662444475908096 := by unfold OfOk; rw [hf]; exact ⟨by decide, by decide, by decide⟩
  unfold ofV ofE
  rw [if_pos hok, if_pos hok, if_neg (by decide), hf]
  exact ⟨rfl, rfl⟩

theorem ex_e : nearV 4530621225134718976 = 1 ∧ nearE 4530621225134718976 = 0 := by
  have h : Ieee.double.read 4530621225134718976 = .number false 4503599627370496 (-((69 : Nat) : Int)) := by decide +kernel
  have hf : fl 4530621225134718976 = 0 := by rw [fl_at h (by decide)]; decide +kernel
  have hr : rd 4530621225134718976 = 1 := by rw [rd_at h (by decide)]; decide +kernel
  have hok : NearOk 4530621225134718976 := by unfold NearOk OfOk; rw [hf, hr]; exact ⟨⟨by decide, by decide, by decide⟩, by decide⟩
  unfold nearV nearE
  rw [if_pos hok, if_pos hok, if_neg (by decide), hr]
  exact ⟨rfl, rfl⟩

theorem ex_f : nearV 13753993261989494784 = 0 ∧ nearE 13753993261989494784 = 0 := by
  have h : Ieee.double.read 13753993261989494784 = .number true 4503599627370496 (-((69 : Nat) : Int)) := by decide +kernel
  have hf : fl 13753993261989494784 = -1 := by rw [fl_at h (by decide)]; decide +kernel
  have hr : rd 13753993261989494784 = 0 := by rw [rd_at h (by decide)]; decide +kernel
  have hok : NearOk 13753993261989494784 := by unfold NearOk OfOk; rw [hf, hr]; exact ⟨⟨by decide, by decide, by decide⟩, by decide⟩
  unfold nearV nearE
  rw [if_pos hok, if_pos hok, if_neg (by decide), hr]
  exact ⟨rfl, rfl⟩

theorem ex_g : ofE 9221120237041090560 = 14 := if_pos (by decide)

set_option maxHeartbeats 800000 in
theorem awake_any (w : World) : Calls Try.prog 12 #[] w (Ret (.bool true) w) := by
  have ha := fun w => of_any 4609434218613702656 (by decide) w
  rw [ex_a.1, ex_a.2] at ha
  have hb := fun w => of_any 13755392620465711345 (by decide) w
  rw [ex_b.1, ex_b.2] at hb
  have hc := fun w => of_any 4742290407621132288 (by decide) w
  rw [ex_c.1, ex_c.2] at hc
  have hd := fun w => of_any 13965662444475908096 (by decide) w
  rw [ex_d.1, ex_d.2] at hd
  have hg : ∀ w, Calls Try.prog 8 #[.int .u64 9221120237041090560] w _ := fun w => bits_any 9221120237041090560 (by decide) w
  rw [ex_g] at hg
  have he := fun w => near_any 4530621225134718976 (by decide) w
  rw [ex_e.1, ex_e.2] at he
  have hf := fun w => near_any 13753993261989494784 (by decide) w
  rw [ex_f.1, ex_f.2] at hf
  generalize ofV 9221120237041090560 = vn at hg
  go_enter Try.func12, Try.ntmps12
  go_wp2_with fail
  refine (ha _).mono ?_
  rintro e w1 ⟨rfl, b1⟩
  clear ha
  have HB1 := Lib.hid b1
  clear b1
  go_wp2_with fail
  refine (hb _).mono ?_
  rintro e w2 ⟨rfl, b2⟩
  clear hb
  have HB2 : Hid (Below w.heap.size w w2) := HB1.out.trans (b2.mono HB1.out.size)
  clear b2 HB1
  go_wp2_with fail
  refine (hc _).mono ?_
  rintro e w3 ⟨rfl, b3⟩
  clear hc
  have HB3 : Hid (Below w.heap.size w w3) := HB2.out.trans (b3.mono HB2.out.size)
  clear b3 HB2
  go_wp2_with fail
  refine (hd _).mono ?_
  rintro e w4 ⟨rfl, b4⟩
  clear hd
  have HB4 : Hid (Below w.heap.size w w4) := HB3.out.trans (b4.mono HB3.out.size)
  clear b4 HB3
  go_wp2_with fail
  refine (hg _).mono ?_
  rintro e w5 ⟨rfl, b5⟩
  clear hg
  have HB5 : Hid (Below w.heap.size w w5) := HB4.out.trans (b5.mono HB4.out.size)
  clear b5 HB4
  go_wp2_with fail
  refine (he _).mono ?_
  rintro e w6 ⟨rfl, b6⟩
  clear he
  have HB6 : Hid (Below w.heap.size w w6) := HB5.out.trans (b6.mono HB5.out.size)
  clear b6 HB5
  go_wp2_with fail
  refine (hf _).mono ?_
  rintro e w7 ⟨rfl, b7⟩
  clear hf
  have HB7 : Hid (Below w.heap.size w w7) := HB6.out.trans (b7.mono HB6.out.size)
  clear b7 HB6
  go_wp2
  go_ret
  exact Ret.mk rfl HB7.out
end Go.Proofs.Ytiiojickhegapaa
