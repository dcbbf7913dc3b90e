/- The walk of FixDivs. -/
import Derived.Test.YtnneinjmdkoopaaAwake2
import Derived.Test.YtnneinjmdkoopaaLawFloors
import Derived.Test.YtnneinjmdkoopaaRefFloor
namespace Go.Proofs.Ytnneinjmdkoopaa
open Go.RowKit
set_option linter.unusedVariables false

set_option maxHeartbeats 1000000 in
theorem divs_zero (a b : Int) (w : World) (ha : -9223372036854775808 ≤ a) (ha' : a ≤ 9223372036854775807) (hb : b = 0) :
    Calls Try.prog 4 #[.int .i64 a, .int .i64 b] w (Ret (.bool true) w) := by
  subst hb
  have HE : Hid (qV (a * 65536) 0 = 0 ∧ qE (a * 65536) 0 = 9) := ⟨if_pos rfl, if_pos rfl⟩
  go_enter Try.func4, Try.ntmps4
  go_wp2_with fail
  refine (fixDiv_any _ _ _ ha ha' (by omega) (by omega)).mono ?_
  rw [HE.out.1, HE.out.2]
  rintro e w1 ⟨rfl, b1⟩
  go_wp2_with fail
  refine (awake2_any _).mono ?_
  rintro e w5 ⟨rfl, b5⟩
  have HB : Hid (Below w.heap.size w w5) := b1.trans (b5.mono b1.size)
  clear b1 b5
  go_wp2
  go_ret
  exact Ret.mk rfl HB.out

set_option maxHeartbeats 1000000 in
theorem divs_some (a b : Int) (w : World) (ha : -9223372036854775808 ≤ a) (ha' : a ≤ 9223372036854775807) (hb : -9223372036854775808 ≤ b) (hb' : b ≤ 9223372036854775807) (hn : b ≠ 0) :
    Calls Try.prog 4 #[.int .i64 a, .int .i64 b] w (Ret (.bool true) w) := by
  have HE : Hid (qV (a * 65536) b = rV ((a * 65536).fdiv b) ∧ qE (a * 65536) b = rE ((a * 65536).fdiv b)) := ⟨if_neg hn, if_neg hn⟩
  have SP := Lib.hid (prod_of ha ha' (b := 65536) (by decide) (by decide))
  have SW := Lib.hid (word_of hb hb')
  have HN := Lib.hid hn
  have hz : (b == 0) = false := beq_eq_false_iff_ne.2 hn
  clear hn
  go_enter Try.func4, Try.ntmps4
  go_wp2_with fail
  refine (fixDiv_any _ _ _ ha ha' hb hb').mono ?_
  rw [HE.out.1, HE.out.2]
  rintro e w1 ⟨rfl, b1⟩
  go_wp2_with fail
  refine (refMul_any _ _ _ ha ha' (by omega) (by omega) (small_prod SP.out)).mono ?_
  rintro e w2 ⟨v2, rfl, hv2, b2⟩
  have HV2 := Lib.hid hv2
  clear hv2
  go_wp2_with fail
  refine (of_any _ _ hb hb').mono ?_
  rintro e w3 ⟨v3, rfl, hv3, b3⟩
  have HV3 := Lib.hid hv3
  clear hv3
  go_wp2_with fail
  refine (floors_true v2 v3 (a * 65536) b _ (HV2.out.keep b3) HV3.out SP.out SW.out HN.out).mono ?_
  rintro e w4 ⟨rfl, b4⟩
  have c2 := b1.trans (b2.mono b1.size)
  have c3 := c2.trans (b3.mono c2.size)
  have c4 := c3.trans (b4.mono c3.size)
  clear c2 c3 b1 b2 b3 b4
  go_wp2_with fail
  refine (awake2_any _).mono ?_
  rintro e w5 ⟨rfl, b5⟩
  have HB : Hid (Below w.heap.size w w5) := c4.trans (b5.mono c4.size)
  clear c4 b5
  go_wp2
  go_ret
  exact Ret.mk rfl HB.out

theorem walk_FixDivs (a b : Int) (h0 : (Lit.int .i64 a).wf = true) (h1 : (Lit.int .i64 b).wf = true) (w : World) :
    Calls Try.prog 4 #[.int .i64 a, .int .i64 b] w (Ret (.bool true) w) := by
  obtain ⟨ha, ha'⟩ := wfI h0
  obtain ⟨hb, hb'⟩ := wfI h1
  by_cases h : b = 0
  · exact divs_zero a b w ha ha' h
  · exact divs_some a b w ha ha' hb hb' h

end Go.Proofs.Ytnneinjmdkoopaa
