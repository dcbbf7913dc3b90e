/- The walk of NumDivides. -/
import Derived.Test.YtcnjapajhchfkaaLDivB
import Derived.Test.YtcnjapajhchfkaaLDivC
namespace Go.Proofs.Ytcnjapajhchfkaa
open Go.RowKit
set_option linter.unusedVariables false

theorem walk_NumDivides (a b : Int) (h0 : (Lit.int .i64 a).wf = true) (h1 : (Lit.int .i64 b).wf = true) (w : World) :
    Calls Try.prog 6 #[.int .i64 a, .int .i64 b] w (Ret (.bool true) w) := by
  obtain ⟨ha, ha'⟩ := wf_fit3 h0
  obtain ⟨hb, hb'⟩ := wf_fit3 h1
  by_cases hz : b = 0
  · subst hz
    exact divides_zero a w ha ha'
  · have hR := restH a b hz hb hb'
    have hbz : (b == 0) = false := beq_eq_false_iff_ne.2 hz
    have em : mV a b = a.fmod b := if_neg hz
    have ee : mE a b = 0 := if_neg hz
    by_cases hf : Fit (a.fdiv b)
    · have e1 : qV a b = a.fdiv b := (if_neg hz).trans (rV_in hf)
      have e2 : qE a b = 0 := (if_neg hz).trans (rE_in hf)
      have hM : -9223372036854775808 ≤ a.fdiv b ∧ a.fdiv b ≤ 9223372036854775807 ∧ a.fdiv b * b = a - a.fmod b := ⟨hf.1, hf.2, hR.rest⟩
      by_cases hy : a.fmod b = 0
      · exact divides_in0 a b _ _ w ha ha' hb hb' hbz ⟨e1.symm, e2.symm, em.symm, ee⟩ hR (by simp [hy]) hM
      · exact divides_in1 a b _ _ w ha ha' hb hb' hbz ⟨e1.symm, e2.symm, em.symm, ee⟩ hR (by simp [hy]) (hR.sign hy) hM
    · have e1 : qV a b = 0 := (if_neg hz).trans (rV_out hf)
      have e2 : qE a b = 8 := (if_neg hz).trans (rE_out hf)
      by_cases hy : a.fmod b = 0
      · exact divides_over0 a b _ _ w ha ha' hb hb' hbz ⟨e1.symm, e2.symm, em.symm, ee⟩ hR (by simp [hy])
      · exact divides_over1 a b _ _ w ha ha' hb hb' hbz ⟨e1.symm, e2.symm, em.symm, ee⟩ hR (by simp [hy]) (hR.sign hy)

end Go.Proofs.Ytcnjapajhchfkaa
