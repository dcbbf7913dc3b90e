/- The walk of the law RngApart. -/
import Derived.Test.YtlpoholdphihfaaAwake5
namespace Go.Proofs.Ytlpoholdphihfaa
open Go.RowKit
set_option linter.unusedVariables false

set_option maxHeartbeats 1000000 in
theorem walk_RngApart (a0 a1 a2 : Int) (w0 : (Lit.int .u64 a0).wf = true) (w1 : (Lit.int .u64 a1).wf = true) (w2 : (Lit.int .u64 a2).wf = true) (w : World) :
    Calls Try.prog 4 #[.int .u64 a0, .int .u64 a1, .int .u64 a2] w (Ret (.bool true) w) := by
  obtain ⟨s, rfl, hs⟩ := nat_of w0
  obtain ⟨n, rfl, hn⟩ := nat_of w1
  obtain ⟨m, rfl, hm⟩ := nat_of w2
  clear w0 w1 w2
  have HI := Lib.hid (atN_same (s := s) hn hm)
  go_enter Try.func4, Try.ntmps4
  go_wp2_with fail
  refine (rngAt_any s n _ hs hn).mono ?_
  rintro e w1 ⟨rfl, b1⟩
  go_wp2_with fail
  refine (rngAt_any s m _ hs hm).mono ?_
  rintro e w2 ⟨rfl, b2⟩
  have B2 := Lib.hid (b1.trans (b2.mono b1.size))
  clear b1 b2
  obtain ⟨x, ex⟩ : ∃ z, atN s n = z := ⟨_, rfl⟩
  obtain ⟨y, ey⟩ : ∃ z, atN s m = z := ⟨_, rfl⟩
  rw [ex, ey] at HI
  rw [ex, ey]
  clear ex ey
  have ht : (((x : Int) == (y : Int)) == ((n : Int) == (m : Int))) = true := by
    have h := HI.out
    by_cases e : n = m
    · have e2 := h.2 e
      subst e e2
      simp
    · have e2 : x ≠ y := fun h2 => e (h.1 h2)
      have c1 : ((x : Int) == (y : Int)) = false := by simp; omega
      have c2 : ((n : Int) == (m : Int)) = false := by simp; omega
      rw [c1, c2]; rfl
  go_wp2_with fail
  refine (awake_any _).mono ?_
  rintro e w3 ⟨rfl, b3⟩
  have B3 := Lib.hid (B2.out.trans (b3.mono B2.out.size))
  clear b3 B2
  go_wp2
  go_ret
  exact Ret.mk rfl B3.out

end Go.Proofs.Ytlpoholdphihfaa
