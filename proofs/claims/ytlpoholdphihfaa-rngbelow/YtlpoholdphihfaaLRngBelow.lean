/- The walk of the law RngBelow. -/
import Derived.Test.YtlpoholdphihfaaAwake5
namespace Go.Proofs.Ytlpoholdphihfaa
open Go.RowKit
set_option linter.unusedVariables false

set_option maxHeartbeats 1000000 in
theorem walk_RngBelow (a0 a1 a2 : Int) (w0 : (Lit.int .u64 a0).wf = true) (w1 : (Lit.int .u64 a1).wf = true) (w2 : (Lit.int .u64 a2).wf = true) (w : World) :
    Calls Try.prog 5 #[.int .u64 a0, .int .u64 a1, .int .u64 a2] w (Ret (.bool true) w) := by
  obtain ⟨s, rfl, hs⟩ := nat_of w0
  obtain ⟨n, rfl, hn⟩ := nat_of w1
  obtain ⟨m, rfl, hm⟩ := nat_of w2
  clear w0 w1 w2
  rcases Nat.eq_zero_or_pos m with h0 | h0
  · subst h0
    have HZ := Lib.hid (belowN_zero s n)
    go_enter Try.func5, Try.ntmps5
    go_wp2_with fail
    refine (rngBelow_any s n 0 _ hs hn hm).mono ?_
    rintro e w1 ⟨rfl, b1⟩
    rw [HZ.out]
    go_wp2_with fail
    refine (refBelow_any s n 0 _ hs hn hm).mono ?_
    rintro e w2 ⟨rfl, b2⟩
    have B2 := Lib.hid (b1.trans (b2.mono b1.size))
    clear b1 b2
    rw [HZ.out]
    clear HZ
    go_wp2_with fail
    refine (awake_any _).mono ?_
    rintro e w3 ⟨rfl, b3⟩
    have B3 := Lib.hid (B2.out.trans (b3.mono B2.out.size))
    clear b3 B2
    go_wp2
    go_ret
    exact Ret.mk rfl B3.out
  · have hlt := belowN_lt (s := s) (n := n) h0
    obtain ⟨z, ez⟩ : ∃ z, belowN s n m = z := ⟨_, rfl⟩
    have EZ := Lib.hid ez
    rw [ez] at hlt
    clear ez
    have i1 : (z : Int) < (m : Int) := by omega
    go_enter Try.func5, Try.ntmps5
    go_wp2_with fail
    refine (rngBelow_any s n m _ hs hn hm).mono ?_
    rintro e w1 ⟨rfl, b1⟩
    rw [EZ.out]
    go_wp2_with fail
    refine (refBelow_any s n m _ hs hn hm).mono ?_
    rintro e w2 ⟨rfl, b2⟩
    have B2 := Lib.hid (b1.trans (b2.mono b1.size))
    clear b1 b2
    rw [EZ.out]
    clear EZ
    go_wp2_with fail
    refine (awake_any _).mono ?_
    rintro e w3 ⟨rfl, b3⟩
    have B3 := Lib.hid (B2.out.trans (b3.mono B2.out.size))
    clear b3 B2
    go_wp2
    go_ret
    exact Ret.mk rfl B3.out

end Go.Proofs.Ytlpoholdphihfaa
