/- The walk of NumClamps. -/
import Derived.Test.YtcnjapajhchfkaaAwake
namespace Go.Proofs.Ytcnjapajhchfkaa
open Go.RowKit
set_option linter.unusedVariables false

set_option maxHeartbeats 400000 in
theorem walk_NumClamps (v l m : Int) (_h0 : (Lit.int .i64 v).wf = true) (_h1 : (Lit.int .i64 l).wf = true) (_h2 : (Lit.int .i64 m).wf = true) (w : World) :
    Calls Try.prog 9 #[.int .i64 v, .int .i64 l, .int .i64 m] w (Ret (.bool true) w) := by
  clear _h0 _h1 _h2
  by_cases h1 : v < l
  · go_enter Try.func9, Try.ntmps9
    go_wp2_with fail
    refine (clamp_any _ _ _ _).mono ?_
    rintro e w1 ⟨rfl, b1⟩
    rw [if_pos h1]
    go_wp2_with fail
    refine (awake_any _).mono ?_
    rintro e w2 ⟨rfl, b2⟩
    go_wp2
    go_ret
    exact Ret.mk rfl (b1.trans (b2.mono b1.size))
  · by_cases h2 : m < v
    · go_enter Try.func9, Try.ntmps9
      go_wp2_with fail
      refine (clamp_any _ _ _ _).mono ?_
      rintro e w1 ⟨rfl, b1⟩
      rw [if_neg (by omega), if_pos h2]
      go_wp2_with fail
      refine (awake_any _).mono ?_
      rintro e w2 ⟨rfl, b2⟩
      go_wp2
      go_ret
      exact Ret.mk rfl (b1.trans (b2.mono b1.size))
    · go_enter Try.func9, Try.ntmps9
      go_wp2_with fail
      refine (clamp_any _ _ _ _).mono ?_
      rintro e w1 ⟨rfl, b1⟩
      rw [if_neg (by omega), if_neg (by omega)]
      go_wp2_with fail
      refine (awake_any _).mono ?_
      rintro e w2 ⟨rfl, b2⟩
      go_wp2
      go_ret
      exact Ret.mk rfl (b1.trans (b2.mono b1.size))

end Go.Proofs.Ytcnjapajhchfkaa
