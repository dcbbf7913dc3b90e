/- layer 3's far (its contract). -/
import Derived.Test.YtbmjijllfiokkaaDoorAwake3
namespace Go.Proofs.YtbmjijllfiokkaaDoor
open Go.RowKit
set_option linter.unusedVariables false

set_option maxHeartbeats 400000 in
theorem lawFar_any (v : Int) (w : World) :
    Calls Tryd.prog 18 #[.int .i64 v] w (fun e w' => e = .returned (.bool (decide (FarT v))) ∧ w = w') := by
  by_cases h1 : v < -1073741824
  · rw [decide_eq_true (p := FarT v) (Or.inl h1)]
    go_enter Tryd.func18, Tryd.ntmps18
    go_wp2
    go_ret
    exact ⟨rfl, rfl⟩
  · by_cases h2 : 1073741824 < v
    · rw [decide_eq_true (p := FarT v) (Or.inr h2)]
      go_enter Tryd.func18, Tryd.ntmps18
      go_wp2
      go_ret
      exact ⟨rfl, rfl⟩
    · rw [decide_eq_false (by unfold FarT; omega : ¬ FarT v)]
      go_enter Tryd.func18, Tryd.ntmps18
      go_wp2
      go_ret
      exact ⟨rfl, rfl⟩

end Go.Proofs.YtbmjijllfiokkaaDoor
