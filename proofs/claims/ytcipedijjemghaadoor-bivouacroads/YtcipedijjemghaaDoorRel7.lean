/- Contracts of package relief, seventh part: least, greatest, cell, Slope, Depth; the reference's Ends and Depth. -/
import Derived.Test.YtcipedijjemghaaDoorRel6
namespace Go.Proofs.YtcipedijjemghaaDoor
open Go.RowKit
set_option linter.unusedVariables false

/-- The least of the first k, 255 at most; the greatest of them, 0 at least. -/
def rmin (f : Nat → Int) : Nat → Int
  | 0 => 255
  | k + 1 => min (rmin f k) (f k)
def rmax (f : Nat → Int) : Nat → Int
  | 0 => 0
  | k + 1 => max (rmax f k) (f k)
/-- Four as a function. -/
def four (a b c d : Int) : Nat → Int
  | 0 => a
  | 1 => b
  | 2 => c
  | _ => d
theorem rmin4 (a b c d : Int) : rmin (four a b c d) 4 = lo4 a b c d := rfl
theorem rmax4 (a b c d : Int) : rmax (four a b c d) 4 = hi4 a b c d := rfl

set_option maxHeartbeats 400000 in
theorem least_any (g : Nat) (f : Nat → Int) (w : World) (hc : ∀ i, i < 4 → w.cell? ⟨g, i, none⟩ = some (.int .i64 (f i))) :
    Calls Tryd.prog 49 #[.slice (some ⟨g, 0, none⟩) 4 4] w fun e w' => e = .returned (.int .i64 (rmin f 4)) ∧ w = w' := by
  have HC := Lib.hid hc
  clear hc
  go_enter Tryd.func49, Tryd.ntmps49
  go_wp2
  go_loop [3, 8] (fun r i => ∃ k : Nat, k ≤ 4 ∧ i = .int .i64 (k : Int) ∧ r = .int .i64 (rmin f k)) (fun _ i => 4 - (intOf i).toNat)
  case atStart => exact ⟨0, by omega, rfl, rfl⟩
  case round =>
    obtain ⟨k, hk, rfl, rfl⟩ := hrel
    by_cases hlt : k < 4
    · have hck := HC.out k hlt
      have HS : Hid (rmin f (k + 1) = min (rmin f k) (f k)) := rfl
      have hlt' : (k : Int) < 4 := by omega
      generalize rmin f k = m at *
      generalize f k = v at *
      by_cases hm : v < m
      · have HM : Hid (rmin f (k + 1) = v) := by show _ = _; rw [HS.out]; omega
        go_wp2
        go_round
        case rel => exact ⟨k + 1, by omega, by go_num, congrArg (Value.int .i64) HM.out.symm⟩
        case measure => simp [intOf]; omega
      · have HM : Hid (rmin f (k + 1) = m) := by show _ = _; rw [HS.out]; omega
        go_wp2
        go_round
        case rel => exact ⟨k + 1, by omega, by go_num, congrArg (Value.int .i64) HM.out.symm⟩
        case measure => simp [intOf]; omega
    · have e : k = 4 := by omega
      have HM : Hid (rmin f 4 = rmin f k) := by show _ = _; rw [e]
      clear e
      have hge : ¬ (k : Int) < 4 := by omega
      go_wp2
      go_ret
      exact ⟨int_back HM.out.symm, rfl⟩

set_option maxHeartbeats 400000 in
theorem greatest_any (g : Nat) (f : Nat → Int) (w : World) (hc : ∀ i, i < 4 → w.cell? ⟨g, i, none⟩ = some (.int .i64 (f i))) :
    Calls Tryd.prog 48 #[.slice (some ⟨g, 0, none⟩) 4 4] w fun e w' => e = .returned (.int .i64 (rmax f 4)) ∧ w = w' := by
  have HC := Lib.hid hc
  clear hc
  go_enter Tryd.func48, Tryd.ntmps48
  go_wp2
  go_loop [3, 8] (fun r i => ∃ k : Nat, k ≤ 4 ∧ i = .int .i64 (k : Int) ∧ r = .int .i64 (rmax f k)) (fun _ i => 4 - (intOf i).toNat)
  case atStart => exact ⟨0, by omega, rfl, rfl⟩
  case round =>
    obtain ⟨k, hk, rfl, rfl⟩ := hrel
    by_cases hlt : k < 4
    · have hck := HC.out k hlt
      have HS : Hid (rmax f (k + 1) = max (rmax f k) (f k)) := rfl
      have hlt' : (k : Int) < 4 := by omega
      generalize rmax f k = m at *
      generalize f k = v at *
      by_cases hm : m < v
      · have HM : Hid (rmax f (k + 1) = v) := by show _ = _; rw [HS.out]; omega
        go_wp2
        go_round
        case rel => exact ⟨k + 1, by omega, by go_num, congrArg (Value.int .i64) HM.out.symm⟩
        case measure => simp [intOf]; omega
      · have HM : Hid (rmax f (k + 1) = m) := by show _ = _; rw [HS.out]; omega
        go_wp2
        go_round
        case rel => exact ⟨k + 1, by omega, by go_num, congrArg (Value.int .i64) HM.out.symm⟩
        case measure => simp [intOf]; omega
    · have e : k = 4 := by omega
      have HM : Hid (rmax f 4 = rmax f k) := by show _ = _; rw [e]
      clear e
      have hge : ¬ (k : Int) < 4 := by omega
      go_wp2
      go_ret
      exact ⟨int_back HM.out.symm, rfl⟩

end Go.Proofs.YtcipedijjemghaaDoor
