/- Contracts of package kinds, and of the reference: which kinds and weapons may be. -/
import Derived.Test.YtpgifcgidelmaaaKd1
namespace Go.Proofs.Ytpgifcgidelmaaa
open Go.RowKit
set_option linter.unusedVariables false

/-- From a to b. -/
def inB (a b v : Int) : Bool := decide (a ≤ v) && decide (v ≤ b)
/-- The first n are all from a to b. -/
def allB (a b : Int) (z : Nat → Int) : Nat → Bool
  | 0 => true
  | n + 1 => allB a b z n && inB a b (z n)
theorem allB_no {a b : Int} {z : Nat → Int} {k : Nat} (h : inB a b (z k) = false) : ∀ n, k < n → allB a b z n = false
  | 0, hk => absurd hk (Nat.not_lt_zero _)
  | n + 1, hk => by
    unfold allB
    by_cases e : k = n
    · subst e; rw [h]; simp
    · rw [allB_no h n (by omega)]; rfl
theorem allB_yes {a b : Int} {z : Nat → Int} {k : Nat} (h : inB a b (z k) = true) (hk : allB a b z k = true) : allB a b z (k + 1) = true := by unfold allB; rw [h, hk]; rfl

set_option maxHeartbeats 400000 in
theorem within_any (a b : Int) (g n : Nat) (z : Nat → Int) (w : World) (hn : n ≤ 1000) (hc : ∀ i, i < n → w.cell? ⟨g, i, none⟩ = some (.int .i64 (z i))) :
    Calls Try.prog 19 #[.int .i64 a, .int .i64 b, .slice (some ⟨g, 0, none⟩) n n] w (Ret (.bool (allB a b z n)) w) := by
  have HC := Lib.hid hc
  clear hc
  go_enter Try.func19, Try.ntmps19
  go_wp2
  go_loop [11] (fun i => ∃ k : Nat, k ≤ n ∧ i = .int .i64 (k : Int) ∧ Hid (allB a b z k = true)) (fun i => n - (intOf i).toNat)
  case atStart => exact ⟨0, by omega, rfl, (rfl : allB a b z 0 = true)⟩
  case round =>
    obtain ⟨k, hk, rfl, hA⟩ := hrel
    by_cases hlt : k < n
    · have hck := HC.out k hlt
      have hlt' : (k : Int) < (n : Int) := by omega
      have H1 : Hid (inB a b (z k) = false → allB a b z n = false) := fun h => allB_no h n hlt
      have H2 : Hid (inB a b (z k) = true → allB a b z (k + 1) = true) := fun h => allB_yes h hA
      clear hA HC
      generalize z k = v at *
      by_cases h1 : v < a
      · have HF : Hid (allB a b z n = false) := H1.out (by simp [inB]; omega)
        go_wp2
        go_ret
        exact Ret.mk (congrArg Value.bool HF.out.symm) (Below.refl _ _)
      · have h1' : decide (v < a) = false := by simp; omega
        by_cases h2 : b < v
        · have HF : Hid (allB a b z n = false) := H1.out (by simp [inB]; omega)
          clear h1
          go_wp2
          go_ret
          exact Ret.mk (congrArg Value.bool HF.out.symm) (Below.refl _ _)
        · have h2' : decide (b < v) = false := by simp; omega
          have HT : Hid (allB a b z (k + 1) = true) := H2.out (by simp [inB]; omega)
          clear h1 h2
          go_wp2
          go_round
          case rel => exact ⟨k + 1, by omega, by go_num, HT⟩
          case measure => simp [intOf]; omega
    · have e : k = n := by omega
      have HT : Hid (allB a b z n = true) := by rw [← e]; exact hA
      have hge : ¬ (k : Int) < (n : Int) := by omega
      clear hA e
      go_wp2
      go_ret
      exact Ret.mk (congrArg Value.bool HT.out.symm) (Below.refl _ _)

set_option maxHeartbeats 400000 in
theorem in_any (v a b : Int) (w : World) : Calls Try.prog 34 #[.int .i64 v, .int .i64 a, .int .i64 b] w fun e w' => e = .returned (.bool (inB a b v)) ∧ w = w' := by
  by_cases h1 : a ≤ v
  · by_cases h2 : v ≤ b
    · have HE : Hid (inB a b v = true) := by show _ = _; simp [inB, h1, h2]
      go_enter Try.func34, Try.ntmps34
      go_wp2
      go_ret
      exact ⟨congrArg Ending.returned (congrArg Value.bool HE.out.symm), rfl⟩
    · have HE : Hid (inB a b v = false) := by show _ = _; simp [inB, h1, h2]
      have h2' : decide (v ≤ b) = false := by simp; omega
      clear h2
      go_enter Try.func34, Try.ntmps34
      go_wp2
      go_ret
      exact ⟨congrArg Ending.returned (congrArg Value.bool HE.out.symm), rfl⟩
  · have HE : Hid (inB a b v = false) := by show _ = _; simp [inB, h1]
    have h1' : decide (a ≤ v) = false := by simp; omega
    clear h1
    go_enter Try.func34, Try.ntmps34
    go_wp2
    go_ret
    exact ⟨congrArg Ending.returned (congrArg Value.bool HE.out.symm), rfl⟩
end Go.Proofs.Ytpgifcgidelmaaa
