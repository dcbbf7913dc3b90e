/- What each law of stage 10 begins with: Few. -/
import Derived.Test.YtpgifcgidelmaaaKh2
namespace Go.Proofs.Ytpgifcgidelmaaa
open Go.RowKit
set_option linter.unusedVariables false

/-- So many at most. -/
def few (n : Nat) : Nat := if 18 < n then 18 else n
theorem few_le (n : Nat) : few n ≤ n ∧ few n ≤ 18 := by unfold few; split <;> omega

set_option maxRecDepth 100000 in
set_option maxHeartbeats 2000000 in
theorem few_any (n c m d : Nat) (A B : Option Addr) (w : World) (hn : n ≤ c) (hc : c ≤ maxLen) (hm : m ≤ d) (hd : d ≤ maxLen) (hA : 0 < n → ∃ g o, A = some ⟨g, o, none⟩) (hB : 0 < m → ∃ g o, B = some ⟨g, o, none⟩) :
    Calls Try.prog 10 #[.agg #[.slice A n c, .slice B m d]] w (Ret (.agg #[.slice A (few n) c, .slice B (few m) d]) w) := by
  unfold maxLen at hc hd
  have HBB : Hid (∀ x y : Obj, Below w.heap.size w ((w.alloc x).alloc y)) := fun x y => ((Below.refl _ _).alloc (Nat.le_refl _) _).alloc (by simp) _
  by_cases h1 : 18 < n
  · obtain ⟨g, o, rfl⟩ := hA (by omega)
    have e1 : few n = 18 := if_pos h1
    have t1 : (18 : Int) < (n : Int) := by omega
    have t2 : (18 : Int) ≤ (c : Int) := by omega
    have t3 : ¬ c = 0 := by omega
    by_cases h2 : 18 < m
    · obtain ⟨g', o', rfl⟩ := hB (by omega)
      have e2 : few m = 18 := if_pos h2
      have s1 : (18 : Int) < (m : Int) := by omega
      have s2 : (18 : Int) ≤ (d : Int) := by omega
      have s3 : ¬ d = 0 := by omega
      rw [e1, e2]
      clear e1 e2 hA hB
      go_enter Try.func10, Try.ntmps10
      go_wp2
      refine bodyPost_ret (v := .agg #[.slice (some ⟨g, o, none⟩) 18 c, .slice (some ⟨g', o', none⟩) 18 d]) (by simp [results, Try.results10, go_sem]) rfl ?_
      exact Ret.mk rfl (HBB.out _ _)
    · have e2 : few m = m := if_neg h2
      have s1 : ¬ (18 : Int) < (m : Int) := by omega
      rw [e1, e2]
      clear e1 e2 hA hB
      go_enter Try.func10, Try.ntmps10
      go_wp2
      refine bodyPost_ret (v := .agg #[.slice (some ⟨g, o, none⟩) 18 c, .slice B m d]) (by simp [results, Try.results10, go_sem]) rfl ?_
      exact Ret.mk rfl (HBB.out _ _)
  · have e1 : few n = n := if_neg h1
    have t1 : ¬ (18 : Int) < (n : Int) := by omega
    by_cases h2 : 18 < m
    · obtain ⟨g', o', rfl⟩ := hB (by omega)
      have e2 : few m = 18 := if_pos h2
      have s1 : (18 : Int) < (m : Int) := by omega
      have s2 : (18 : Int) ≤ (d : Int) := by omega
      have s3 : ¬ d = 0 := by omega
      rw [e1, e2]
      clear e1 e2 hA hB
      go_enter Try.func10, Try.ntmps10
      go_wp2
      refine bodyPost_ret (v := .agg #[.slice A n c, .slice (some ⟨g', o', none⟩) 18 d]) (by simp [results, Try.results10, go_sem]) rfl ?_
      exact Ret.mk rfl (HBB.out _ _)
    · have e2 : few m = m := if_neg h2
      have s1 : ¬ (18 : Int) < (m : Int) := by omega
      rw [e1, e2]
      clear e1 e2 hA hB
      go_enter Try.func10, Try.ntmps10
      go_wp2
      refine bodyPost_ret (v := .agg #[.slice A n c, .slice B m d]) (by simp [results, Try.results10, go_sem]) rfl ?_
      exact Ret.mk rfl (HBB.out _ _)
theorem Kn.addr {w : World} {A : Option Addr} {n : Nat} {K : Nat → Nat → Int} (h : Kn w A n K) : 0 < n → ∃ g o, A = some ⟨g, o, none⟩ := fun hn => by obtain ⟨g, o, e, _⟩ := h hn; exact ⟨g, o, e⟩
theorem Wn.addr {w : World} {A : Option Addr} {n : Nat} {U : Nat → Nat → Int} {F : Nat → Bool} (h : Wn w A n U F) : 0 < n → ∃ g o, A = some ⟨g, o, none⟩ := fun hn => by obtain ⟨g, o, e, _⟩ := h hn; exact ⟨g, o, e⟩
end Go.Proofs.Ytpgifcgidelmaaa
