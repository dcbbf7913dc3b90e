/- Contracts of package kinds: the reader's head. -/
import Derived.Test.YtpgifcgidelmaaaKg3
namespace Go.Proofs.Ytpgifcgidelmaaa
open Go.RowKit
set_option linter.unusedVariables false

set_option maxHeartbeats 1000000 in
theorem head_short (g N c : Nat) (A : Option Addr) (w : World) (hR : Rd w g A N c 0) (h : N < 2) :
    Calls Try.prog 37 #[.pointer (some ⟨g, 0, none⟩)] w fun e w' => e = .panicked (Flt 2 (N : Int)) ∧ w.grownBy w' (some g) := by
  have h' : (N : Int) < 2 := by omega
  have c0 := hR.c0
  clear hR h
  go_enter Try.func37, Try.ntmps37
  go_wp2
  exact ⟨rfl, rfl, grown_refl _ _⟩

/-- How many bytes the two numbers require. -/
def need (p : Nat → Nat) : Nat := 2 + 35 * p 0 + 14 * p 1

theorem head_two (g N c : Nat) (A : Option Addr) (p : Nat → Nat) (w : World) (hR : Rd w g A N c 0) (hB : Bs w A N p) (hp : ∀ i, p i < 256) (h : 2 ≤ N) (hc : N ≤ c) (hm : c ≤ maxLen) :
    ∀ X : World, Rd X g A N c 0 → w.grownBy X (some g) → Calls Try.prog 44 #[.pointer (some ⟨g, 0, none⟩), .int .i64 1] X fun e w' => e = .returned (.int .i64 (p 0 : Int)) ∧ Rd w' g A N c 1 ∧ w.grownBy w' (some g) := by
  intro X hX hg
  have h1 := number_any g N c 0 1 A p X hX (hB.grown hg (hR.ne hB)) hp (by decide) (by decide) (by omega) hc hm
  rw [num_one] at h1
  exact h1.mono fun e w' ⟨a, b, d⟩ => ⟨a, b, grown_trans hg d⟩
theorem head_three (g N c : Nat) (A : Option Addr) (p : Nat → Nat) (w : World) (hR : Rd w g A N c 0) (hB : Bs w A N p) (hp : ∀ i, p i < 256) (h : 2 ≤ N) (hc : N ≤ c) (hm : c ≤ maxLen) :
    ∀ X : World, Rd X g A N c 1 → w.grownBy X (some g) → Calls Try.prog 44 #[.pointer (some ⟨g, 0, none⟩), .int .i64 1] X fun e w' => e = .returned (.int .i64 (p 1 : Int)) ∧ Rd w' g A N c 2 ∧ w.grownBy w' (some g) := by
  intro X hX hg
  have h1 := number_any g N c 1 1 A p X hX (hB.grown hg (hR.ne hB)) hp (by decide) (by decide) (by omega) hc hm
  rw [num_one] at h1
  exact h1.mono fun e w' ⟨a, b, d⟩ => ⟨a, b, grown_trans hg d⟩

set_option maxHeartbeats 1000000 in
theorem head_few (g N c : Nat) (A : Option Addr) (p : Nat → Nat) (w : World) (hR : Rd w g A N c 0) (hB : Bs w A N p) (hp : ∀ i, p i < 256) (h : 2 ≤ N) (hc : N ≤ c) (hm : c ≤ maxLen) (hn : N < need p) :
    Calls Try.prog 37 #[.pointer (some ⟨g, 0, none⟩)] w fun e w' => e = .panicked (Flt 2 (N : Int)) ∧ w.grownBy w' (some g) := by
  have h' : ¬ (N : Int) < 2 := by omega
  have c0 := hR.c0
  have H2 := Lib.hid (head_two g N c A p w hR hB hp h hc hm)
  have H3 := Lib.hid (head_three g N c A p w hR hB hp h hc hm)
  have R0 := Lib.hid hR
  have l0 := hp 0
  have l1 := hp 1
  unfold need at hn
  clear hR hB hp h hc hm
  obtain ⟨k, ek⟩ : ∃ k, p 0 = k := ⟨_, rfl⟩
  obtain ⟨m, em⟩ : ∃ m, p 1 = m := ⟨_, rfl⟩
  obtain ⟨q, eq⟩ : ∃ q, 2 + 35 * k + 14 * m = q := ⟨_, rfl⟩
  rw [ek, em, eq] at hn
  rw [ek] at H2 l0
  rw [em] at H3 l1
  have t1 : N < q := by omega
  have t1' : (N : Int) < (q : Int) := by omega
  have eq1 : (2 : Int) + (k : Int) * 35 + (m : Int) * 14 = (q : Int) := by omega
  have HN := Lib.hid (show need p = q by unfold need; rw [ek, em, eq])
  have HKM := Lib.hid (And.intro ek em)
  clear ek em eq hn
  go_enter Try.func37, Try.ntmps37
  go_wp2_with fail
  refine (H2.out _ R0.out (grown_refl _ _)).mono ?_
  rintro e w1 ⟨rfl, r1, g1⟩
  have R1 := Lib.hid r1
  have G1 := Lib.hid g1
  clear r1 g1 R0 H2 c0
  go_wp2_with fail
  refine (H3.out _ R1.out G1.out).mono ?_
  rintro e w2 ⟨rfl, r2, g2⟩
  have R2 := Lib.hid r2
  have G2 := Lib.hid g2
  clear r2 g2 R1 G1 H3
  have c0 := R2.out.c0
  go_wp2
  exact ⟨rfl, rfl, G2.out⟩

set_option maxHeartbeats 1000000 in
theorem head_many (g N c : Nat) (A : Option Addr) (p : Nat → Nat) (w : World) (hR : Rd w g A N c 0) (hB : Bs w A N p) (hp : ∀ i, p i < 256) (h : 2 ≤ N) (hc : N ≤ c) (hm : c ≤ maxLen) (hn : need p < N) :
    Calls Try.prog 37 #[.pointer (some ⟨g, 0, none⟩)] w fun e w' => e = .panicked (Flt 7 ((need p : Nat) : Int)) ∧ w.grownBy w' (some g) := by
  have h' : ¬ (N : Int) < 2 := by omega
  have c0 := hR.c0
  have H2 := Lib.hid (head_two g N c A p w hR hB hp h hc hm)
  have H3 := Lib.hid (head_three g N c A p w hR hB hp h hc hm)
  have R0 := Lib.hid hR
  have l0 := hp 0
  have l1 := hp 1
  unfold need at hn
  clear hR hB hp h hc hm
  obtain ⟨k, ek⟩ : ∃ k, p 0 = k := ⟨_, rfl⟩
  obtain ⟨m, em⟩ : ∃ m, p 1 = m := ⟨_, rfl⟩
  obtain ⟨q, eq⟩ : ∃ q, 2 + 35 * k + 14 * m = q := ⟨_, rfl⟩
  rw [ek, em, eq] at hn
  rw [ek] at H2 l0
  rw [em] at H3 l1
  have t1 : ¬ N < q := by omega
  have t1' : ¬ (N : Int) < (q : Int) := by omega
  have t2 : q < N := by omega
  have t2' : (q : Int) < (N : Int) := by omega
  have eq1 : (2 : Int) + (k : Int) * 35 + (m : Int) * 14 = (q : Int) := by omega
  have HN := Lib.hid (show need p = q by unfold need; rw [ek, em, eq])
  have HKM := Lib.hid (And.intro ek em)
  clear ek em eq hn
  go_enter Try.func37, Try.ntmps37
  go_wp2_with fail
  refine (H2.out _ R0.out (grown_refl _ _)).mono ?_
  rintro e w1 ⟨rfl, r1, g1⟩
  have R1 := Lib.hid r1
  have G1 := Lib.hid g1
  clear r1 g1 R0 H2 c0
  go_wp2_with fail
  refine (H3.out _ R1.out G1.out).mono ?_
  rintro e w2 ⟨rfl, r2, g2⟩
  have R2 := Lib.hid r2
  have G2 := Lib.hid g2
  clear r2 g2 R1 G1 H3
  have c0 := R2.out.c0
  go_wp2
  rw [HN.out]
  exact ⟨rfl, rfl, G2.out⟩

set_option maxHeartbeats 1000000 in
theorem head_ok (g N c : Nat) (A : Option Addr) (p : Nat → Nat) (w : World) (hR : Rd w g A N c 0) (hB : Bs w A N p) (hp : ∀ i, p i < 256) (h : 2 ≤ N) (hc : N ≤ c) (hm : c ≤ maxLen) (hn : N = need p) :
    Calls Try.prog 37 #[.pointer (some ⟨g, 0, none⟩)] w fun e w' => e = .returned (.tuple #[.int .i64 (p 0 : Int), .int .i64 (p 1 : Int)]) ∧ Rd w' g A N c 2 ∧ w.grownBy w' (some g) := by
  have h' : ¬ (N : Int) < 2 := by omega
  have c0 := hR.c0
  have H2 := Lib.hid (head_two g N c A p w hR hB hp h hc hm)
  have H3 := Lib.hid (head_three g N c A p w hR hB hp h hc hm)
  have R0 := Lib.hid hR
  have l0 := hp 0
  have l1 := hp 1
  unfold need at hn
  clear hR hB hp h hc hm
  obtain ⟨k, ek⟩ : ∃ k, p 0 = k := ⟨_, rfl⟩
  obtain ⟨m, em⟩ : ∃ m, p 1 = m := ⟨_, rfl⟩
  obtain ⟨q, eq⟩ : ∃ q, 2 + 35 * k + 14 * m = q := ⟨_, rfl⟩
  rw [ek, em, eq] at hn
  rw [ek] at H2 l0
  rw [em] at H3 l1
  have t1 : ¬ N < q := by omega
  have t1' : ¬ (N : Int) < (q : Int) := by omega
  have t2 : ¬ q < N := by omega
  have t2' : ¬ (q : Int) < (N : Int) := by omega
  have eq1 : (2 : Int) + (k : Int) * 35 + (m : Int) * 14 = (q : Int) := by omega
  have HN := Lib.hid (show need p = q by unfold need; rw [ek, em, eq])
  have HKM := Lib.hid (And.intro ek em)
  clear ek em eq hn
  go_enter Try.func37, Try.ntmps37
  go_wp2_with fail
  refine (H2.out _ R0.out (grown_refl _ _)).mono ?_
  rintro e w1 ⟨rfl, r1, g1⟩
  have R1 := Lib.hid r1
  have G1 := Lib.hid g1
  clear r1 g1 R0 H2 c0
  go_wp2_with fail
  refine (H3.out _ R1.out G1.out).mono ?_
  rintro e w2 ⟨rfl, r2, g2⟩
  have R2 := Lib.hid r2
  have G2 := Lib.hid g2
  clear r2 g2 R1 G1 H3
  have c0 := R2.out.c0
  go_wp2
  go_ret2
  rw [HKM.out.1, HKM.out.2]
  exact ⟨rfl, R2.out, G2.out⟩

end Go.Proofs.Ytpgifcgidelmaaa
