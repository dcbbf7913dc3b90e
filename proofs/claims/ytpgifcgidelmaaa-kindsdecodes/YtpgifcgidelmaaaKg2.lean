/- Contracts of package kinds: the reader's number, flag and speed. -/
import Derived.Test.YtpgifcgidelmaaaKg1
namespace Go.Proofs.Ytpgifcgidelmaaa
open Go.RowKit
set_option linter.unusedVariables false

/-- The reader panics: an error, and where. -/
abbrev Flt (e a : Int) : List PanicEntry := [{ v := .iface 60 (.agg #[.int .i64 e, .int .i64 a]), recovered := false }]
theorem num_one (p : Nat → Nat) (q : Nat) : num p q 1 = p q := by simp [num]

set_option maxHeartbeats 400000 in
theorem number_any (g N c q s : Nat) (A : Option Addr) (p : Nat → Nat) (w : World) (hR : Rd w g A N c q) (hB : Bs w A N p) (hp : ∀ i, p i < 256) (h1 : 1 ≤ s) (h8 : s ≤ 2) (hq : q + s ≤ N) (hc : N ≤ c) (hm : c ≤ maxLen) :
    Calls Try.prog 44 #[.pointer (some ⟨g, 0, none⟩), .int .i64 (s : Int)] w fun e w' => e = .returned (.int .i64 ((num p q s : Nat) : Int)) ∧ Rd w' g A N c (q + s) ∧ w.grownBy w' (some g) := by
  have C := Lib.hid (rbits_any g N c q s A p w hR hB hp h1 (by omega) hq hc hm)
  have hx := num_lt p hp s q
  have h256 : 256 ^ s ≤ 256 ^ 2 := Nat.pow_le_pow_right (by decide) h8
  have hx2 : (num p q s) < 65536 := by omega
  clear hR hB hp h1 h8 hq hc hm hx h256
  generalize num p q s = x at *
  have u1 : IntKind.i64.wrap (x : Int) = (x : Int) := IntWalk.i64_in _ (by omega)
  clear hx2
  go_enter Try.func44, Try.ntmps44
  go_wp2_with fail
  refine C.out.mono ?_
  rintro e w1 ⟨rfl, r1, g1⟩
  have R1 := Lib.hid r1
  have G1 := Lib.hid g1
  clear r1 g1 C
  go_wp2
  go_ret
  exact ⟨rfl, R1.out, G1.out⟩

set_option maxHeartbeats 400000 in
theorem flag_ok (g N c q : Nat) (A : Option Addr) (p : Nat → Nat) (w : World) (hR : Rd w g A N c q) (hB : Bs w A N p) (hp : ∀ i, p i < 256) (h1 : num p q 1 ≤ 1) (hq : q + 1 ≤ N) (hc : N ≤ c) (hm : c ≤ maxLen) :
    Calls Try.prog 46 #[.pointer (some ⟨g, 0, none⟩)] w fun e w' => e = .returned (.bool (num p q 1 == 1)) ∧ Rd w' g A N c (q + 1) ∧ w.grownBy w' (some g) := by
  have C := Lib.hid (number_any g N c q 1 A p w hR hB hp (by decide) (by decide) hq hc hm)
  have c1 := hR.c1
  clear hR hB hp hq hc hm
  obtain ⟨x, ex⟩ : ∃ x, num p q 1 = x := ⟨_, rfl⟩
  rw [ex] at C h1 ⊢
  clear ex
  have hd : decide ((1 : Int) < (x : Int)) = false := by simp; omega
  have HE : Hid ((x == 1) = decide ((x : Int) = 1)) := by
    show _ = _
    by_cases h : x = 1
    · subst h; rfl
    · have h2 : ¬ (x : Int) = 1 := by omega
      simp [h, h2]
  clear h1
  go_enter Try.func46, Try.ntmps46
  go_wp2_with fail
  refine C.out.mono ?_
  rintro e w1 ⟨rfl, r1, g1⟩
  have R1 := Lib.hid r1
  have G1 := Lib.hid g1
  clear r1 g1 C c1
  go_wp2
  go_ret
  refine ⟨?_, R1.out, G1.out⟩
  rw [HE.out]
  rfl

set_option maxHeartbeats 400000 in
theorem flag_bad (g N c q : Nat) (A : Option Addr) (p : Nat → Nat) (w : World) (hR : Rd w g A N c q) (hB : Bs w A N p) (hp : ∀ i, p i < 256) (h1 : 1 < num p q 1) (hq : q + 1 ≤ N) (hc : N ≤ c) (hm : c ≤ maxLen) :
    Calls Try.prog 46 #[.pointer (some ⟨g, 0, none⟩)] w fun e w' => e = .panicked (Flt 3 q) ∧ w.grownBy w' (some g) := by
  have C := Lib.hid (number_any g N c q 1 A p w hR hB hp (by decide) (by decide) hq hc hm)
  have c1 := hR.c1
  clear hR hB hp hq hc hm
  obtain ⟨x, ex⟩ : ∃ x, num p q 1 = x := ⟨_, rfl⟩
  rw [ex] at C h1
  clear ex
  have hd : decide ((1 : Int) < (x : Int)) = true := by simp; omega
  clear h1
  go_enter Try.func46, Try.ntmps46
  go_wp2_with fail
  refine C.out.mono ?_
  rintro e w1 ⟨rfl, r1, g1⟩
  have G1 := Lib.hid g1
  clear r1 g1 C c1
  go_wp2
  exact ⟨rfl, rfl, G1.out⟩

set_option maxHeartbeats 400000 in
theorem speed_ok (g N c q : Nat) (A : Option Addr) (p : Nat → Nat) (w : World) (hR : Rd w g A N c q) (hB : Bs w A N p) (hp : ∀ i, p i < 256) (h1 : ofE (num p q 8) = 0) (hq : q + 8 ≤ N) (hc : N ≤ c) (hm : c ≤ maxLen) :
    Calls Try.prog 45 #[.pointer (some ⟨g, 0, none⟩)] w fun e w' => e = .returned (.int .i64 (ofV (num p q 8))) ∧ Rd w' g A N c (q + 8) ∧ w.grownBy w' (some g) := by
  have C := Lib.hid (rbits_any g N c q 8 A p w hR hB hp (by decide) (by decide) hq hc hm)
  have hx : num p q 8 < 18446744073709551616 := num_lt p hp 8 q
  have c1 := hR.c1
  have D := Lib.hid (bits_any (num p q 8) hx)
  rw [h1] at D
  clear hR hB hp h1 hq hc hm hx
  generalize num p q 8 = x at *
  generalize ofV x = v at *
  go_enter Try.func45, Try.ntmps45
  go_wp2_with fail
  refine C.out.mono ?_
  rintro e w1 ⟨rfl, r1, g1⟩
  have R1 := Lib.hid r1
  have G1 := Lib.hid g1
  clear r1 g1 C c1
  go_wp2_with fail
  refine (D.out _).mono ?_
  rintro e w2 ⟨rfl, b2⟩
  have R2 := Lib.hid (R1.out.keep b2)
  have G2 := Lib.hid (grown_trans G1.out (grownBy_below b2 _))
  clear b2 D R1 G1
  go_wp2
  go_ret
  exact ⟨rfl, R2.out, G2.out⟩

set_option maxHeartbeats 400000 in
theorem speed_bad (g N c q : Nat) (A : Option Addr) (p : Nat → Nat) (w : World) (hR : Rd w g A N c q) (hB : Bs w A N p) (hp : ∀ i, p i < 256) (h1 : ofE (num p q 8) ≠ 0) (hq : q + 8 ≤ N) (hc : N ≤ c) (hm : c ≤ maxLen) :
    Calls Try.prog 45 #[.pointer (some ⟨g, 0, none⟩)] w fun e w' => e = .panicked (Flt (ofE (num p q 8)) q) ∧ w.grownBy w' (some g) := by
  have C := Lib.hid (rbits_any g N c q 8 A p w hR hB hp (by decide) (by decide) hq hc hm)
  have hx : num p q 8 < 18446744073709551616 := num_lt p hp 8 q
  have c1 := hR.c1
  have D := Lib.hid (bits_any (num p q 8) hx)
  clear hR hB hp hq hc hm hx
  generalize num p q 8 = x at *
  generalize ofV x = v at *
  generalize ofE x = n at *
  have hn : (n != 0) = true := by simp [h1]
  clear h1
  go_enter Try.func45, Try.ntmps45
  go_wp2_with fail
  refine C.out.mono ?_
  rintro e w1 ⟨rfl, r1, g1⟩
  have R1 := Lib.hid r1
  have G1 := Lib.hid g1
  clear r1 g1 C c1
  go_wp2_with fail
  refine (D.out _).mono ?_
  rintro e w2 ⟨rfl, b2⟩
  have G2 := Lib.hid (grown_trans G1.out (grownBy_below b2 _))
  clear b2 D R1 G1
  go_wp2
  exact ⟨rfl, rfl, G2.out⟩
end Go.Proofs.Ytpgifcgidelmaaa
