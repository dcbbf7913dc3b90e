/- law05's awake: the chapter's examples hold. -/
import Derived.Test.YtlpoholdphihfaaRng5
namespace Go.Proofs.Ytlpoholdphihfaa
open Go.RowKit
set_option linter.unusedVariables false

theorem wfI5 {a : Int} (h : (Lit.int .i64 a).wf = true) : -9223372036854775808 ≤ a ∧ a ≤ 9223372036854775807 := by
  simpa [Lit.wf, IntKind.min, IntKind.max, IntKind.signed, IntKind.bits] using h
theorem nat_of {x : Int} (h : (Lit.int .u64 x).wf = true) : ∃ n : Nat, x = (n : Int) ∧ n < 18446744073709551616 := by
  have h' : 0 ≤ x ∧ x ≤ 18446744073709551615 := by
    simpa [Lit.wf, IntKind.min, IntKind.max, IntKind.signed, IntKind.bits] using h
  exact ⟨x.toNat, by omega, by omega⟩

theorem atN00 : atN 0 0 = 16294208416658607535 := by decide +kernel
theorem belowN00 : belowN 0 0 10 = 8 := by decide +kernel
theorem awake_at (w : World) : Calls Try.prog 9 #[.int .u64 0, .int .u64 0] w (Ret (.int .u64 16294208416658607535) w) := by
  have h := rngAt_any 0 0 w (by decide) (by decide)
  rw [atN00] at h
  exact h
theorem awake_below (w : World) : Calls Try.prog 12 #[.int .u64 0, .int .u64 0, .int .u64 10] w (Ret (.int .u64 8) w) := by
  have h := rngBelow_any 0 0 10 w (by decide) (by decide) (by decide)
  rw [belowN00] at h
  exact h
theorem awake_between (w : World) : Calls Try.prog 14 #[.int .u64 0, .int .u64 0, .int .i64 (-5), .int .i64 4] w (Ret (.tuple #[.int .i64 3, .int .i64 0]) w) := by
  have h := between_in 0 0 (-5) 4 w (by decide) (by decide) (by decide) (by decide) (by decide) (by decide)
  have e : (4 - -5 + 1 : Int).toNat = 10 := by decide
  rw [e, belowN00] at h
  exact h
theorem awake_order (w : World) : Calls Try.prog 15 #[.int .u64 0, .int .u64 0, .int .i64 1] w
    (fun e w' => ∃ g, e = .returned (.tuple #[.slice (some ⟨g, 0, none⟩) 1 1, .int .i64 0]) ∧ w'.cell? ⟨g, 0, none⟩ = some (.int .i64 0) ∧ g < w'.heap.size ∧ Below w.heap.size w w') := by
  refine (order_any 0 0 1 w (by decide) (by decide) (by decide)).mono ?_
  rintro e w1 ⟨g, rfl, hA, hB⟩
  exact ⟨g, rfl, hA.cell 0 (by decide), hA.hi, hB⟩

set_option maxHeartbeats 1000000 in
theorem awake_any (w : World) : Calls Try.prog 11 #[] w (Ret (.bool true) w) := by
  go_enter Try.func11, Try.ntmps11
  go_wp2_with fail
  refine (awake_between _).mono ?_
  rintro e w1 ⟨rfl, b1⟩
  go_wp2_with fail
  refine (awake_order _).mono ?_
  rintro e w2 ⟨g, rfl, hc, hg, b2⟩
  have HC := Lib.hid hc
  have B2 := Lib.hid (b1.trans (b2.mono b1.size))
  clear hc b1 b2
  go_wp2_with fail
  refine (awake_at _).mono ?_
  rintro e w3 ⟨rfl, b3⟩
  go_wp2_with fail
  refine (awake_below _).mono ?_
  rintro e w4 ⟨rfl, b4⟩
  have hc : w4.cell? ⟨g, 0, none⟩ = some (.int .i64 0) := (b4.cell (p := ⟨g, 0, none⟩) (Nat.lt_of_lt_of_le hg b3.size)).trans ((b3.cell (p := ⟨g, 0, none⟩) hg).trans HC.out)
  have B4 := Lib.hid ((B2.out.trans (b3.mono B2.out.size)).trans (b4.mono (B2.out.trans (b3.mono B2.out.size)).size))
  clear b3 b4 HC B2
  go_wp2
  go_ret
  exact Ret.mk rfl B4.out

end Go.Proofs.Ytlpoholdphihfaa
