/- The walk of the law RngBetween. -/
import Derived.Test.YtlpoholdphihfaaAwake5
import Derived.Test.YtlpoholdphihfaaRefOrd
namespace Go.Proofs.Ytlpoholdphihfaa
open Go.RowKit
set_option linter.unusedVariables false

set_option maxHeartbeats 1000000 in
theorem btw_none (s n : Nat) (l m : Int) (w : World) (h : m < l) :
    Calls Try.prog 6 #[.agg #[.int .u64 (s : Int), .int .u64 (n : Int), .int .i64 l, .int .i64 m]] w (Ret (.bool true) w) := by
  go_enter Try.func6, Try.ntmps6
  go_wp2
  go_quiet (fail)
  have hB0 : Below w.heap.size w ((w.alloc (.cells #[.int .u64 (s : Int), .int .u64 (n : Int), .int .i64 l, .int .i64 m] 29)).drewN nq) := bdrewN5 ((Below.refl _ _).alloc (Nat.le_refl _) _) nq
  generalize (w.alloc (.cells #[.int .u64 (s : Int), .int .u64 (n : Int), .int .i64 l, .int .i64 m] 29)).drewN nq = W0 at *
  have B0 := Lib.hid hB0
  clear hB0
  go_wp2_with fail
  refine (between_none s n l m _ h).mono ?_
  rintro e w1 ⟨rfl, b1⟩
  have B2 := Lib.hid (B0.out.trans (b1.mono B0.out.size))
  clear b1 B0
  go_wp2_with fail
  refine (awake_any _).mono ?_
  rintro e w3 ⟨rfl, b3⟩
  have B3 := Lib.hid (B2.out.trans (b3.mono B2.out.size))
  clear b3 B2
  go_wp2
  go_ret
  exact Ret.mk rfl B3.out

set_option maxHeartbeats 1000000 in
theorem btw_all (s n : Nat) (w : World) (hs : s < 18446744073709551616) (hn : n < 18446744073709551616) :
    Calls Try.prog 6 #[.agg #[.int .u64 (s : Int), .int .u64 (n : Int), .int .i64 (-9223372036854775808), .int .i64 9223372036854775807]] w (Ret (.bool true) w) := by
  go_enter Try.func6, Try.ntmps6
  go_wp2
  go_quiet (fail)
  have hB0 : Below w.heap.size w ((w.alloc (.cells #[.int .u64 (s : Int), .int .u64 (n : Int), .int .i64 (-9223372036854775808), .int .i64 9223372036854775807] 29)).drewN nq) := bdrewN5 ((Below.refl _ _).alloc (Nat.le_refl _) _) nq
  generalize (w.alloc (.cells #[.int .u64 (s : Int), .int .u64 (n : Int), .int .i64 (-9223372036854775808), .int .i64 9223372036854775807] 29)).drewN nq = W0 at *
  have B0 := Lib.hid hB0
  clear hB0
  go_wp2_with fail
  refine (between_all s n _ hs hn).mono ?_
  rintro e w1 ⟨rfl, b1⟩
  have B1 := Lib.hid (B0.out.trans (b1.mono B0.out.size))
  clear b1 B0
  obtain ⟨z, ez⟩ : ∃ z, atN s n = z := ⟨_, rfl⟩
  have hz : z < 18446744073709551616 := by rw [← ez]; exact atN_lt s n
  rw [ez]
  have EZ := Lib.hid ez
  clear ez
  obtain ⟨V, eV⟩ : ∃ V, wrap64 (z : Int) = V := ⟨_, rfl⟩
  rw [eV]
  have v0 : -9223372036854775808 ≤ V := by rw [← eV]; unfold wrap64; omega
  have v1 : V ≤ 9223372036854775807 := by rw [← eV]; unfold wrap64; omega
  have ht : (IntKind.u64.wrap V == (z : Int)) = true := by
    rw [← eV, wrU]
    unfold wrap64
    simp
    omega
  clear eV
  go_wp2_with fail
  refine (refAt_any s n _ hs hn).mono ?_
  rintro e w2 ⟨rfl, b2⟩
  have B2 := Lib.hid (B1.out.trans (b2.mono B1.out.size))
  clear b2 B1
  rw [EZ.out]
  clear EZ hz
  go_wp2_with fail
  refine (awake_any _).mono ?_
  rintro e w3 ⟨rfl, b3⟩
  have B3 := Lib.hid (B2.out.trans (b3.mono B2.out.size))
  clear b3 B2
  go_wp2
  go_ret
  exact Ret.mk rfl B3.out

set_option maxHeartbeats 1000000 in
theorem btw_in (s n : Nat) (l m : Int) (w : World) (hs : s < 18446744073709551616) (hn : n < 18446744073709551616) (h : l ≤ m) (hl : -9223372036854775808 ≤ l) (hm : m ≤ 9223372036854775807) (hc : m - l + 1 < 18446744073709551616) :
    Calls Try.prog 6 #[.agg #[.int .u64 (s : Int), .int .u64 (n : Int), .int .i64 l, .int .i64 m]] w (Ret (.bool true) w) := by
  have HC := Lib.hid (cnt_eq l m h hl hm hc)
  have HW := Lib.hid (fun W => between_in s n l m W hs hn h hl hm hc)
  obtain ⟨C, eC⟩ : ∃ C, (m - l + 1).toNat = C := ⟨_, rfl⟩
  rw [eC] at HC HW
  have hC1 : C < 18446744073709551616 := by omega
  have ht : (IntKind.u64.wrap (IntKind.u64.wrap (IntKind.u64.wrap m - IntKind.u64.wrap l) + 1) == 0) = false := by
    rw [HC.out]
    simp
    omega
  have hb : belowN s n C < C := belowN_lt (by omega)
  obtain ⟨z, ez⟩ : ∃ z, belowN s n C = z := ⟨_, rfl⟩
  rw [ez] at hb HW
  obtain ⟨V, eV⟩ : ∃ V, l + (z : Int) = V := ⟨_, rfl⟩
  rw [eV] at HW
  have EZ := Lib.hid ez
  clear ez
  have v0 : l ≤ V := by omega
  have v1 : V ≤ m := by omega
  have t0 : decide (V < l) = false := by simp; omega
  have t1 : decide (m < V) = false := by simp; omega
  have ht2 : (IntKind.u64.wrap (IntKind.u64.wrap V - IntKind.u64.wrap l) == (z : Int)) = true := by
    rw [← eV]
    simp only [wrU]
    simp
    omega
  have HN := Lib.hid (And.intro eC (And.intro eV (And.intro hb (And.intro hC1 hc))))
  clear eC eV hb hC1 hc
  go_enter Try.func6, Try.ntmps6
  go_wp2
  go_quiet (fail)
  have hB0 : Below w.heap.size w ((w.alloc (.cells #[.int .u64 (s : Int), .int .u64 (n : Int), .int .i64 l, .int .i64 m] 29)).drewN nq) := bdrewN5 ((Below.refl _ _).alloc (Nat.le_refl _) _) nq
  generalize (w.alloc (.cells #[.int .u64 (s : Int), .int .u64 (n : Int), .int .i64 l, .int .i64 m] 29)).drewN nq = W0 at *
  have B0 := Lib.hid hB0
  clear hB0
  go_wp2_with fail
  refine (HW.out _).mono ?_
  rintro e w1 ⟨rfl, b1⟩
  have B1 := Lib.hid (B0.out.trans (b1.mono B0.out.size))
  clear b1 B0 HW
  go_wp2_with fail
  refine (refBelow_of s n C _ rfl HC.out hs hn HN.out.2.2.2.1).mono ?_
  rintro e w2 ⟨rfl, b2⟩
  have B2 := Lib.hid (B1.out.trans (b2.mono B1.out.size))
  clear b2 B1
  rw [EZ.out]
  clear EZ
  go_wp2_with fail
  refine (awake_any _).mono ?_
  rintro e w3 ⟨rfl, b3⟩
  have B3 := Lib.hid (B2.out.trans (b3.mono B2.out.size))
  clear b3 B2
  go_wp2
  go_ret
  exact Ret.mk rfl B3.out

theorem walk_RngBetween (a0 a1 a2 a3 : Int) (w0 : (Lit.int .u64 a0).wf = true) (w1 : (Lit.int .u64 a1).wf = true) (w2 : (Lit.int .i64 a2).wf = true) (w3 : (Lit.int .i64 a3).wf = true) (w : World) :
    Calls Try.prog 6 #[.agg #[.int .u64 a0, .int .u64 a1, .int .i64 a2, .int .i64 a3]] w (Ret (.bool true) w) := by
  obtain ⟨s, rfl, hs⟩ := nat_of w0
  obtain ⟨n, rfl, hn⟩ := nat_of w1
  obtain ⟨l0, l1⟩ := wfI5 w2
  obtain ⟨m0, m1⟩ := wfI5 w3
  by_cases h : a3 < a2
  · exact btw_none s n a2 a3 w h
  · by_cases hc : a3 - a2 + 1 < 18446744073709551616
    · exact btw_in s n a2 a3 w hs hn (by omega) l0 m1 hc
    · obtain rfl : a2 = -9223372036854775808 := by omega
      obtain rfl : a3 = 9223372036854775807 := by omega
      exact btw_all s n w hs hn

end Go.Proofs.Ytlpoholdphihfaa
