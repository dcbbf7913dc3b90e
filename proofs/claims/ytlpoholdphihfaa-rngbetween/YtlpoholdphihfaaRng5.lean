/- Contracts, fifth part: Between. -/
import Derived.Test.YtlpoholdphihfaaRng4
namespace Go.Proofs.Ytlpoholdphihfaa
open Go.RowKit
set_option linter.unusedVariables false

set_option maxHeartbeats 400000 in
theorem between_none (s n : Nat) (l m : Int) (w : World) (h : m < l) :
    Calls Try.prog 14 #[.int .u64 (s : Int), .int .u64 (n : Int), .int .i64 l, .int .i64 m] w (Ret (.tuple #[.int .i64 0, .int .i64 1]) w) := by
  go_enter Try.func14, Try.ntmps14
  go_wp2
  go_ret2
  exact Ret.mk rfl (Below.refl _ _)

theorem cnt_eq (l m : Int) (h : l ≤ m) (hl : -9223372036854775808 ≤ l) (hm : m ≤ 9223372036854775807) (hn : m - l + 1 < 18446744073709551616) :
    IntKind.u64.wrap (IntKind.u64.wrap (IntKind.u64.wrap m - IntKind.u64.wrap l) + 1) = (((m - l + 1).toNat : Nat) : Int) := by
  simp only [wrU]
  omega

set_option maxHeartbeats 400000 in
theorem between_all (s n : Nat) (w : World) (hs : s < 18446744073709551616) (hn : n < 18446744073709551616) :
    Calls Try.prog 14 #[.int .u64 (s : Int), .int .u64 (n : Int), .int .i64 (-9223372036854775808), .int .i64 9223372036854775807] w
      (Ret (.tuple #[.int .i64 (wrap64 ((atN s n : Nat) : Int)), .int .i64 0]) w) := by
  go_enter Try.func14, Try.ntmps14
  go_wp2_with fail
  refine (rngAt_any s n _ hs hn).mono ?_
  rintro e w1 ⟨rfl, b1⟩
  obtain ⟨z, ez⟩ : ∃ z, atN s n = z := ⟨_, rfl⟩
  rw [ez]
  have EZ := Lib.hid ez
  clear ez
  have hl : z < 18446744073709551616 := by rw [← EZ.out]; exact atN_lt s n
  go_wp2
  go_ret2
  exact Ret.mk (two_eq (by rw [EZ.out]) rfl) b1

set_option maxHeartbeats 400000 in
theorem between_in (s n : Nat) (l m : Int) (w : World) (hs : s < 18446744073709551616) (hn : n < 18446744073709551616) (h : l ≤ m) (hl : -9223372036854775808 ≤ l) (hm : m ≤ 9223372036854775807) (hc : m - l + 1 < 18446744073709551616) :
    Calls Try.prog 14 #[.int .u64 (s : Int), .int .u64 (n : Int), .int .i64 l, .int .i64 m] w
      (Ret (.tuple #[.int .i64 (l + ((belowN s n (m - l + 1).toNat : Nat) : Int)), .int .i64 0]) w) := by
  have HC := Lib.hid (cnt_eq l m h hl hm hc)
  obtain ⟨C, eC⟩ : ∃ C, (m - l + 1).toNat = C := ⟨_, rfl⟩
  rw [eC] at HC ⊢
  have hC : (C : Int) = m - l + 1 := by omega
  have hC1 : C < 18446744073709551616 := by omega
  have ht : (IntKind.u64.wrap (IntKind.u64.wrap (IntKind.u64.wrap m - IntKind.u64.wrap l) + 1) == 0) = false := by
    rw [HC.out]
    simp
    omega
  have hb : belowN s n C < C := belowN_lt (by omega)
  have h0 : ¬ m < l := by omega
  go_enter Try.func14, Try.ntmps14
  go_wp2_with fail
  refine (rngBelow_of s n C _ rfl HC.out hs hn hC1).mono ?_
  rintro e w1 ⟨rfl, b1⟩
  obtain ⟨z, ez⟩ : ∃ z, belowN s n C = z := ⟨_, rfl⟩
  rw [ez] at hb ⊢
  have EZ := Lib.hid ez
  clear ez
  have HF := Lib.hid (And.intro hb (And.intro hC (And.intro hl hm)))
  clear hb hC
  go_wp2
  go_ret2
  refine Ret.mk (two_eq ?_ rfl) b1
  obtain ⟨f1, f2, f3, f4⟩ := HF.out
  rw [EZ.out]
  unfold wrap64
  omega

end Go.Proofs.Ytlpoholdphihfaa
