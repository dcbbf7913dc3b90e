/- The walk of the law RngOrders. -/
import Derived.Test.YtlpoholdphihfaaAwake5
import Derived.Test.YtlpoholdphihfaaRefOrd
namespace Go.Proofs.Ytlpoholdphihfaa
open Go.RowKit
set_option linter.unusedVariables false

set_option maxHeartbeats 1000000 in
theorem orders_out (s n : Nat) (c : Int) (h : c < 0 ∨ 256 < c) (w : World) :
    Calls Try.prog 7 #[.int .u64 (s : Int), .int .u64 (n : Int), .int .i64 c] w (Ret (.bool true) w) := by
  rcases h with h | h
  · go_enter Try.func7, Try.ntmps7
    go_wp2_with fail
    refine (order_out s n c _ (Or.inl h)).mono ?_
    rintro e w1 ⟨rfl, b1⟩
    have B2 := Lib.hid b1
    clear b1
    go_wp2_with fail
    refine (awake_any _).mono ?_
    rintro e w3 ⟨rfl, b3⟩
    have B3 := Lib.hid (B2.out.trans (b3.mono B2.out.size))
    clear b3 B2
    go_wp2
    go_ret
    exact Ret.mk rfl B3.out
  · have h0 : ¬ c < 0 := by omega
    go_enter Try.func7, Try.ntmps7
    go_wp2_with fail
    refine (order_out s n c _ (Or.inr h)).mono ?_
    rintro e w1 ⟨rfl, b1⟩
    have B2 := Lib.hid b1
    clear b1
    go_wp2_with fail
    refine (awake_any _).mono ?_
    rintro e w3 ⟨rfl, b3⟩
    have B3 := Lib.hid (B2.out.trans (b3.mono B2.out.size))
    clear b3 B2
    go_wp2
    go_ret
    exact Ret.mk rfl B3.out

set_option maxHeartbeats 1000000 in
theorem orders_in (s n c : Nat) (hs : s < 18446744073709551616) (hn : n < 18446744073709551616) (hc : c ≤ 256) (w : World) :
    Calls Try.prog 7 #[.int .u64 (s : Int), .int .u64 (n : Int), .int .i64 (c : Int)] w (Ret (.bool true) w) := by
  go_enter Try.func7, Try.ntmps7
  go_wp2_with fail
  refine (order_any s n c _ hs hn hc).mono ?_
  rintro e w1 ⟨g, rfl, hA, b1⟩
  have HA := Lib.hid hA
  have B1 := Lib.hid b1
  clear hA b1
  go_wp2_with fail
  refine (refOrder_any s n c _ hs hn hc).mono ?_
  rintro e w2 ⟨R, K, rfl, hK, hKm, hR, b2⟩
  have HR := Lib.hid hR
  have HA2 := Lib.hid (HA.out.keep b2)
  have B2 := Lib.hid (B1.out.trans (b2.mono B1.out.size))
  have HK := Lib.hid (And.intro hK hKm)
  clear hR b2 HA B1 hK hKm
  obtain ⟨p, ep⟩ : ∃ p, ord s n c (c - 1) = p := ⟨_, rfl⟩
  rw [ep] at HR HA2
  clear ep
  go_wp2
  go_loopw [10] (fun i wr => ∃ k : Nat, k ≤ c ∧ i = .int .i64 (k : Int) ∧ Arr wr w.heap.size g c p ∧ ArrO wr w1.heap.size R c p ∧ Below w.heap.size w wr) (fun i _ => c - (intOf i).toNat)
  case atStart => exact ⟨0, by omega, rfl, HA2.out, HR.out, B2.out⟩
  case round =>
    obtain ⟨k, hk, rfl, hA, hR, hB⟩ := hrel
    clear HA2 HR B2
    have HA := Lib.hid hA
    have HR := Lib.hid hR
    have B2 := Lib.hid hB
    clear hA hR hB
    by_cases hlt : k < c
    · obtain ⟨q, rfl, hR1⟩ := HR.out (by omega)
      have hca := HA.out.cell k hlt
      have hcr := hR1.cell k hlt
      have HR1 := Lib.hid hR1
      clear hR1
      have i0 : (0 : Int) ≤ (k : Int) := by omega
      have i1 : (k : Int) < (c : Int) := by omega
      go_wp2
      go_quiet (fail)
      have hA3 : Arr (wr.drewN nq) w.heap.size g c p := ⟨HA.out.lo, HA.out.hi, HA.out.cell, HA.out.free⟩
      have hR3 : Arr (wr.drewN nq) w1.heap.size q c p := ⟨HR1.out.lo, HR1.out.hi, HR1.out.cell, HR1.out.free⟩
      have hB3 : Below w.heap.size w (wr.drewN nq) := bdrewN5 B2.out nq
      have HX := Lib.hid (And.intro hA3 (And.intro hR3 hB3))
      clear hA3 hR3 hB3 HR HA HR1 B2
      go_wp2
      go_roundw
      case rel => exact ⟨k + 1, by omega, by go_num, HX.out.1, fun _ => ⟨q, rfl, HX.out.2.1⟩, HX.out.2.2⟩
      case measure => simp [intOf]; omega
    · clear HA HR
      go_wp2_with fail
      refine (awake_any _).mono ?_
      rintro e w3 ⟨rfl, b3⟩
      have B3 := Lib.hid (B2.out.trans (b3.mono B2.out.size))
      clear b3 B2
      go_wp2
      go_ret
      exact Ret.mk rfl B3.out

theorem walk_RngOrders (a0 a1 a2 : Int) (w0 : (Lit.int .u64 a0).wf = true) (w1 : (Lit.int .u64 a1).wf = true) (w2 : (Lit.int .i64 a2).wf = true) (w : World) :
    Calls Try.prog 7 #[.int .u64 a0, .int .u64 a1, .int .i64 a2] w (Ret (.bool true) w) := by
  obtain ⟨s, rfl, hs⟩ := nat_of w0
  obtain ⟨n, rfl, hn⟩ := nat_of w1
  by_cases h1 : a2 < 0
  · exact orders_out s n a2 (Or.inl h1) w
  · by_cases h2 : 256 < a2
    · exact orders_out s n a2 (Or.inr h2) w
    · obtain ⟨c, rfl⟩ := Int.eq_ofNat_of_zero_le (show 0 ≤ a2 by omega)
      exact orders_in s n c hs hn (by omega) w

end Go.Proofs.Ytlpoholdphihfaa
