/- The walk of the law RngOnce. -/
import Derived.Test.YtlpoholdphihfaaAwake5
import Derived.Test.YtlpoholdphihfaaRefOrd
namespace Go.Proofs.Ytlpoholdphihfaa
open Go.RowKit
set_option linter.unusedVariables false

set_option maxHeartbeats 1000000 in
theorem once_out (s n : Nat) (c : Int) (h : c < 0 ∨ 256 < c) (w : World) :
    Calls Try.prog 8 #[.int .u64 (s : Int), .int .u64 (n : Int), .int .i64 c] w (Ret (.bool true) w) := by
  rcases h with h | h
  · go_enter Try.func8, Try.ntmps8
    go_wp2_with fail
    refine (order_out s n c _ (Or.inl h)).mono ?_
    rintro e w1 ⟨rfl, b1⟩
    have B2 := Lib.hid b1
    clear b1
    go_wp2_with fail
    refine (awake_any _).mono ?_
    rintro e w3 ⟨rfl, b3⟩
    have B3 := Lib.hid (B2.out.trans (b3.mono B2.out.size))
    clear b3 B2
    go_wp2
    go_ret
    exact Ret.mk rfl B3.out
  · have h0 : ¬ c < 0 := by omega
    go_enter Try.func8, Try.ntmps8
    go_wp2_with fail
    refine (order_out s n c _ (Or.inr h)).mono ?_
    rintro e w1 ⟨rfl, b1⟩
    have B2 := Lib.hid b1
    clear b1
    go_wp2_with fail
    refine (awake_any _).mono ?_
    rintro e w3 ⟨rfl, b3⟩
    have B3 := Lib.hid (B2.out.trans (b3.mono B2.out.size))
    clear b3 B2
    go_wp2
    go_ret
    exact Ret.mk rfl B3.out

/-- How often x was seen among the first k. -/
def sn5 (p : Nat → Nat) : Nat → Nat → Nat
  | 0 => fun _ => 0
  | k + 1 => fun x => if x = p k then sn5 p k x + 1 else sn5 p k x
theorem sn5_zero {p : Nat → Nat} {c : Nat} (hi : ∀ x y, x < c → y < c → p x = p y → x = y) : ∀ k j, k ≤ j → j < c → sn5 p k (p j) = 0
  | 0, j, _, _ => rfl
  | k + 1, j, h, hj => by
    have hne : p j ≠ p k := fun e => by
      have := hi j k hj (by omega) e
      omega
    unfold sn5
    rw [if_neg hne]
    exact sn5_zero hi k j (by omega) hj

set_option maxHeartbeats 1000000 in
theorem once_in (s n c : Nat) (hs : s < 18446744073709551616) (hn : n < 18446744073709551616) (hc : c ≤ 256) (w : World) :
    Calls Try.prog 8 #[.int .u64 (s : Int), .int .u64 (n : Int), .int .i64 (c : Int)] w (Ret (.bool true) w) := by
  have hmk := run_make_row' (P := Try.prog) 34 3 (.int .i64 0) 8 Try.underlying34 Try.infoI rfl .i64 .i64 c (by omega) (by omega)
  go_enter Try.func8, Try.ntmps8
  go_wp2_with fail
  refine (order_any s n c _ hs hn hc).mono ?_
  rintro e w1 ⟨g, rfl, hA, b1⟩
  have hlt5 : Hid (0 < c → ∀ x, x < c → ord s n c (c - 1) x < c) := fun h => ord_lt s n c (c - 1) (by omega)
  have hinj5 : Hid (0 < c → ∀ x y, x < c → y < c → ord s n c (c - 1) x = ord s n c (c - 1) y → x = y) := fun h => ord_inj s n c (c - 1) (by omega)
  obtain ⟨p, ep⟩ : ∃ p, ord s n c (c - 1) = p := ⟨_, rfl⟩
  rw [ep] at hA hlt5 hinj5
  clear ep
  have hM := Arr.made w1 c
  have hA2 : Arr (w1.alloc (.cells (madeCells #[.int .i64 0] c) 3)) w.heap.size g c p := hA.keep ((Below.refl _ _).alloc (Nat.le_refl _) _)
  have HX := Lib.hid (And.intro hA.hi (And.intro hM (And.intro hA2 (b1.alloc b1.size (.cells (madeCells #[.int .i64 0] c) 3)))))
  have hgs : g < w1.heap.size := hA.hi
  have b0 := b1.size
  clear hA hM hA2 b1
  go_wp2
  obtain ⟨q, hq⟩ : ∃ q, w1.heap.size = q := ⟨_, rfl⟩
  have HQ := Lib.hid hq
  rw [hq] at hgs b0 HX ⊢
  clear hq
  go_loopw [10] (fun i wr => ∃ k : Nat, k ≤ c ∧ i = .int .i64 (k : Int) ∧ Arr wr w.heap.size g c p ∧ Arr wr q q c (sn5 p k) ∧ Below w.heap.size w wr) (fun i _ => c - (intOf i).toNat)
  case atStart => exact ⟨0, by omega, rfl, HX.out.2.2.1, HX.out.2.1, HX.out.2.2.2⟩
  case round =>
    obtain ⟨k, hk, rfl, hA, hS, hB⟩ := hrel
    clear HX
    by_cases hlt : k < c
    · have hpk : p k < c := hlt5.out (by omega) k hlt
      have hz : sn5 p k (p k) = 0 := sn5_zero (hinj5.out (by omega)) k k (Nat.le_refl _) hlt
      have hca := hA.cell k hlt
      have hcs := hS.cell (p k) hpk
      have hfs := hS.free (p k) hpk
      rw [hz] at hcs
      obtain ⟨y, ey⟩ : ∃ y, p k = y := ⟨_, rfl⟩
      have HN : Hid (Arr (wr.setCell ⟨q, y, none⟩ (.int .i64 1)) q q c (sn5 p (k + 1))) := by
        refine (hS.set (i := y) (by omega) 1).congr (fun i hi => ?_)
        show (if i = y then 1 else sn5 p k i) = (if i = p k then sn5 p k i + 1 else sn5 p k i)
        by_cases e : i = y
        · subst e
          rw [if_pos rfl, ey, if_pos rfl]
          rw [ey] at hz
          omega
        · rw [if_neg e, ey, if_neg e]
      have HA' : Hid (Arr (wr.setCell ⟨q, y, none⟩ (.int .i64 1)) w.heap.size g c p) := by
        refine ⟨hA.lo, by simpa using hA.hi, fun i hi => ?_, fun i hi => (World.frozen?_setCell _ _ _ _).trans (hA.free i hi)⟩
        refine (World.cell?_setCell_other _ _ _ _ (fun he => ?_)).trans (hA.cell i hi)
        injection he with h1 h2
        omega
      have HB' : Hid (Below w.heap.size w (wr.setCell ⟨q, y, none⟩ (.int .i64 1))) := hB.setCell (p := ⟨q, y, none⟩) b0 _
      rw [ey] at hca hcs hfs hpk
      clear ey hA hS hB hz hlt5 hinj5
      have i0 : (0 : Int) ≤ (k : Int) := by omega
      have i1 : (k : Int) < (c : Int) := by omega
      have y0 : (0 : Int) ≤ (y : Int) := by omega
      have y1 : (y : Int) < (c : Int) := by omega
      simp at hcs
      go_wp2
      go_roundw
      case rel => exact ⟨k + 1, by omega, by go_num, HA', HN, HB'⟩
      case measure => simp [intOf]; omega
    · have B2 := Lib.hid hB
      clear hA hS hB
      go_wp2_with fail
      refine (awake_any _).mono ?_
      rintro e w3 ⟨rfl, b3⟩
      have B3 := Lib.hid (B2.out.trans (b3.mono B2.out.size))
      clear b3 B2
      go_wp2
      go_ret
      exact Ret.mk rfl B3.out

theorem walk_RngOnce (a0 a1 a2 : Int) (w0 : (Lit.int .u64 a0).wf = true) (w1 : (Lit.int .u64 a1).wf = true) (w2 : (Lit.int .i64 a2).wf = true) (w : World) :
    Calls Try.prog 8 #[.int .u64 a0, .int .u64 a1, .int .i64 a2] w (Ret (.bool true) w) := by
  obtain ⟨s, rfl, hs⟩ := nat_of w0
  obtain ⟨n, rfl, hn⟩ := nat_of w1
  by_cases h1 : a2 < 0
  · exact once_out s n a2 (Or.inl h1) w
  · by_cases h2 : 256 < a2
    · exact once_out s n a2 (Or.inr h2) w
    · obtain ⟨c, rfl⟩ := Int.eq_ofNat_of_zero_le (show 0 ≤ a2 by omega)
      exact once_in s n c hs hn (by omega) w

end Go.Proofs.Ytlpoholdphihfaa
