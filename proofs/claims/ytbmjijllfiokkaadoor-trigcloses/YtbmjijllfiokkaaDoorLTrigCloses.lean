/- The walk of the law TrigCloses. -/
import Derived.Test.YtbmjijllfiokkaaDoorAwake3
namespace Go.Proofs.YtbmjijllfiokkaaDoor
open Go.RowKit
set_option linter.unusedVariables false

/-- What is left of a wrapped number. -/
theorem wrap_mod (z : Int) : wrap64 z % 65536 = z % 65536 := by unfold wrap64; omega
theorem wrap_in (z : Int) : -9223372036854775808 ≤ wrap64 z ∧ wrap64 z ≤ 9223372036854775807 := by unfold wrap64; omega
/-- Behind k turns of the most M: what is left of the way. -/
structure Close (b M D : Int) (k : Nat) (c : Int) : Prop where
  low : 0 ≤ c
  high : c < 65536
  left : gap c b = if D ≤ (k : Int) * M then 0 else D - (k : Int) * M
theorem Close.start {b M D A : Int} (h0 : 0 ≤ A) (h1 : A < 65536) (h : gap A b = D) : Close b M D 0 A := by
  refine ⟨h0, h1, ?_⟩
  have := gap_range A b
  rw [show ((0 : Nat) : Int) = 0 from rfl, Int.zero_mul]
  split <;> omega
theorem Close.next {b M D c : Int} {k : Nat} (h : Close b M D k c) (hM : 0 ≤ M) (hk : (k : Int) * M < D) : Close b M D (k + 1) (tw c b M) := by
  have r := tw_range c b M
  have l : gap c b = D - (k : Int) * M := h.left.trans (if_neg (by omega))
  refine ⟨r.1, r.2, ?_⟩
  rw [tw_gap c b M hM, l, show ((k + 1 : Nat) : Int) * M = (k : Int) * M + M by rw [Int.natCast_add, Int.add_mul]; simp]
  split <;> split <;> omega
theorem Close.away {b M D c : Int} {k : Nat} (h : Close b M D k c) (hk : (k : Int) * M < D) : (c == b % 65536) = false := by
  have g := gap_zero (b := b) h.low h.high
  have l := h.left
  rw [if_neg (by omega)] at l
  simp
  intro e
  have := g.2 e
  omega
theorem Close.there {b M D c : Int} {k : Nat} (h : Close b M D k c) (hk : ¬ (k : Int) * M < D) : c = b % 65536 := by
  have g := gap_zero (b := b) h.low h.high
  have l := h.left
  rw [if_pos (by omega)] at l
  exact g.1 l
/-- How many turns there are. -/
theorem rounds_in {D M : Int} (h0 : 0 ≤ D) (h1 : D ≤ 32768) (hM : 512 ≤ M) (hM' : M ≤ 65536) : 0 ≤ (D + M - 1) / M ∧ (D + M - 1) / M ≤ 98304 := by
  have a := Int.ediv_nonneg (a := D + M - 1) (b := M) (by omega) (by omega)
  have b := Int.ediv_le_self (a := D + M - 1) M (by omega)
  omega

set_option maxHeartbeats 1000000 in
theorem closes_low_up (a b m : Int) (w : World) (hT : Tab w) (ha : -9223372036854775808 ≤ a) (ha' : a ≤ 9223372036854775807) (hb : -9223372036854775808 ≤ b) (hb' : b ≤ 9223372036854775807) (hm : m < 512) (hu : wrap64 (b - a % 65536) % 65536 ≤ 32768) :
    Calls Tryd.prog 9 #[.int .i64 a, .int .i64 b, .int .i64 m] w (Ret (.bool true) w) := by
  have HT := Lib.hid hT
  have e0 := wrap_mod (b - a % 65536)
  have HC : Hid (Close b 512 (wrap64 (b - a % 65536) % 65536) 0 (a % 65536)) := Close.start (by omega) (by omega) (by unfold gap; split <;> omega)
  have u0 : 0 ≤ wrap64 (b - a % 65536) % 65536 := by omega
  have u1 : wrap64 (b - a % 65536) % 65536 < 65536 := by omega
  have a0 : 0 ≤ a % 65536 := by omega
  have a1 : a % 65536 < 65536 := by omega
  obtain ⟨x0, x1⟩ := wrap_in (b - a % 65536)
  have HK := Lib.hid (rounds_in (D := (wrap64 (b - a % 65536) % 65536)) (M := 512) (by omega) (by omega) (by omega) (by omega))
  have HL : Hid (∀ i : Int, i < ((wrap64 (b - a % 65536) % 65536) + 512 - 1) / 512 ↔ i * 512 < (wrap64 (b - a % 65536) % 65536)) := fun i => rounds_lt (by omega)
  clear hT e0
  generalize hA : a % 65536 = A at *
  have HA := Lib.hid hA
  clear hA
  go_enter Tryd.func9, Tryd.ntmps9
  go_wp2_with fail
  refine (norm_any a _ ha ha').mono ?_
  rw [HA.out]
  rintro e w1 ⟨rfl, b1⟩
  have B1 := Lib.hid b1
  clear b1
  go_wp2_with fail
  refine (norm_any (wrap64 (b - A)) _ x0 x1).mono ?_
  rintro e w2 ⟨rfl, b2⟩
  have B2 := Lib.hid (B1.out.trans (b2.mono B1.out.size))
  clear b2 B1
  generalize wrap64 (b - A) % 65536 = U at *
  go_wp2
  go_loopw [7, 9] (fun c i wr => ∃ (k : Nat) (C : Int), c = .int .i64 C ∧ i = .int .i64 (k : Int) ∧ (k : Int) ≤ (U + 512 - 1) / 512 ∧ Hid (Close b 512 U k C) ∧ Hid (Below w.heap.size w wr)) (fun _ i _ => (((U + 512 - 1) / 512) - intOf i).toNat)
  case atStart => exact ⟨0, A, rfl, rfl, HK.out.1, HC, B2⟩
  case round =>
    obtain ⟨k, C, rfl, rfl, hk, HCl, HB⟩ := hrel
    have hK := HK.out.2
    obtain ⟨C0, C1, _⟩ := HCl.out
    have HLk := Lib.hid (HL.out (k : Int))
    by_cases hc : (k : Int) < (U + 512 - 1) / 512
    · have HW := Lib.hid (HCl.out.away (HLk.out.1 hc))
      have HN := Lib.hid (HCl.out.next (by omega) (HLk.out.1 hc))
      go_wp2_with fail
      refine (norm_any b _ hb hb').mono ?_
      rintro e w3 ⟨rfl, b3⟩
      have B3 := Lib.hid (HB.out.trans (b3.mono HB.out.size))
      clear b3
      have hw := HW.out
      go_wp2_with fail
      refine (toward_any C b 512 _ (by omega) (by omega) hb hb').mono ?_
      rintro e w4 ⟨rfl, b4⟩
      have B4 := Lib.hid (B3.out.trans (b4.mono B3.out.size))
      clear b4 hw
      go_wp2
      go_roundw
      case rel => exact ⟨k + 1, _, rfl, by go_num, by omega, HN, B4⟩
      case measure => simp [intOf]; omega
    · have hE := HCl.out.there (fun h => hc (HLk.out.2 h))
      have HS := Lib.hid (tw_stay (most := 512) C0 C1 hE)
      have HE := Lib.hid hE
      clear hE
      go_wp2_with fail
      refine (norm_any b _ hb hb').mono ?_
      rw [← HE.out]
      rintro e w3 ⟨rfl, b3⟩
      have B3 := Lib.hid (HB.out.trans (b3.mono HB.out.size))
      clear b3
      go_wp2_with fail
      refine (toward_any C b 512 _ (by omega) (by omega) hb hb').mono ?_
      rw [HS.out]
      rintro e w4 ⟨rfl, b4⟩
      have B4 := Lib.hid (B3.out.trans (b4.mono B3.out.size))
      clear b4
      go_wp2_with fail
      refine (awake3_any _ (HT.out.keep B4.out)).mono ?_
      rintro e w5 ⟨rfl, b5⟩
      have B5 := Lib.hid (B4.out.trans (b5.mono B4.out.size))
      clear b5
      go_wp2
      go_ret
      exact Ret.mk rfl B5.out

set_option maxHeartbeats 1000000 in
theorem closes_low_down (a b m : Int) (w : World) (hT : Tab w) (ha : -9223372036854775808 ≤ a) (ha' : a ≤ 9223372036854775807) (hb : -9223372036854775808 ≤ b) (hb' : b ≤ 9223372036854775807) (hm : m < 512) (hu : 32768 < wrap64 (b - a % 65536) % 65536) :
    Calls Tryd.prog 9 #[.int .i64 a, .int .i64 b, .int .i64 m] w (Ret (.bool true) w) := by
  have HT := Lib.hid hT
  have e0 := wrap_mod (b - a % 65536)
  have HC : Hid (Close b 512 (65536 - wrap64 (b - a % 65536) % 65536) 0 (a % 65536)) := Close.start (by omega) (by omega) (by unfold gap; split <;> omega)
  have u0 : 0 ≤ wrap64 (b - a % 65536) % 65536 := by omega
  have u1 : wrap64 (b - a % 65536) % 65536 < 65536 := by omega
  have a0 : 0 ≤ a % 65536 := by omega
  have a1 : a % 65536 < 65536 := by omega
  obtain ⟨x0, x1⟩ := wrap_in (b - a % 65536)
  have HK := Lib.hid (rounds_in (D := (65536 - wrap64 (b - a % 65536) % 65536)) (M := 512) (by omega) (by omega) (by omega) (by omega))
  have HL : Hid (∀ i : Int, i < ((65536 - wrap64 (b - a % 65536) % 65536) + 512 - 1) / 512 ↔ i * 512 < (65536 - wrap64 (b - a % 65536) % 65536)) := fun i => rounds_lt (by omega)
  clear hT e0
  generalize hA : a % 65536 = A at *
  have HA := Lib.hid hA
  clear hA
  go_enter Tryd.func9, Tryd.ntmps9
  go_wp2_with fail
  refine (norm_any a _ ha ha').mono ?_
  rw [HA.out]
  rintro e w1 ⟨rfl, b1⟩
  have B1 := Lib.hid b1
  clear b1
  go_wp2_with fail
  refine (norm_any (wrap64 (b - A)) _ x0 x1).mono ?_
  rintro e w2 ⟨rfl, b2⟩
  have B2 := Lib.hid (B1.out.trans (b2.mono B1.out.size))
  clear b2 B1
  generalize wrap64 (b - A) % 65536 = U at *
  go_wp2
  go_loopw [7, 9] (fun c i wr => ∃ (k : Nat) (C : Int), c = .int .i64 C ∧ i = .int .i64 (k : Int) ∧ (k : Int) ≤ ((65536 - U) + 512 - 1) / 512 ∧ Hid (Close b 512 (65536 - U) k C) ∧ Hid (Below w.heap.size w wr)) (fun _ i _ => ((((65536 - U) + 512 - 1) / 512) - intOf i).toNat)
  case atStart => exact ⟨0, A, rfl, rfl, HK.out.1, HC, B2⟩
  case round =>
    obtain ⟨k, C, rfl, rfl, hk, HCl, HB⟩ := hrel
    have hK := HK.out.2
    obtain ⟨C0, C1, _⟩ := HCl.out
    have HLk := Lib.hid (HL.out (k : Int))
    by_cases hc : (k : Int) < ((65536 - U) + 512 - 1) / 512
    · have HW := Lib.hid (HCl.out.away (HLk.out.1 hc))
      have HN := Lib.hid (HCl.out.next (by omega) (HLk.out.1 hc))
      go_wp2_with fail
      refine (norm_any b _ hb hb').mono ?_
      rintro e w3 ⟨rfl, b3⟩
      have B3 := Lib.hid (HB.out.trans (b3.mono HB.out.size))
      clear b3
      have hw := HW.out
      go_wp2_with fail
      refine (toward_any C b 512 _ (by omega) (by omega) hb hb').mono ?_
      rintro e w4 ⟨rfl, b4⟩
      have B4 := Lib.hid (B3.out.trans (b4.mono B3.out.size))
      clear b4 hw
      go_wp2
      go_roundw
      case rel => exact ⟨k + 1, _, rfl, by go_num, by omega, HN, B4⟩
      case measure => simp [intOf]; omega
    · have hE := HCl.out.there (fun h => hc (HLk.out.2 h))
      have HS := Lib.hid (tw_stay (most := 512) C0 C1 hE)
      have HE := Lib.hid hE
      clear hE
      go_wp2_with fail
      refine (norm_any b _ hb hb').mono ?_
      rw [← HE.out]
      rintro e w3 ⟨rfl, b3⟩
      have B3 := Lib.hid (HB.out.trans (b3.mono HB.out.size))
      clear b3
      go_wp2_with fail
      refine (toward_any C b 512 _ (by omega) (by omega) hb hb').mono ?_
      rw [HS.out]
      rintro e w4 ⟨rfl, b4⟩
      have B4 := Lib.hid (B3.out.trans (b4.mono B3.out.size))
      clear b4
      go_wp2_with fail
      refine (awake3_any _ (HT.out.keep B4.out)).mono ?_
      rintro e w5 ⟨rfl, b5⟩
      have B5 := Lib.hid (B4.out.trans (b5.mono B4.out.size))
      clear b5
      go_wp2
      go_ret
      exact Ret.mk rfl B5.out

set_option maxHeartbeats 1000000 in
theorem closes_high_up (a b m : Int) (w : World) (hT : Tab w) (ha : -9223372036854775808 ≤ a) (ha' : a ≤ 9223372036854775807) (hb : -9223372036854775808 ≤ b) (hb' : b ≤ 9223372036854775807) (hm : ¬ m < 512) (hm2 : 65536 < m) (hu : wrap64 (b - a % 65536) % 65536 ≤ 32768) :
    Calls Tryd.prog 9 #[.int .i64 a, .int .i64 b, .int .i64 m] w (Ret (.bool true) w) := by
  have HT := Lib.hid hT
  have e0 := wrap_mod (b - a % 65536)
  have HC : Hid (Close b 512 (wrap64 (b - a % 65536) % 65536) 0 (a % 65536)) := Close.start (by omega) (by omega) (by unfold gap; split <;> omega)
  have u0 : 0 ≤ wrap64 (b - a % 65536) % 65536 := by omega
  have u1 : wrap64 (b - a % 65536) % 65536 < 65536 := by omega
  have a0 : 0 ≤ a % 65536 := by omega
  have a1 : a % 65536 < 65536 := by omega
  obtain ⟨x0, x1⟩ := wrap_in (b - a % 65536)
  have HK := Lib.hid (rounds_in (D := (wrap64 (b - a % 65536) % 65536)) (M := 512) (by omega) (by omega) (by omega) (by omega))
  have HL : Hid (∀ i : Int, i < ((wrap64 (b - a % 65536) % 65536) + 512 - 1) / 512 ↔ i * 512 < (wrap64 (b - a % 65536) % 65536)) := fun i => rounds_lt (by omega)
  clear hT e0
  generalize hA : a % 65536 = A at *
  have HA := Lib.hid hA
  clear hA
  go_enter Tryd.func9, Tryd.ntmps9
  go_wp2_with fail
  refine (norm_any a _ ha ha').mono ?_
  rw [HA.out]
  rintro e w1 ⟨rfl, b1⟩
  have B1 := Lib.hid b1
  clear b1
  go_wp2_with fail
  refine (norm_any (wrap64 (b - A)) _ x0 x1).mono ?_
  rintro e w2 ⟨rfl, b2⟩
  have B2 := Lib.hid (B1.out.trans (b2.mono B1.out.size))
  clear b2 B1
  generalize wrap64 (b - A) % 65536 = U at *
  go_wp2
  go_loopw [7, 9] (fun c i wr => ∃ (k : Nat) (C : Int), c = .int .i64 C ∧ i = .int .i64 (k : Int) ∧ (k : Int) ≤ (U + 512 - 1) / 512 ∧ Hid (Close b 512 U k C) ∧ Hid (Below w.heap.size w wr)) (fun _ i _ => (((U + 512 - 1) / 512) - intOf i).toNat)
  case atStart => exact ⟨0, A, rfl, rfl, HK.out.1, HC, B2⟩
  case round =>
    obtain ⟨k, C, rfl, rfl, hk, HCl, HB⟩ := hrel
    have hK := HK.out.2
    obtain ⟨C0, C1, _⟩ := HCl.out
    have HLk := Lib.hid (HL.out (k : Int))
    by_cases hc : (k : Int) < (U + 512 - 1) / 512
    · have HW := Lib.hid (HCl.out.away (HLk.out.1 hc))
      have HN := Lib.hid (HCl.out.next (by omega) (HLk.out.1 hc))
      go_wp2_with fail
      refine (norm_any b _ hb hb').mono ?_
      rintro e w3 ⟨rfl, b3⟩
      have B3 := Lib.hid (HB.out.trans (b3.mono HB.out.size))
      clear b3
      have hw := HW.out
      go_wp2_with fail
      refine (toward_any C b 512 _ (by omega) (by omega) hb hb').mono ?_
      rintro e w4 ⟨rfl, b4⟩
      have B4 := Lib.hid (B3.out.trans (b4.mono B3.out.size))
      clear b4 hw
      go_wp2
      go_roundw
      case rel => exact ⟨k + 1, _, rfl, by go_num, by omega, HN, B4⟩
      case measure => simp [intOf]; omega
    · have hE := HCl.out.there (fun h => hc (HLk.out.2 h))
      have HS := Lib.hid (tw_stay (most := 512) C0 C1 hE)
      have HE := Lib.hid hE
      clear hE
      go_wp2_with fail
      refine (norm_any b _ hb hb').mono ?_
      rw [← HE.out]
      rintro e w3 ⟨rfl, b3⟩
      have B3 := Lib.hid (HB.out.trans (b3.mono HB.out.size))
      clear b3
      go_wp2_with fail
      refine (toward_any C b 512 _ (by omega) (by omega) hb hb').mono ?_
      rw [HS.out]
      rintro e w4 ⟨rfl, b4⟩
      have B4 := Lib.hid (B3.out.trans (b4.mono B3.out.size))
      clear b4
      go_wp2_with fail
      refine (awake3_any _ (HT.out.keep B4.out)).mono ?_
      rintro e w5 ⟨rfl, b5⟩
      have B5 := Lib.hid (B4.out.trans (b5.mono B4.out.size))
      clear b5
      go_wp2
      go_ret
      exact Ret.mk rfl B5.out

set_option maxHeartbeats 1000000 in
theorem closes_high_down (a b m : Int) (w : World) (hT : Tab w) (ha : -9223372036854775808 ≤ a) (ha' : a ≤ 9223372036854775807) (hb : -9223372036854775808 ≤ b) (hb' : b ≤ 9223372036854775807) (hm : ¬ m < 512) (hm2 : 65536 < m) (hu : 32768 < wrap64 (b - a % 65536) % 65536) :
    Calls Tryd.prog 9 #[.int .i64 a, .int .i64 b, .int .i64 m] w (Ret (.bool true) w) := by
  have HT := Lib.hid hT
  have e0 := wrap_mod (b - a % 65536)
  have HC : Hid (Close b 512 (65536 - wrap64 (b - a % 65536) % 65536) 0 (a % 65536)) := Close.start (by omega) (by omega) (by unfold gap; split <;> omega)
  have u0 : 0 ≤ wrap64 (b - a % 65536) % 65536 := by omega
  have u1 : wrap64 (b - a % 65536) % 65536 < 65536 := by omega
  have a0 : 0 ≤ a % 65536 := by omega
  have a1 : a % 65536 < 65536 := by omega
  obtain ⟨x0, x1⟩ := wrap_in (b - a % 65536)
  have HK := Lib.hid (rounds_in (D := (65536 - wrap64 (b - a % 65536) % 65536)) (M := 512) (by omega) (by omega) (by omega) (by omega))
  have HL : Hid (∀ i : Int, i < ((65536 - wrap64 (b - a % 65536) % 65536) + 512 - 1) / 512 ↔ i * 512 < (65536 - wrap64 (b - a % 65536) % 65536)) := fun i => rounds_lt (by omega)
  clear hT e0
  generalize hA : a % 65536 = A at *
  have HA := Lib.hid hA
  clear hA
  go_enter Tryd.func9, Tryd.ntmps9
  go_wp2_with fail
  refine (norm_any a _ ha ha').mono ?_
  rw [HA.out]
  rintro e w1 ⟨rfl, b1⟩
  have B1 := Lib.hid b1
  clear b1
  go_wp2_with fail
  refine (norm_any (wrap64 (b - A)) _ x0 x1).mono ?_
  rintro e w2 ⟨rfl, b2⟩
  have B2 := Lib.hid (B1.out.trans (b2.mono B1.out.size))
  clear b2 B1
  generalize wrap64 (b - A) % 65536 = U at *
  go_wp2
  go_loopw [7, 9] (fun c i wr => ∃ (k : Nat) (C : Int), c = .int .i64 C ∧ i = .int .i64 (k : Int) ∧ (k : Int) ≤ ((65536 - U) + 512 - 1) / 512 ∧ Hid (Close b 512 (65536 - U) k C) ∧ Hid (Below w.heap.size w wr)) (fun _ i _ => ((((65536 - U) + 512 - 1) / 512) - intOf i).toNat)
  case atStart => exact ⟨0, A, rfl, rfl, HK.out.1, HC, B2⟩
  case round =>
    obtain ⟨k, C, rfl, rfl, hk, HCl, HB⟩ := hrel
    have hK := HK.out.2
    obtain ⟨C0, C1, _⟩ := HCl.out
    have HLk := Lib.hid (HL.out (k : Int))
    by_cases hc : (k : Int) < ((65536 - U) + 512 - 1) / 512
    · have HW := Lib.hid (HCl.out.away (HLk.out.1 hc))
      have HN := Lib.hid (HCl.out.next (by omega) (HLk.out.1 hc))
      go_wp2_with fail
      refine (norm_any b _ hb hb').mono ?_
      rintro e w3 ⟨rfl, b3⟩
      have B3 := Lib.hid (HB.out.trans (b3.mono HB.out.size))
      clear b3
      have hw := HW.out
      go_wp2_with fail
      refine (toward_any C b 512 _ (by omega) (by omega) hb hb').mono ?_
      rintro e w4 ⟨rfl, b4⟩
      have B4 := Lib.hid (B3.out.trans (b4.mono B3.out.size))
      clear b4 hw
      go_wp2
      go_roundw
      case rel => exact ⟨k + 1, _, rfl, by go_num, by omega, HN, B4⟩
      case measure => simp [intOf]; omega
    · have hE := HCl.out.there (fun h => hc (HLk.out.2 h))
      have HS := Lib.hid (tw_stay (most := 512) C0 C1 hE)
      have HE := Lib.hid hE
      clear hE
      go_wp2_with fail
      refine (norm_any b _ hb hb').mono ?_
      rw [← HE.out]
      rintro e w3 ⟨rfl, b3⟩
      have B3 := Lib.hid (HB.out.trans (b3.mono HB.out.size))
      clear b3
      go_wp2_with fail
      refine (toward_any C b 512 _ (by omega) (by omega) hb hb').mono ?_
      rw [HS.out]
      rintro e w4 ⟨rfl, b4⟩
      have B4 := Lib.hid (B3.out.trans (b4.mono B3.out.size))
      clear b4
      go_wp2_with fail
      refine (awake3_any _ (HT.out.keep B4.out)).mono ?_
      rintro e w5 ⟨rfl, b5⟩
      have B5 := Lib.hid (B4.out.trans (b5.mono B4.out.size))
      clear b5
      go_wp2
      go_ret
      exact Ret.mk rfl B5.out

set_option maxHeartbeats 1000000 in
theorem closes_plain_up (a b m : Int) (w : World) (hT : Tab w) (ha : -9223372036854775808 ≤ a) (ha' : a ≤ 9223372036854775807) (hb : -9223372036854775808 ≤ b) (hb' : b ≤ 9223372036854775807) (hm : 512 ≤ m) (hm2 : m ≤ 65536) (hu : wrap64 (b - a % 65536) % 65536 ≤ 32768) :
    Calls Tryd.prog 9 #[.int .i64 a, .int .i64 b, .int .i64 m] w (Ret (.bool true) w) := by
  have HT := Lib.hid hT
  have e0 := wrap_mod (b - a % 65536)
  have HC : Hid (Close b m (wrap64 (b - a % 65536) % 65536) 0 (a % 65536)) := Close.start (by omega) (by omega) (by unfold gap; split <;> omega)
  have u0 : 0 ≤ wrap64 (b - a % 65536) % 65536 := by omega
  have u1 : wrap64 (b - a % 65536) % 65536 < 65536 := by omega
  have a0 : 0 ≤ a % 65536 := by omega
  have a1 : a % 65536 < 65536 := by omega
  obtain ⟨x0, x1⟩ := wrap_in (b - a % 65536)
  have HK := Lib.hid (rounds_in (D := (wrap64 (b - a % 65536) % 65536)) (M := m) (by omega) (by omega) (by omega) (by omega))
  have HL : Hid (∀ i : Int, i < ((wrap64 (b - a % 65536) % 65536) + m - 1) / m ↔ i * m < (wrap64 (b - a % 65536) % 65536)) := fun i => rounds_lt (by omega)
  clear hT e0
  generalize hA : a % 65536 = A at *
  have HA := Lib.hid hA
  clear hA
  go_enter Tryd.func9, Tryd.ntmps9
  go_wp2_with fail
  refine (norm_any a _ ha ha').mono ?_
  rw [HA.out]
  rintro e w1 ⟨rfl, b1⟩
  have B1 := Lib.hid b1
  clear b1
  go_wp2_with fail
  refine (norm_any (wrap64 (b - A)) _ x0 x1).mono ?_
  rintro e w2 ⟨rfl, b2⟩
  have B2 := Lib.hid (B1.out.trans (b2.mono B1.out.size))
  clear b2 B1
  generalize wrap64 (b - A) % 65536 = U at *
  go_wp2
  go_loopw [7, 9] (fun c i wr => ∃ (k : Nat) (C : Int), c = .int .i64 C ∧ i = .int .i64 (k : Int) ∧ (k : Int) ≤ (U + m - 1) / m ∧ Hid (Close b m U k C) ∧ Hid (Below w.heap.size w wr)) (fun _ i _ => (((U + m - 1) / m) - intOf i).toNat)
  case atStart => exact ⟨0, A, rfl, rfl, HK.out.1, HC, B2⟩
  case round =>
    obtain ⟨k, C, rfl, rfl, hk, HCl, HB⟩ := hrel
    have hK := HK.out.2
    obtain ⟨C0, C1, _⟩ := HCl.out
    have HLk := Lib.hid (HL.out (k : Int))
    by_cases hc : (k : Int) < (U + m - 1) / m
    · have HW := Lib.hid (HCl.out.away (HLk.out.1 hc))
      have HN := Lib.hid (HCl.out.next (by omega) (HLk.out.1 hc))
      go_wp2_with fail
      refine (norm_any b _ hb hb').mono ?_
      rintro e w3 ⟨rfl, b3⟩
      have B3 := Lib.hid (HB.out.trans (b3.mono HB.out.size))
      clear b3
      have hw := HW.out
      go_wp2_with fail
      refine (toward_any C b m _ (by omega) (by omega) hb hb').mono ?_
      rintro e w4 ⟨rfl, b4⟩
      have B4 := Lib.hid (B3.out.trans (b4.mono B3.out.size))
      clear b4 hw
      go_wp2
      go_roundw
      case rel => exact ⟨k + 1, _, rfl, by go_num, by omega, HN, B4⟩
      case measure => simp [intOf]; omega
    · have hE := HCl.out.there (fun h => hc (HLk.out.2 h))
      have HS := Lib.hid (tw_stay (most := m) C0 C1 hE)
      have HE := Lib.hid hE
      clear hE
      go_wp2_with fail
      refine (norm_any b _ hb hb').mono ?_
      rw [← HE.out]
      rintro e w3 ⟨rfl, b3⟩
      have B3 := Lib.hid (HB.out.trans (b3.mono HB.out.size))
      clear b3
      go_wp2_with fail
      refine (toward_any C b m _ (by omega) (by omega) hb hb').mono ?_
      rw [HS.out]
      rintro e w4 ⟨rfl, b4⟩
      have B4 := Lib.hid (B3.out.trans (b4.mono B3.out.size))
      clear b4
      go_wp2_with fail
      refine (awake3_any _ (HT.out.keep B4.out)).mono ?_
      rintro e w5 ⟨rfl, b5⟩
      have B5 := Lib.hid (B4.out.trans (b5.mono B4.out.size))
      clear b5
      go_wp2
      go_ret
      exact Ret.mk rfl B5.out

set_option maxHeartbeats 1000000 in
theorem closes_plain_down (a b m : Int) (w : World) (hT : Tab w) (ha : -9223372036854775808 ≤ a) (ha' : a ≤ 9223372036854775807) (hb : -9223372036854775808 ≤ b) (hb' : b ≤ 9223372036854775807) (hm : 512 ≤ m) (hm2 : m ≤ 65536) (hu : 32768 < wrap64 (b - a % 65536) % 65536) :
    Calls Tryd.prog 9 #[.int .i64 a, .int .i64 b, .int .i64 m] w (Ret (.bool true) w) := by
  have HT := Lib.hid hT
  have e0 := wrap_mod (b - a % 65536)
  have HC : Hid (Close b m (65536 - wrap64 (b - a % 65536) % 65536) 0 (a % 65536)) := Close.start (by omega) (by omega) (by unfold gap; split <;> omega)
  have u0 : 0 ≤ wrap64 (b - a % 65536) % 65536 := by omega
  have u1 : wrap64 (b - a % 65536) % 65536 < 65536 := by omega
  have a0 : 0 ≤ a % 65536 := by omega
  have a1 : a % 65536 < 65536 := by omega
  obtain ⟨x0, x1⟩ := wrap_in (b - a % 65536)
  have HK := Lib.hid (rounds_in (D := (65536 - wrap64 (b - a % 65536) % 65536)) (M := m) (by omega) (by omega) (by omega) (by omega))
  have HL : Hid (∀ i : Int, i < ((65536 - wrap64 (b - a % 65536) % 65536) + m - 1) / m ↔ i * m < (65536 - wrap64 (b - a % 65536) % 65536)) := fun i => rounds_lt (by omega)
  clear hT e0
  generalize hA : a % 65536 = A at *
  have HA := Lib.hid hA
  clear hA
  go_enter Tryd.func9, Tryd.ntmps9
  go_wp2_with fail
  refine (norm_any a _ ha ha').mono ?_
  rw [HA.out]
  rintro e w1 ⟨rfl, b1⟩
  have B1 := Lib.hid b1
  clear b1
  go_wp2_with fail
  refine (norm_any (wrap64 (b - A)) _ x0 x1).mono ?_
  rintro e w2 ⟨rfl, b2⟩
  have B2 := Lib.hid (B1.out.trans (b2.mono B1.out.size))
  clear b2 B1
  generalize wrap64 (b - A) % 65536 = U at *
  go_wp2
  go_loopw [7, 9] (fun c i wr => ∃ (k : Nat) (C : Int), c = .int .i64 C ∧ i = .int .i64 (k : Int) ∧ (k : Int) ≤ ((65536 - U) + m - 1) / m ∧ Hid (Close b m (65536 - U) k C) ∧ Hid (Below w.heap.size w wr)) (fun _ i _ => ((((65536 - U) + m - 1) / m) - intOf i).toNat)
  case atStart => exact ⟨0, A, rfl, rfl, HK.out.1, HC, B2⟩
  case round =>
    obtain ⟨k, C, rfl, rfl, hk, HCl, HB⟩ := hrel
    have hK := HK.out.2
    obtain ⟨C0, C1, _⟩ := HCl.out
    have HLk := Lib.hid (HL.out (k : Int))
    by_cases hc : (k : Int) < ((65536 - U) + m - 1) / m
    · have HW := Lib.hid (HCl.out.away (HLk.out.1 hc))
      have HN := Lib.hid (HCl.out.next (by omega) (HLk.out.1 hc))
      go_wp2_with fail
      refine (norm_any b _ hb hb').mono ?_
      rintro e w3 ⟨rfl, b3⟩
      have B3 := Lib.hid (HB.out.trans (b3.mono HB.out.size))
      clear b3
      have hw := HW.out
      go_wp2_with fail
      refine (toward_any C b m _ (by omega) (by omega) hb hb').mono ?_
      rintro e w4 ⟨rfl, b4⟩
      have B4 := Lib.hid (B3.out.trans (b4.mono B3.out.size))
      clear b4 hw
      go_wp2
      go_roundw
      case rel => exact ⟨k + 1, _, rfl, by go_num, by omega, HN, B4⟩
      case measure => simp [intOf]; omega
    · have hE := HCl.out.there (fun h => hc (HLk.out.2 h))
      have HS := Lib.hid (tw_stay (most := m) C0 C1 hE)
      have HE := Lib.hid hE
      clear hE
      go_wp2_with fail
      refine (norm_any b _ hb hb').mono ?_
      rw [← HE.out]
      rintro e w3 ⟨rfl, b3⟩
      have B3 := Lib.hid (HB.out.trans (b3.mono HB.out.size))
      clear b3
      go_wp2_with fail
      refine (toward_any C b m _ (by omega) (by omega) hb hb').mono ?_
      rw [HS.out]
      rintro e w4 ⟨rfl, b4⟩
      have B4 := Lib.hid (B3.out.trans (b4.mono B3.out.size))
      clear b4
      go_wp2_with fail
      refine (awake3_any _ (HT.out.keep B4.out)).mono ?_
      rintro e w5 ⟨rfl, b5⟩
      have B5 := Lib.hid (B4.out.trans (b5.mono B4.out.size))
      clear b5
      go_wp2
      go_ret
      exact Ret.mk rfl B5.out

theorem walk_TrigCloses (a b m : Int) (h0 : (Lit.int .i64 a).wf = true) (h1 : (Lit.int .i64 b).wf = true) (h2 : (Lit.int .i64 m).wf = true) (w : World) (hT : Tab w) :
    Calls Tryd.prog 9 #[.int .i64 a, .int .i64 b, .int .i64 m] w (Ret (.bool true) w) := by
  obtain ⟨ha, ha'⟩ := wfI3 h0
  obtain ⟨hb, hb'⟩ := wfI3 h1
  by_cases hu : wrap64 (b - a % 65536) % 65536 ≤ 32768
  · by_cases hm : m < 512
    · exact closes_low_up a b m w hT ha ha' hb hb' hm hu
    · by_cases hm2 : 65536 < m
      · exact closes_high_up a b m w hT ha ha' hb hb' hm hm2 hu
      · exact closes_plain_up a b m w hT ha ha' hb hb' (by omega) (by omega) hu
  · by_cases hm : m < 512
    · exact closes_low_down a b m w hT ha ha' hb hb' hm (by omega)
    · by_cases hm2 : 65536 < m
      · exact closes_high_down a b m w hT ha ha' hb hb' hm hm2 (by omega)
      · exact closes_plain_down a b m w hT ha ha' hb hb' (by omega) (by omega) (by omega)

end Go.Proofs.YtbmjijllfiokkaaDoor
