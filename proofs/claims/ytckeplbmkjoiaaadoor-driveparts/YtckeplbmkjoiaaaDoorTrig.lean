/- Contracts of package trig's functions but Heading, over the translated program: what each call returns where the table of sines lies as the text lays it. -/
import Derived.Test.YtckeplbmkjoiaaaDoorFix
import Derived.Test.YtckeplbmkjoiaaaDoorTMath
import Derived.Deep.QuietTactic
import Derived.BigQuiet
namespace Go.Proofs.YtckeplbmkjoiaaaDoor
open Go.RowKit
set_option linter.unusedVariables false

/-- The table's cells hold the sines of a quarter. -/
def Tab (w : World) : Prop := ∀ i : Nat, i < 65 → w.cell? ⟨1, i, none⟩ = some (.int .i64 (tb i))
theorem size_of_cell {w : World} {b i : Nat} {v : Value} (h : w.cell? ⟨b, i, none⟩ = some v) : b < w.heap.size := World.block_lt_of_cell? w ⟨b, i, none⟩ h
theorem Tab.size {w : World} (h : Tab w) : 1 < w.heap.size := size_of_cell (h 0 (by omega))
theorem Tab.keep {w w' : World} (h : Tab w) (hb : Below w.heap.size w w') : Tab w' := fun i hi => (Below.cell hb h.size).trans (h i hi)
theorem Tab.drew {w : World} (h : Tab w) : Tab w.drew := h
theorem Tab.at {w : World} (h : Tab w) {i : Int} (h0 : 0 ≤ i) (h1 : i ≤ 64) : w.cell? ⟨1, i.toNat, none⟩ = some (.int .i64 (tb i)) := by
  have := h i.toNat (by omega)
  rwa [show ((i.toNat : Nat) : Int) = i by omega] at this

set_option maxHeartbeats 400000 in
theorem norm_any (a : Int) (w : World) (ha : -9223372036854775808 ≤ a) (ha' : a ≤ 9223372036854775807) :
    Calls Tryd.prog 16 #[.int .i64 a] w (Ret (.int .i64 (a % 65536)) w) := by
  go_enter Tryd.func16, Tryd.ntmps16
  go_wp2_with fail
  refine (mod_any _ _ _ ha ha' (by omega) (by omega)).mono ?_
  rintro e w1 ⟨rfl, b1⟩
  rw [show mV a 65536 = a % 65536 by unfold mV; rw [if_neg (by omega)]; exact Int.fmod_eq_emod_of_nonneg a (by omega)]
  have HB := Lib.hid b1
  clear b1
  go_wp2
  go_ret
  exact Ret.mk rfl HB.out

set_option maxHeartbeats 400000 in
theorem quarter_entry (r : Int) (w : World) (hT : Tab w) (h0 : 0 ≤ r) (h1 : r ≤ 16384) (hz : r % 256 = 0) :
    Calls Tryd.prog 63 #[.int .i64 r] w (Ret (.int .i64 (quart r)) w) := by
  have HQ := Lib.hid (quart_entry hz)
  have c := hT.at (i := r / 256) (by omega) (by omega)
  clear hT
  go_enter Tryd.func63, Tryd.ntmps63
  go_wp2
  go_ret
  exact Ret.mk (congrArg (Value.int .i64) HQ.out.symm) (Below.refl _ _)

theorem below_drewN {w : World} (n : Nat) : Below w.heap.size w (w.drewN n) := by
  induction n with
  | zero => exact Below.refl _ _
  | succ n ih => exact ih.drew
/-- What lies between two entries, as the code reckons it. -/
theorem quart_steps {r : Int} (h0 : 0 ≤ r) (h1 : r < 16384) :
    (0 ≤ tb (r / 256) ∧ tb (r / 256) ≤ 65536) ∧ (0 ≤ tb (r / 256 + 1) - tb (r / 256) ∧ tb (r / 256 + 1) - tb (r / 256) ≤ 65536) ∧
    (0 ≤ (tb (r / 256 + 1) - tb (r / 256)) * (r % 256) ∧ (tb (r / 256 + 1) - tb (r / 256)) * (r % 256) ≤ 16777216) := by
  have a := tb_range (i := r / 256) (by omega) (by omega)
  have b := tb_range (i := r / 256 + 1) (by omega) (by omega)
  have c := tb_nat (i := r / 256) (by omega) (by omega)
  have d := line_in (d := tb (r / 256 + 1) - tb (r / 256)) (f := r % 256) (by omega) (by omega) (by omega)
  omega

set_option maxHeartbeats 400000 in
theorem quarter_line (r : Int) (w : World) (hT : Tab w) (h0 : 0 ≤ r) (h1 : r < 16384) (hz : (r % 256 == 0) = false) :
    Calls Tryd.prog 63 #[.int .i64 r] w (Ret (.int .i64 (quart r)) w) := by
  have HQ : Hid (quart r = tb (r / 256) + (tb (r / 256 + 1) - tb (r / 256)) * (r % 256) / 256) := rfl
  obtain ⟨⟨s0, s1⟩, ⟨s2, s3⟩, s4, s5⟩ := quart_steps h0 h1
  have c := hT.at (i := r / 256) (by omega) (by omega)
  have c' := hT.at (i := r / 256 + 1) (by omega) (by omega)
  have i0 : 0 ≤ r / 256 := by omega
  have i1 : r / 256 < 65 := by omega
  have j0 : 0 ≤ r / 256 + 1 := by omega
  have j1 : r / 256 + 1 < 65 := by omega
  clear hT
  generalize quart r = Q at *
  generalize tb (r / 256) = L at *
  generalize tb (r / 256 + 1) = H at *
  go_enter Tryd.func63, Tryd.ntmps63
  go_wp2
  go_quiet (fail)
  go_wp2
  go_ret
  exact Ret.mk (congrArg (Value.int .i64) HQ.out.symm) (below_drewN nq)

theorem quarter_any (r : Int) (w : World) (hT : Tab w) (h0 : 0 ≤ r) (h1 : r ≤ 16384) :
    Calls Tryd.prog 63 #[.int .i64 r] w (Ret (.int .i64 (quart r)) w) := by
  by_cases hz : r % 256 = 0
  · exact quarter_entry r w hT h0 h1 hz
  · exact quarter_line r w hT h0 (by omega) (by simpa using hz)

set_option maxHeartbeats 400000 in
theorem sin_q0 (a : Int) (w : World) (hT : Tab w) (ha : -9223372036854775808 ≤ a) (ha' : a ≤ 9223372036854775807)
    (p0 : 0 ≤ a % 65536) (p1 : a % 65536 < 16384) :
    Calls Tryd.prog 56 #[.int .i64 a] w (Ret (.int .i64 (sn a)) w) := by
  have HS : Hid (sn a = quart ((a % 65536) % 16384)) := (sn_q0 rfl (by omega)).trans (by congr 1; omega)
  have t0 : (a % 65536 / 16384 == 1) = false := by simp; omega
  have t1 : (a % 65536 / 16384 == 3) = false := by simp; omega
  have t2 : a % 65536 / 16384 < 2 := by omega
  go_enter Tryd.func56, Tryd.ntmps56
  go_wp2_with fail
  refine (norm_any _ _ ha ha').mono ?_
  rintro e w1 ⟨rfl, b1⟩
  have HT := Lib.hid (hT.keep b1)
  have HB := Lib.hid b1
  clear b1 hT
  generalize a % 65536 = p at *
  go_wp2_with fail
  refine (quarter_any _ _ HT.out (by omega) (by omega)).mono ?_
  have hR := quart_range (r := p % 16384) (by omega) (by omega)
  obtain ⟨r0, r1⟩ := hR
  generalize quart (p % 16384) = Q at *
  rintro e w2 ⟨rfl, b2⟩
  have HB2 := Lib.hid (HB.out.trans (b2.mono HB.out.size))
  clear b2
  go_wp2
  go_ret
  exact Ret.mk (congrArg (Value.int .i64) HS.out.symm) HB2.out

set_option maxHeartbeats 400000 in
theorem sin_q1 (a : Int) (w : World) (hT : Tab w) (ha : -9223372036854775808 ≤ a) (ha' : a ≤ 9223372036854775807)
    (p0 : 16384 ≤ a % 65536) (p1 : a % 65536 < 32768) :
    Calls Tryd.prog 56 #[.int .i64 a] w (Ret (.int .i64 (sn a)) w) := by
  have HS : Hid (sn a = quart (16384 - (a % 65536) % 16384)) := (sn_q1 rfl (by omega) (by omega)).trans (by congr 1; omega)
  have t0 : (a % 65536 / 16384 == 1) = true := by simp; omega
  have t1 : a % 65536 / 16384 < 2 := by omega
  go_enter Tryd.func56, Tryd.ntmps56
  go_wp2_with fail
  refine (norm_any _ _ ha ha').mono ?_
  rintro e w1 ⟨rfl, b1⟩
  have HT := Lib.hid (hT.keep b1)
  have HB := Lib.hid b1
  clear b1 hT
  generalize a % 65536 = p at *
  go_wp2_with fail
  refine (quarter_any _ _ HT.out (by omega) (by omega)).mono ?_
  have hR := quart_range (r := 16384 - p % 16384) (by omega) (by omega)
  obtain ⟨r0, r1⟩ := hR
  generalize quart (16384 - p % 16384) = Q at *
  rintro e w2 ⟨rfl, b2⟩
  have HB2 := Lib.hid (HB.out.trans (b2.mono HB.out.size))
  clear b2
  go_wp2
  go_ret
  exact Ret.mk (congrArg (Value.int .i64) HS.out.symm) HB2.out

set_option maxHeartbeats 400000 in
theorem sin_q2 (a : Int) (w : World) (hT : Tab w) (ha : -9223372036854775808 ≤ a) (ha' : a ≤ 9223372036854775807)
    (p0 : 32768 ≤ a % 65536) (p1 : a % 65536 < 49152) :
    Calls Tryd.prog 56 #[.int .i64 a] w (Ret (.int .i64 (sn a)) w) := by
  have HS : Hid (sn a = -quart ((a % 65536) % 16384)) := (sn_q2 rfl (by omega) (by omega)).trans (by congr 2; omega)
  have t0 : (a % 65536 / 16384 == 1) = false := by simp; omega
  have t1 : (a % 65536 / 16384 == 3) = false := by simp; omega
  have t2 : 2 ≤ a % 65536 / 16384 := by omega
  go_enter Tryd.func56, Tryd.ntmps56
  go_wp2_with fail
  refine (norm_any _ _ ha ha').mono ?_
  rintro e w1 ⟨rfl, b1⟩
  have HT := Lib.hid (hT.keep b1)
  have HB := Lib.hid b1
  clear b1 hT
  generalize a % 65536 = p at *
  go_wp2_with fail
  refine (quarter_any _ _ HT.out (by omega) (by omega)).mono ?_
  have hR := quart_range (r := p % 16384) (by omega) (by omega)
  obtain ⟨r0, r1⟩ := hR
  generalize quart (p % 16384) = Q at *
  rintro e w2 ⟨rfl, b2⟩
  have HB2 := Lib.hid (HB.out.trans (b2.mono HB.out.size))
  clear b2
  go_wp2
  go_ret
  exact Ret.mk (congrArg (Value.int .i64) HS.out.symm) HB2.out

set_option maxHeartbeats 400000 in
theorem sin_q3 (a : Int) (w : World) (hT : Tab w) (ha : -9223372036854775808 ≤ a) (ha' : a ≤ 9223372036854775807)
    (p0 : 49152 ≤ a % 65536) (p1 : a % 65536 < 65536) :
    Calls Tryd.prog 56 #[.int .i64 a] w (Ret (.int .i64 (sn a)) w) := by
  have HS : Hid (sn a = -quart (16384 - (a % 65536) % 16384)) := (sn_q3 rfl (by omega)).trans (by congr 2; omega)
  have t0 : (a % 65536 / 16384 == 1) = false := by simp; omega
  have t1 : (a % 65536 / 16384 == 3) = true := by simp; omega
  have t2 : 2 ≤ a % 65536 / 16384 := by omega
  go_enter Tryd.func56, Tryd.ntmps56
  go_wp2_with fail
  refine (norm_any _ _ ha ha').mono ?_
  rintro e w1 ⟨rfl, b1⟩
  have HT := Lib.hid (hT.keep b1)
  have HB := Lib.hid b1
  clear b1 hT
  generalize a % 65536 = p at *
  go_wp2_with fail
  refine (quarter_any _ _ HT.out (by omega) (by omega)).mono ?_
  have hR := quart_range (r := 16384 - p % 16384) (by omega) (by omega)
  obtain ⟨r0, r1⟩ := hR
  generalize quart (16384 - p % 16384) = Q at *
  rintro e w2 ⟨rfl, b2⟩
  have HB2 := Lib.hid (HB.out.trans (b2.mono HB.out.size))
  clear b2
  go_wp2
  go_ret
  exact Ret.mk (congrArg (Value.int .i64) HS.out.symm) HB2.out

theorem sin_any (a : Int) (w : World) (hT : Tab w) (ha : -9223372036854775808 ≤ a) (ha' : a ≤ 9223372036854775807) :
    Calls Tryd.prog 56 #[.int .i64 a] w (Ret (.int .i64 (sn a)) w) := by
  rcases Int.lt_or_le (a % 65536) 16384 with h1 | h1
  · exact sin_q0 a w hT ha ha' (by omega) h1
  · rcases Int.lt_or_le (a % 65536) 32768 with h2 | h2
    · exact sin_q1 a w hT ha ha' h1 h2
    · rcases Int.lt_or_le (a % 65536) 49152 with h3 | h3
      · exact sin_q2 a w hT ha ha' h2 h3
      · exact sin_q3 a w hT ha ha' h3 (by omega)

set_option maxHeartbeats 400000 in
theorem cos_any (a : Int) (w : World) (hT : Tab w) (ha : -9223372036854775808 ≤ a) (ha' : a ≤ 9223372036854775807) :
    Calls Tryd.prog 55 #[.int .i64 a] w (Ret (.int .i64 (cs a)) w) := by
  have HC : Hid (cs a = sn (a % 65536 + 16384)) := rfl
  have p0 : 0 ≤ a % 65536 := by omega
  have p1 : a % 65536 < 65536 := by omega
  go_enter Tryd.func55, Tryd.ntmps55
  go_wp2_with fail
  refine (norm_any _ _ ha ha').mono ?_
  rintro e w1 ⟨rfl, b1⟩
  have HT := Lib.hid (hT.keep b1)
  have HB := Lib.hid b1
  clear b1 hT
  generalize a % 65536 = p at *
  go_wp2_with fail
  refine (sin_any _ _ HT.out (by omega) (by omega)).mono ?_
  rintro e w2 ⟨rfl, b2⟩
  have HB2 := Lib.hid (HB.out.trans (b2.mono HB.out.size))
  clear b2
  go_wp2
  go_ret
  exact Ret.mk (congrArg (Value.int .i64) HC.out.symm) HB2.out

/-- No way's side is too far. -/
def FarT (v : Int) : Prop := v < -1073741824 ∨ 1073741824 < v
instance (v : Int) : Decidable (FarT v) := inferInstanceAs (Decidable (_ ∨ _))

set_option maxHeartbeats 400000 in
theorem trigFar_any (v : Int) (w : World) :
    Calls Tryd.prog 42 #[.int .i64 v] w (fun e w' => e = .returned (.bool (decide (FarT v))) ∧ w = w') := by
  by_cases h1 : v < -1073741824
  · rw [decide_eq_true (p := FarT v) (Or.inl h1)]
    go_enter Tryd.func42, Tryd.ntmps42
    go_wp2
    go_ret
    exact ⟨rfl, rfl⟩
  · by_cases h2 : 1073741824 < v
    · rw [decide_eq_true (p := FarT v) (Or.inr h2)]
      go_enter Tryd.func42, Tryd.ntmps42
      go_wp2
      go_ret
      exact ⟨rfl, rfl⟩
    · rw [decide_eq_false (by unfold FarT; omega : ¬ FarT v)]
      go_enter Tryd.func42, Tryd.ntmps42
      go_wp2
      go_ret
      exact ⟨rfl, rfl⟩

theorem three_eq {a b c d e f : Int} (h : a = d) (g : b = e) (i : c = f) : Value.tuple #[.int .i64 a, .int .i64 b, .int .i64 c] = .tuple #[.int .i64 d, .int .i64 e, .int .i64 f] := by rw [h, g, i]
set_option maxHeartbeats 400000 in
theorem vec_over (a l : Int) (w : World) (h : FarT l) :
    Calls Tryd.prog 48 #[.int .i64 a, .int .i64 l] w (Ret (.tuple #[.int .i64 0, .int .i64 0, .int .i64 8]) w) := by
  have HD := Lib.hid (decide_eq_true h)
  clear h
  go_enter Tryd.func48, Tryd.ntmps48
  go_wp2_with fail
  refine (trigFar_any _ _).mono ?_
  rw [HD.out]
  rintro e w1 ⟨rfl, rfl⟩
  go_wp2
  refine bodyPost_ret (v := .tuple #[.int .i64 0, .int .i64 0, .int .i64 8]) ?_ rfl ⟨rfl, Below.refl _ _⟩
  simp [results, Tryd.results48, go_sem]
/-- A product by a sine is as near as the length is. -/
theorem vec_fit {l s : Int} (h : ¬ FarT l) (hs : -65536 ≤ s ∧ s ≤ 65536) : Fit (l * s / 65536) := by
  unfold FarT at h
  have := (wv_bound (x := l) (y := 0) (c := s) (s := 0) ⟨by omega, by omega, by omega, by omega⟩ hs ⟨by omega, by omega⟩).1
  unfold Fit
  omega
set_option maxHeartbeats 400000 in
theorem vec_in (a l : Int) (w : World) (hT : Tab w) (ha : -9223372036854775808 ≤ a) (ha' : a ≤ 9223372036854775807) (h : ¬ FarT l) :
    Calls Tryd.prog 48 #[.int .i64 a, .int .i64 l] w (Ret (.tuple #[.int .i64 (l * cs a / 65536), .int .i64 (l * sn a / 65536), .int .i64 0]) w) := by
  have HD := Lib.hid (decide_eq_false h)
  have FX := Lib.hid (vec_fit h (cs_range a))
  have FY := Lib.hid (vec_fit h (sn_range a))
  have l0 : -9223372036854775808 ≤ l := by unfold FarT at h; omega
  have l1 : l ≤ 9223372036854775807 := by unfold FarT at h; omega
  obtain ⟨c0, c1⟩ := cs_range a
  obtain ⟨s0, s1⟩ := sn_range a
  clear h
  generalize hcs : cs a = C at *
  generalize hsn : sn a = S at *
  have HC := Lib.hid hcs
  have HS := Lib.hid hsn
  clear hcs hsn
  go_enter Tryd.func48, Tryd.ntmps48
  go_wp2_with fail
  refine (trigFar_any _ _).mono ?_
  rw [HD.out]
  rintro e w1 ⟨rfl, rfl⟩
  go_wp2_with fail
  refine (cos_any _ _ hT ha ha').mono ?_
  rw [HC.out]
  rintro e w1 ⟨rfl, b1⟩
  go_wp2_with fail
  refine (fixMul_any _ _ _ l0 l1 (by omega) (by omega)).mono ?_
  rw [rV_in FX.out, rE_in FX.out]
  rintro e w2 ⟨rfl, b2⟩
  have B2 := Lib.hid (b1.trans (b2.mono b1.size))
  have HT := Lib.hid (hT.keep B2.out)
  clear b1 b2 hT
  go_wp2_with fail
  refine (sin_any _ _ HT.out ha ha').mono ?_
  rw [HS.out]
  rintro e w3 ⟨rfl, b3⟩
  go_wp2_with fail
  refine (fixMul_any _ _ _ l0 l1 (by omega) (by omega)).mono ?_
  rw [rV_in FY.out, rE_in FY.out]
  rintro e w4 ⟨rfl, b4⟩
  have B3 := B2.out.trans (b3.mono B2.out.size)
  have HB := Lib.hid (B3.trans (b4.mono B3.size))
  clear b3 b4 B3
  go_wp2
  refine bodyPost_ret (v := .tuple #[.int .i64 (l * C / 65536), .int .i64 (l * S / 65536), .int .i64 0]) ?_ rfl ⟨rfl, HB.out⟩
  simp [results, Tryd.results48, go_sem]

theorem mod_small {p : Int} (h0 : 0 ≤ p) (h1 : p < 65536) : p % 65536 = p := by omega
set_option maxHeartbeats 400000 in
theorem toward_no (a b m : Int) (w : World) (ha : -9223372036854775808 ≤ a) (ha' : a ≤ 9223372036854775807) (h : m < 0) :
    Calls Tryd.prog 33 #[.int .i64 a, .int .i64 b, .int .i64 m] w (Ret (.int .i64 (tw a b m)) w) := by
  have HT : Hid (tw a b m = a % 65536) := if_pos h
  go_enter Tryd.func33, Tryd.ntmps33
  go_wp2_with fail
  refine (norm_any _ _ ha ha').mono ?_
  rintro e w1 ⟨rfl, b1⟩
  have HB := Lib.hid b1
  clear b1
  go_wp2
  go_ret
  exact Ret.mk (congrArg (Value.int .i64) HT.out.symm) HB.out

set_option maxHeartbeats 400000 in
theorem toward_up_part (a b m : Int) (w : World) (ha : -9223372036854775808 ≤ a) (ha' : a ≤ 9223372036854775807) (hb : -9223372036854775808 ≤ b) (hb' : b ≤ 9223372036854775807) (h : 0 ≤ m) (hu : (b % 65536 - a % 65536) % 65536 ≤ 32768) (hm : m < (b % 65536 - a % 65536) % 65536) :
    Calls Tryd.prog 33 #[.int .i64 a, .int .i64 b, .int .i64 m] w (Ret (.int .i64 (tw a b m)) w) := by
  have HT : Hid (tw a b m = (a % 65536 + m) % 65536) := ((if_neg (by omega)).trans (if_pos hu)).trans (by rw [Int.min_eq_right (by omega)])
  have h' : ¬ m < 0 := by omega
  have a0 : 0 ≤ a % 65536 := by omega
  have a1 : a % 65536 < 65536 := by omega
  have b0 : 0 ≤ b % 65536 := by omega
  have b1 : b % 65536 < 65536 := by omega
  have u0 : 0 ≤ (b % 65536 - a % 65536) % 65536 := by omega
  have u1 : (b % 65536 - a % 65536) % 65536 < 65536 := by omega
  go_enter Tryd.func33, Tryd.ntmps33
  go_wp2_with fail
  refine (norm_any _ _ ha ha').mono ?_
  rintro e w1 ⟨rfl, c1⟩
  go_wp2_with fail
  refine (norm_any _ _ hb hb').mono ?_
  rintro e w2 ⟨rfl, c2⟩
  generalize a % 65536 = A at *
  generalize b % 65536 = B at *
  go_wp2_with fail
  refine (norm_any (B - A) _ (by omega) (by omega)).mono ?_
  rintro e w3 ⟨rfl, c3⟩
  have C2 := c1.trans (c2.mono c1.size)
  have HB := Lib.hid (C2.trans (c3.mono C2.size))
  clear c1 c2 c3 C2
  generalize (B - A) % 65536 = U at *
  go_wp2_with fail
  refine (norm_any (A + m) _ (by omega) (by omega)).mono ?_
  rintro e w4 ⟨rfl, c4⟩
  have HB4 := Lib.hid (HB.out.trans (c4.mono HB.out.size))
  clear c4
  go_wp2
  go_ret
  exact Ret.mk (congrArg (Value.int .i64) HT.out.symm) HB4.out

set_option maxHeartbeats 400000 in
theorem toward_up_all (a b m : Int) (w : World) (ha : -9223372036854775808 ≤ a) (ha' : a ≤ 9223372036854775807) (hb : -9223372036854775808 ≤ b) (hb' : b ≤ 9223372036854775807) (h : 0 ≤ m) (hu : (b % 65536 - a % 65536) % 65536 ≤ 32768) (hm : (b % 65536 - a % 65536) % 65536 ≤ m) :
    Calls Tryd.prog 33 #[.int .i64 a, .int .i64 b, .int .i64 m] w (Ret (.int .i64 (tw a b m)) w) := by
  have HT : Hid (tw a b m = (a % 65536 + ((b % 65536 - a % 65536) % 65536)) % 65536) := ((if_neg (by omega)).trans (if_pos hu)).trans (by rw [Int.min_eq_left (by omega)])
  have h' : ¬ m < 0 := by omega
  have a0 : 0 ≤ a % 65536 := by omega
  have a1 : a % 65536 < 65536 := by omega
  have b0 : 0 ≤ b % 65536 := by omega
  have b1 : b % 65536 < 65536 := by omega
  have u0 : 0 ≤ (b % 65536 - a % 65536) % 65536 := by omega
  have u1 : (b % 65536 - a % 65536) % 65536 < 65536 := by omega
  go_enter Tryd.func33, Tryd.ntmps33
  go_wp2_with fail
  refine (norm_any _ _ ha ha').mono ?_
  rintro e w1 ⟨rfl, c1⟩
  go_wp2_with fail
  refine (norm_any _ _ hb hb').mono ?_
  rintro e w2 ⟨rfl, c2⟩
  generalize a % 65536 = A at *
  generalize b % 65536 = B at *
  go_wp2_with fail
  refine (norm_any (B - A) _ (by omega) (by omega)).mono ?_
  rintro e w3 ⟨rfl, c3⟩
  have C2 := c1.trans (c2.mono c1.size)
  have HB := Lib.hid (C2.trans (c3.mono C2.size))
  clear c1 c2 c3 C2
  generalize (B - A) % 65536 = U at *
  go_wp2_with fail
  refine (norm_any (A + U) _ (by omega) (by omega)).mono ?_
  rintro e w4 ⟨rfl, c4⟩
  have HB4 := Lib.hid (HB.out.trans (c4.mono HB.out.size))
  clear c4
  go_wp2
  go_ret
  exact Ret.mk (congrArg (Value.int .i64) HT.out.symm) HB4.out

set_option maxHeartbeats 400000 in
theorem toward_down_part (a b m : Int) (w : World) (ha : -9223372036854775808 ≤ a) (ha' : a ≤ 9223372036854775807) (hb : -9223372036854775808 ≤ b) (hb' : b ≤ 9223372036854775807) (h : 0 ≤ m) (hu : ¬ (b % 65536 - a % 65536) % 65536 ≤ 32768) (hm : m < 65536 - (b % 65536 - a % 65536) % 65536) :
    Calls Tryd.prog 33 #[.int .i64 a, .int .i64 b, .int .i64 m] w (Ret (.int .i64 (tw a b m)) w) := by
  have HT : Hid (tw a b m = (a % 65536 - m) % 65536) := ((if_neg (by omega)).trans (if_neg hu)).trans (by rw [Int.min_eq_right (by omega)])
  have h' : ¬ m < 0 := by omega
  have a0 : 0 ≤ a % 65536 := by omega
  have a1 : a % 65536 < 65536 := by omega
  have b0 : 0 ≤ b % 65536 := by omega
  have b1 : b % 65536 < 65536 := by omega
  have u0 : 0 ≤ (b % 65536 - a % 65536) % 65536 := by omega
  have u1 : (b % 65536 - a % 65536) % 65536 < 65536 := by omega
  go_enter Tryd.func33, Tryd.ntmps33
  go_wp2_with fail
  refine (norm_any _ _ ha ha').mono ?_
  rintro e w1 ⟨rfl, c1⟩
  go_wp2_with fail
  refine (norm_any _ _ hb hb').mono ?_
  rintro e w2 ⟨rfl, c2⟩
  generalize a % 65536 = A at *
  generalize b % 65536 = B at *
  go_wp2_with fail
  refine (norm_any (B - A) _ (by omega) (by omega)).mono ?_
  rintro e w3 ⟨rfl, c3⟩
  have C2 := c1.trans (c2.mono c1.size)
  have HB := Lib.hid (C2.trans (c3.mono C2.size))
  clear c1 c2 c3 C2
  generalize (B - A) % 65536 = U at *
  go_wp2_with fail
  refine (norm_any (A - m) _ (by omega) (by omega)).mono ?_
  rintro e w4 ⟨rfl, c4⟩
  have HB4 := Lib.hid (HB.out.trans (c4.mono HB.out.size))
  clear c4
  go_wp2
  go_ret
  exact Ret.mk (congrArg (Value.int .i64) HT.out.symm) HB4.out

set_option maxHeartbeats 400000 in
theorem toward_down_all (a b m : Int) (w : World) (ha : -9223372036854775808 ≤ a) (ha' : a ≤ 9223372036854775807) (hb : -9223372036854775808 ≤ b) (hb' : b ≤ 9223372036854775807) (h : 0 ≤ m) (hu : ¬ (b % 65536 - a % 65536) % 65536 ≤ 32768) (hm : 65536 - (b % 65536 - a % 65536) % 65536 ≤ m) :
    Calls Tryd.prog 33 #[.int .i64 a, .int .i64 b, .int .i64 m] w (Ret (.int .i64 (tw a b m)) w) := by
  have HT : Hid (tw a b m = (a % 65536 - (65536 - (b % 65536 - a % 65536) % 65536)) % 65536) := ((if_neg (by omega)).trans (if_neg hu)).trans (by rw [Int.min_eq_left (by omega)])
  have h' : ¬ m < 0 := by omega
  have a0 : 0 ≤ a % 65536 := by omega
  have a1 : a % 65536 < 65536 := by omega
  have b0 : 0 ≤ b % 65536 := by omega
  have b1 : b % 65536 < 65536 := by omega
  have u0 : 0 ≤ (b % 65536 - a % 65536) % 65536 := by omega
  have u1 : (b % 65536 - a % 65536) % 65536 < 65536 := by omega
  go_enter Tryd.func33, Tryd.ntmps33
  go_wp2_with fail
  refine (norm_any _ _ ha ha').mono ?_
  rintro e w1 ⟨rfl, c1⟩
  go_wp2_with fail
  refine (norm_any _ _ hb hb').mono ?_
  rintro e w2 ⟨rfl, c2⟩
  generalize a % 65536 = A at *
  generalize b % 65536 = B at *
  go_wp2_with fail
  refine (norm_any (B - A) _ (by omega) (by omega)).mono ?_
  rintro e w3 ⟨rfl, c3⟩
  have C2 := c1.trans (c2.mono c1.size)
  have HB := Lib.hid (C2.trans (c3.mono C2.size))
  clear c1 c2 c3 C2
  generalize (B - A) % 65536 = U at *
  go_wp2_with fail
  refine (norm_any (A - (65536 - U)) _ (by omega) (by omega)).mono ?_
  rintro e w4 ⟨rfl, c4⟩
  have HB4 := Lib.hid (HB.out.trans (c4.mono HB.out.size))
  clear c4
  go_wp2
  go_ret
  exact Ret.mk (congrArg (Value.int .i64) HT.out.symm) HB4.out

theorem toward_any (a b m : Int) (w : World) (ha : -9223372036854775808 ≤ a) (ha' : a ≤ 9223372036854775807) (hb : -9223372036854775808 ≤ b) (hb' : b ≤ 9223372036854775807) :
    Calls Tryd.prog 33 #[.int .i64 a, .int .i64 b, .int .i64 m] w (Ret (.int .i64 (tw a b m)) w) := by
  by_cases h : m < 0
  · exact toward_no a b m w ha ha' h
  · by_cases hu : (b % 65536 - a % 65536) % 65536 ≤ 32768
    · by_cases hm : m < (b % 65536 - a % 65536) % 65536
      · exact toward_up_part a b m w ha ha' hb hb' (by omega) hu hm
      · exact toward_up_all a b m w ha ha' hb hb' (by omega) hu (by omega)
    · by_cases hm : m < 65536 - (b % 65536 - a % 65536) % 65536
      · exact toward_down_part a b m w ha ha' hb hb' (by omega) hu hm
      · exact toward_down_all a b m w ha ha' hb hb' (by omega) hu (by omega)

set_option maxHeartbeats 400000 in
theorem along_any (d : Nat) (x y : Int) (w : World) (hT : Tab w) (hd : d < 256) (hx : ¬ FarT x) (hy : ¬ FarT y) :
    Calls Tryd.prog 44 #[.int .i64 (d : Int), .int .i64 x, .int .i64 y] w (Ret (.int .i64 (wv x y d)) w) := by
  have HV : Hid (wv x y d = x * cs ((d : Int) * 256) + y * sn ((d : Int) * 256)) := by show x * cs (256 * (d : Int)) + y * sn (256 * (d : Int)) = _; rw [Int.mul_comm 256 (d : Int)]
  obtain ⟨⟨c0, c1⟩, s0, s1⟩ := wv_bound (x := x) (y := y) (c := cs ((d : Int) * 256)) (s := sn ((d : Int) * 256)) (by unfold FarT at hx hy; omega) (cs_range _) (sn_range _)
  have d0 : 0 ≤ (d : Int) * 256 := by omega
  have d1 : (d : Int) * 256 < 65536 := by omega
  clear hx hy
  generalize hC : cs ((d : Int) * 256) = C at *
  generalize hS : sn ((d : Int) * 256) = S at *
  have HC := Lib.hid hC
  have HS := Lib.hid hS
  clear hC hS
  go_enter Tryd.func44, Tryd.ntmps44
  go_wp2_with fail
  refine (cos_any _ _ hT (by omega) (by omega)).mono ?_
  rw [HC.out]
  rintro e w1 ⟨rfl, b1⟩
  have HT := Lib.hid (hT.keep b1)
  have HB := Lib.hid b1
  clear b1 hT
  go_wp2_with fail
  refine (sin_any _ _ HT.out (by omega) (by omega)).mono ?_
  rw [HS.out]
  rintro e w2 ⟨rfl, b2⟩
  have HB2 := Lib.hid (HB.out.trans (b2.mono HB.out.size))
  clear b2
  go_wp2
  go_ret
  exact Ret.mk (congrArg (Value.int .i64) HV.out.symm) HB2.out

set_option maxHeartbeats 400000 in
theorem firstWind_any (x y : Int) (w : World) :
    Calls Tryd.prog 45 #[.int .i64 x, .int .i64 y] w (fun e w' => e = .returned (.int .i64 (fw x y : Nat)) ∧ w = w') := by
  unfold fw
  by_cases h1 : 0 ≤ x
  · by_cases h2 : 0 ≤ y
    · rw [if_pos ⟨h1, h2⟩]
      go_enter Tryd.func45, Tryd.ntmps45
      go_wp2
      go_ret
      exact ⟨rfl, rfl⟩
    · have h3 : ¬ x < 0 := by omega
      rw [if_neg (fun h => h2 h.2), if_neg h2, if_neg h3]
      go_enter Tryd.func45, Tryd.ntmps45
      go_wp2
      go_ret
      exact ⟨rfl, rfl⟩
  · have h3 : x < 0 := by omega
    by_cases h2 : 0 ≤ y
    · rw [if_neg (fun h => h1 h.1), if_pos h2]
      go_enter Tryd.func45, Tryd.ntmps45
      go_wp2
      go_ret
      exact ⟨rfl, rfl⟩
    · rw [if_neg (fun h => h1 h.1), if_neg h2, if_pos h3]
      go_enter Tryd.func45, Tryd.ntmps45
      go_wp2
      go_ret
      exact ⟨rfl, rfl⟩

end Go.Proofs.YtckeplbmkjoiaaaDoor
