/- Contracts of the document's answer for layer 3 (bivouacref03), over the translated program, where its table lies as the text lays it. -/
import Derived.Test.YtckeplbmkjoiaaaDoorTrig
import Derived.Test.YtckeplbmkjoiaaaDoorBig1
namespace Go.Proofs.YtckeplbmkjoiaaaDoor
open Go.RowKit
set_option linter.unusedVariables false

/-- The reference's table's cells hold the sines of a quarter. -/
def RTab (w : World) : Prop := ∀ i : Nat, i < 65 → w.cell? ⟨0, i, none⟩ = some (.int .i64 (tb i))
theorem RTab.size {w : World} (h : RTab w) : 0 < w.heap.size := size_of_cell (h 0 (by omega))
theorem RTab.keep {w w' : World} (h : RTab w) (hb : Below w.heap.size w w') : RTab w' := fun i hi => (Below.cell hb h.size).trans (h i hi)
theorem RTab.at {w : World} (h : RTab w) {i : Int} (h0 : 0 ≤ i) (h1 : i ≤ 64) : w.cell? ⟨0, i.toNat, none⟩ = some (.int .i64 (tb i)) := by
  have := h i.toNat (by omega)
  rwa [show ((i.toNat : Nat) : Int) = i by omega] at this

theorem tmod_norm (a : Int) : (a.tmod 65536 < 0 → a % 65536 = a.tmod 65536 + 65536) ∧ (¬ a.tmod 65536 < 0 → a % 65536 = a.tmod 65536) ∧ -65536 < a.tmod 65536 ∧ a.tmod 65536 < 65536 := by
  have h := fmod_of_tmod a 65536 (by omega)
  rw [Int.fmod_eq_emod_of_nonneg a (by omega)] at h
  have h1 := Int.tmod_lt_of_pos a (by omega : (0 : Int) < 65536)
  have h2 := Int.lt_tmod_of_pos a (by omega : (0 : Int) < 65536)
  refine ⟨fun hn => ?_, fun hn => ?_, by omega, h1⟩
  · rw [if_pos ⟨by omega, by simp [hn]⟩] at h; exact h
  · rw [if_neg (by simp [hn])] at h; exact h

set_option maxHeartbeats 400000 in
theorem rnorm_any (a : Int) (w : World) :
    Calls Tryd.prog 17 #[.int .i64 a] w (fun e w' => e = .returned (.int .i64 (a % 65536)) ∧ w = w') := by
  obtain ⟨h1, h2, h3, h4⟩ := tmod_norm a
  by_cases hn : a.tmod 65536 < 0
  · have HN := Lib.hid (h1 hn)
    clear h1 h2
    go_enter Tryd.func17, Tryd.ntmps17
    go_wp2
    go_ret
    exact ⟨by rw [HN.out]; rfl, rfl⟩
  · have HN := Lib.hid (h2 hn)
    clear h1 h2
    go_enter Tryd.func17, Tryd.ntmps17
    go_wp2
    go_ret
    exact ⟨by rw [HN.out]; rfl, rfl⟩

set_option maxHeartbeats 400000 in
theorem first_last (w : World) (hT : RTab w) :
    Calls Tryd.prog 39 #[.int .i64 16384] w (Ret (.int .i64 (quart 16384)) w) := by
  have c := hT 64 (by omega)
  rw [show tb ((64 : Nat) : Int) = 65536 from tb_last] at c
  rw [quart_last]
  clear hT
  go_enter Tryd.func39, Tryd.ntmps39
  go_wp2
  go_ret
  exact Ret.mk rfl (Below.refl _ _)

set_option maxHeartbeats 400000 in
theorem first_line (r : Int) (w : World) (hT : RTab w) (h0 : 0 ≤ r) (h1 : r < 16384) :
    Calls Tryd.prog 39 #[.int .i64 r] w (Ret (.int .i64 (quart r)) w) := by
  have HQ : Hid (quart r = tb (r / 256) + (tb (r / 256 + 1) - tb (r / 256)) * (r % 256) / 256) := rfl
  obtain ⟨⟨s0, s1⟩, ⟨s2, s3⟩, s4, s5⟩ := quart_steps h0 h1
  have c := hT.at (i := r / 256) (by omega) (by omega)
  have c' := hT.at (i := r / 256 + 1) (by omega) (by omega)
  have hz : (r == 16384) = false := by simp; omega
  have i0 : 0 ≤ r / 256 := by omega
  have i1 : r / 256 < 65 := by omega
  have j0 : 0 ≤ r / 256 + 1 := by omega
  have j1 : r / 256 + 1 < 65 := by omega
  clear hT
  generalize quart r = Q at *
  generalize tb (r / 256) = L at *
  generalize tb (r / 256 + 1) = H at *
  go_enter Tryd.func39, Tryd.ntmps39
  go_wp2
  go_quiet (fail)
  go_wp2
  go_ret
  exact Ret.mk (congrArg (Value.int .i64) HQ.out.symm) (below_drewN nq)

theorem first_any (r : Int) (w : World) (hT : RTab w) (h0 : 0 ≤ r) (h1 : r ≤ 16384) :
    Calls Tryd.prog 39 #[.int .i64 r] w (Ret (.int .i64 (quart r)) w) := by
  by_cases hz : r = 16384
  · subst hz; exact first_last w hT
  · exact first_line r w hT h0 (by omega)

set_option maxHeartbeats 400000 in
theorem rsin_q0 (a : Int) (w : World) (hT : RTab w)
    (p0 : 0 ≤ a % 65536) (p1 : a % 65536 < 16384) :
    Calls Tryd.prog 28 #[.int .i64 a] w (Ret (.int .i64 (sn a)) w) := by
  have HS : Hid (sn a = quart (a % 65536)) := sn_q0 rfl (by omega)
  go_enter Tryd.func28, Tryd.ntmps28
  go_wp2_with fail
  refine (rnorm_any _ _).mono ?_
  rintro e w1 ⟨rfl, rfl⟩
  generalize a % 65536 = p at *
  go_wp2_with fail
  refine (first_any (p) _ hT (by omega) (by omega)).mono ?_
  have hR := quart_range (r := p) (by omega) (by omega)
  obtain ⟨r0, r1⟩ := hR
  generalize quart (p) = Q at *
  rintro e w2 ⟨rfl, b2⟩
  have HB2 := Lib.hid b2
  clear b2 hT
  go_wp2
  go_ret
  exact Ret.mk (congrArg (Value.int .i64) HS.out.symm) HB2.out

set_option maxHeartbeats 400000 in
theorem rsin_q1 (a : Int) (w : World) (hT : RTab w)
    (p0 : 16384 ≤ a % 65536) (p1 : a % 65536 < 32768) :
    Calls Tryd.prog 28 #[.int .i64 a] w (Ret (.int .i64 (sn a)) w) := by
  have HS : Hid (sn a = quart (32768 - a % 65536)) := sn_q1 rfl (by omega) (by omega)
  have t0 : ¬ a % 65536 < 16384 := by omega
  go_enter Tryd.func28, Tryd.ntmps28
  go_wp2_with fail
  refine (rnorm_any _ _).mono ?_
  rintro e w1 ⟨rfl, rfl⟩
  generalize a % 65536 = p at *
  go_wp2_with fail
  refine (first_any (32768 - p) _ hT (by omega) (by omega)).mono ?_
  have hR := quart_range (r := 32768 - p) (by omega) (by omega)
  obtain ⟨r0, r1⟩ := hR
  generalize quart (32768 - p) = Q at *
  rintro e w2 ⟨rfl, b2⟩
  have HB2 := Lib.hid b2
  clear b2 hT
  go_wp2
  go_ret
  exact Ret.mk (congrArg (Value.int .i64) HS.out.symm) HB2.out

set_option maxHeartbeats 400000 in
theorem rsin_q2 (a : Int) (w : World) (hT : RTab w)
    (p0 : 32768 ≤ a % 65536) (p1 : a % 65536 < 49152) :
    Calls Tryd.prog 28 #[.int .i64 a] w (Ret (.int .i64 (sn a)) w) := by
  have HS : Hid (sn a = -quart (a % 65536 - 32768)) := sn_q2 rfl (by omega) (by omega)
  have t0 : ¬ a % 65536 < 16384 := by omega
  have t1 : ¬ a % 65536 < 32768 := by omega
  go_enter Tryd.func28, Tryd.ntmps28
  go_wp2_with fail
  refine (rnorm_any _ _).mono ?_
  rintro e w1 ⟨rfl, rfl⟩
  generalize a % 65536 = p at *
  go_wp2_with fail
  refine (first_any (p - 32768) _ hT (by omega) (by omega)).mono ?_
  have hR := quart_range (r := p - 32768) (by omega) (by omega)
  obtain ⟨r0, r1⟩ := hR
  generalize quart (p - 32768) = Q at *
  rintro e w2 ⟨rfl, b2⟩
  have HB2 := Lib.hid b2
  clear b2 hT
  go_wp2
  go_ret
  exact Ret.mk (congrArg (Value.int .i64) HS.out.symm) HB2.out

set_option maxHeartbeats 400000 in
theorem rsin_q3 (a : Int) (w : World) (hT : RTab w)
    (p0 : 49152 ≤ a % 65536) (p1 : a % 65536 < 65536) :
    Calls Tryd.prog 28 #[.int .i64 a] w (Ret (.int .i64 (sn a)) w) := by
  have HS : Hid (sn a = -quart (65536 - a % 65536)) := sn_q3 rfl (by omega)
  have t0 : ¬ a % 65536 < 16384 := by omega
  have t1 : ¬ a % 65536 < 32768 := by omega
  have t2 : ¬ a % 65536 < 49152 := by omega
  go_enter Tryd.func28, Tryd.ntmps28
  go_wp2_with fail
  refine (rnorm_any _ _).mono ?_
  rintro e w1 ⟨rfl, rfl⟩
  generalize a % 65536 = p at *
  go_wp2_with fail
  refine (first_any (65536 - p) _ hT (by omega) (by omega)).mono ?_
  have hR := quart_range (r := 65536 - p) (by omega) (by omega)
  obtain ⟨r0, r1⟩ := hR
  generalize quart (65536 - p) = Q at *
  rintro e w2 ⟨rfl, b2⟩
  have HB2 := Lib.hid b2
  clear b2 hT
  go_wp2
  go_ret
  exact Ret.mk (congrArg (Value.int .i64) HS.out.symm) HB2.out

theorem rsin_any (a : Int) (w : World) (hT : RTab w) :
    Calls Tryd.prog 28 #[.int .i64 a] w (Ret (.int .i64 (sn a)) w) := by
  rcases Int.lt_or_le (a % 65536) 16384 with h1 | h1
  · exact rsin_q0 a w hT (by omega) h1
  · rcases Int.lt_or_le (a % 65536) 32768 with h2 | h2
    · exact rsin_q1 a w hT h1 h2
    · rcases Int.lt_or_le (a % 65536) 49152 with h3 | h3
      · exact rsin_q2 a w hT h2 h3
      · exact rsin_q3 a w hT h3 (by omega)

set_option maxHeartbeats 400000 in
theorem rcos_any (a : Int) (w : World) (hT : RTab w) :
    Calls Tryd.prog 27 #[.int .i64 a] w (Ret (.int .i64 (cs a)) w) := by
  have HC : Hid (cs a = sn (a % 65536 + 16384)) := rfl
  have p0 : 0 ≤ a % 65536 := by omega
  have p1 : a % 65536 < 65536 := by omega
  go_enter Tryd.func27, Tryd.ntmps27
  go_wp2_with fail
  refine (rnorm_any _ _).mono ?_
  rintro e w1 ⟨rfl, rfl⟩
  generalize a % 65536 = p at *
  go_wp2_with fail
  refine (rsin_any _ _ hT).mono ?_
  rintro e w2 ⟨rfl, b2⟩
  have HB2 := Lib.hid b2
  clear b2 hT
  go_wp2
  go_ret
  exact Ret.mk (congrArg (Value.int .i64) HC.out.symm) HB2.out

/-- One wind of the document's search. -/
theorem wv_form (x y : Int) (d : Nat) : wv x y d = x * cs (256 * (d : Int)) + y * sn (256 * (d : Int)) := rfl
/-- The first wind along which one goes farthest comes back. -/
def RetHead (x y : Int) (w : World) (e : Ending) (w' : World) : Prop := ∃ d : Nat, IsHead x y d ∧ e = .returned (.int .i64 (d : Int)) ∧ Below w.heap.size w w'

set_option maxRecDepth 20000 in
set_option maxHeartbeats 1000000 in
theorem rheading_any (x y : Int) (w : World) (hT : RTab w) (hx : ¬ FarT x) (hy : ¬ FarT y) :
    Calls Tryd.prog 22 #[.int .i64 x, .int .i64 y] w (RetHead x y w) := by
  have HBd : Hid (∀ d : Nat, (-70368744177664 ≤ x * cs (256 * (d : Int)) ∧ x * cs (256 * (d : Int)) ≤ 70368744177664) ∧ (-70368744177664 ≤ y * sn (256 * (d : Int)) ∧ y * sn (256 * (d : Int)) ≤ 70368744177664)) :=
    fun d => wv_bound (by unfold FarT at hx hy; omega) (cs_range _) (sn_range _)
  have H0 := Lib.hid (RSeek.start x y)
  have HF : Hid (wv x y 0 = x * cs 0 + y * sn 0) := rfl
  obtain ⟨⟨c0, c1⟩, s0, s1⟩ := HBd.out 0
  rw [show (256 : Int) * ((0 : Nat) : Int) = 0 from rfl] at c0 c1 s0 s1
  clear hx hy
  generalize hC : cs 0 = C at *
  generalize hS : sn 0 = S at *
  have HC := Lib.hid hC
  have HS := Lib.hid hS
  clear hC hS
  go_enter Tryd.func22, Tryd.ntmps22
  go_wp2_with fail
  refine (rcos_any _ _ hT).mono ?_
  rw [HC.out]
  rintro e w1 ⟨rfl, b1⟩
  have HT1 := Lib.hid (hT.keep b1)
  have B1 := Lib.hid b1
  clear b1 hT
  go_wp2_with fail
  refine (rsin_any _ _ HT1.out).mono ?_
  rw [HS.out]
  rintro e w2 ⟨rfl, b2⟩
  have HT2 := Lib.hid (HT1.out.keep b2)
  have B2 := Lib.hid (B1.out.trans (b2.mono B1.out.size))
  clear b2 B1 HT1
  go_wp2
  go_loopw [5, 6, 7] (fun b m d wr => ∃ (k B : Nat) (M : Int), b = .int .i64 (B : Int) ∧ m = .int .i64 M ∧ d = .int .i64 (k : Int) ∧ k ≤ 256 ∧ Hid (RSeek x y k B M) ∧ Hid (RTab wr) ∧ Hid (Below w.heap.size w wr)) (fun _ _ d _ => 256 - (intOf d).toNat)
  case atStart => exact ⟨1, 0, x * C + y * S, rfl, rfl, rfl, by omega, by rw [← HF.out]; exact H0, HT2, B2⟩
  case round =>
    obtain ⟨k, B, M, rfl, rfl, rfl, hk, HR, HT, HB⟩ := hrel
    clear HC HS HF H0 c0 c1 s0 s1
    by_cases hk2 : k < 256
    · obtain ⟨⟨e0, e1⟩, f0, f1⟩ := HBd.out k
      have d0 : 0 ≤ 256 * (k : Int) := by omega
      have d1 : 256 * (k : Int) < 65536 := by omega
      have d2 : (k : Int) < 256 := by omega
      have HF2 : Hid (wv x y k = x * cs (256 * (k : Int)) + y * sn (256 * (k : Int))) := rfl
      by_cases hv : M < wv x y k
      · have HR' := Lib.hid (HR.out.yes hv)
        rw [HF2.out] at hv HR'
        generalize hC2 : cs (256 * (k : Int)) = C2 at *
        generalize hS2 : sn (256 * (k : Int)) = S2 at *
        have HC2 := Lib.hid hC2
        have HS2 := Lib.hid hS2
        have HV := Lib.hid hv
        clear hC2 hS2 hv
        go_wp2_with fail
        refine (rcos_any _ _ HT.out).mono ?_
        rw [HC2.out]
        rintro e w3 ⟨rfl, b3⟩
        have HT3 := Lib.hid (HT.out.keep b3)
        have B3 := Lib.hid (HB.out.trans (b3.mono HB.out.size))
        clear b3
        go_wp2_with fail
        refine (rsin_any _ _ HT3.out).mono ?_
        rw [HS2.out]
        rintro e w4 ⟨rfl, b4⟩
        have HT4 := Lib.hid (HT3.out.keep b4)
        have B4 := Lib.hid (B3.out.trans (b4.mono B3.out.size))
        clear b4
        have hv := HV.out
        go_wp2
        go_roundw
        case rel => exact ⟨k + 1, k, x * C2 + y * S2, rfl, rfl, by go_num, by omega, HR', HT4, B4⟩
        case measure => simp [intOf]; omega
      · have HR' := Lib.hid (HR.out.no hv)
        rw [HF2.out] at hv
        generalize hC2 : cs (256 * (k : Int)) = C2 at *
        generalize hS2 : sn (256 * (k : Int)) = S2 at *
        have HC2 := Lib.hid hC2
        have HS2 := Lib.hid hS2
        have HV := Lib.hid hv
        clear hC2 hS2 hv
        go_wp2_with fail
        refine (rcos_any _ _ HT.out).mono ?_
        rw [HC2.out]
        rintro e w3 ⟨rfl, b3⟩
        have HT3 := Lib.hid (HT.out.keep b3)
        have B3 := Lib.hid (HB.out.trans (b3.mono HB.out.size))
        clear b3
        go_wp2_with fail
        refine (rsin_any _ _ HT3.out).mono ?_
        rw [HS2.out]
        rintro e w4 ⟨rfl, b4⟩
        have HT4 := Lib.hid (HT3.out.keep b4)
        have B4 := Lib.hid (B3.out.trans (b4.mono B3.out.size))
        clear b4
        have hv : decide (M < x * C2 + y * S2) = false := decide_eq_false (Int.not_lt.2 HV.out)
        clear HV
        go_wp2
        go_roundw
        case rel => exact ⟨k + 1, B, M, rfl, rfl, by go_num, by omega, HR', HT4, B4⟩
        case measure => simp [intOf]; omega
    · have hk3 : k = 256 := by omega
      subst hk3
      have HH := Lib.hid HR.out.head
      clear HR hk hk2
      go_wp2
      go_ret
      exact ⟨B, HH.out, rfl, HB.out⟩

set_option maxHeartbeats 1000000 in
theorem rtoward_down (a b m : Int) (w : World) (hw : 32768 < (b % 65536 - a % 65536) % 65536) :
    Calls Tryd.prog 23 #[.int .i64 a, .int .i64 b, .int .i64 m] w (Ret (.int .i64 (tw a b m)) w) := by
  have a0 : 0 ≤ a % 65536 := by omega
  have a1 : a % 65536 < 65536 := by omega
  have b0 : 0 ≤ b % 65536 := by omega
  have b1 : b % 65536 < 65536 := by omega
  have HW : Hid (way a b = -1) := if_pos hw
  have H0 := Lib.hid (Part.start a b)
  have HT : Hid (m < 0 → tw a b m = a % 65536) := fun h => if_pos h
  obtain ⟨G, hG⟩ : ∃ G : Nat, Hid (∀ k C, Part a b k C → k < G) := ⟨(gap a b).toNat + 1, fun k C h => by have := h.within; omega⟩
  have HM : Hid (∀ k C, Part a b k C → C ≠ b % 65536 → Part a b (k + 1) ((C + way a b) % 65536)) := fun k C h => h.more
  have HE : Hid (∀ k C, Part a b k C → C = b % 65536 → (k : Int) ≤ m → C = tw a b m) := fun k C h => h.there
  generalize hA : a % 65536 = A at *
  generalize hB : b % 65536 = B at *
  have HA := Lib.hid hA
  have HB := Lib.hid hB
  clear hA hB
  go_enter Tryd.func23, Tryd.ntmps23
  go_wp2_with fail
  refine (rnorm_any _ _).mono ?_
  rw [HA.out]
  rintro e w1 ⟨rfl, rfl⟩
  go_wp2_with fail
  refine (rnorm_any _ _).mono ?_
  rw [HB.out]
  rintro e w1 ⟨rfl, rfl⟩
  go_wp2_with fail
  refine (rnorm_any (B - A) _).mono ?_
  rintro e w1 ⟨rfl, rfl⟩
  go_wp2
  go_loop [7, 10] (fun c i => ∃ (k : Nat) (C : Int), c = .int .i64 C ∧ i = .int .i64 (k : Int) ∧ Hid (Part a b k C) ∧ (k = 0 ∨ (k : Int) ≤ m)) (fun _ i => G - (intOf i).toNat)
  case atStart => exact ⟨0, A, rfl, rfl, H0, Or.inl rfl⟩
  case round =>
    obtain ⟨k, C, rfl, rfl, HP, hk⟩ := hrel
    obtain ⟨p0, p1⟩ := HP.out.range
    have hkG := hG.out k C HP.out
    have hk4 : (k : Int) ≤ 32768 := by have := HP.out.within; have := (gap_range a b).2; omega
    by_cases hm : (k : Int) < m
    · by_cases hc : C = B
      · have HC := Lib.hid (HE.out k C HP.out hc (by omega))
        have hc' : (C != B) = false := by simp [hc]
        clear hc hk
        go_wp2
        go_ret
        exact Ret.mk (congrArg (Value.int .i64) HC.out) (Below.refl _ _)
      · have HP' : Hid (Part a b (k + 1) ((C + -1) % 65536)) := by
          have := HM.out k C HP.out hc
          rw [HW.out] at this
          exact this
        have hc' : (C != B) = true := by simp [hc]
        have hkG' := hG.out _ _ HP'.out
        clear hc hk
        go_wp2_with fail
        refine (rnorm_any (C + -1) _).mono ?_
        rintro e w1 ⟨rfl, rfl⟩
        go_wp2
        go_round
        case rel => exact ⟨k + 1, _, rfl, by go_num, HP', Or.inr (by omega)⟩
        case measure => simp [intOf]; omega
    · have HC : Hid (C = tw a b m) := by
        by_cases hn : m < 0
        · have hk0 : k = 0 := by omega
          have h := HP.out.here
          have hA := HA.out
          rw [HT.out hn]
          rw [hk0, show ((0 : Nat) : Int) = 0 from rfl, Int.mul_zero, Int.add_zero, Int.emod_emod_of_dvd a (Int.dvd_refl 65536)] at h
          exact h.trans hA
        · exact HP.out.most (by omega)
      clear hk
      go_wp2
      go_ret
      exact Ret.mk (congrArg (Value.int .i64) HC.out) (Below.refl _ _)

set_option maxHeartbeats 1000000 in
theorem rtoward_up (a b m : Int) (w : World) (hw : ¬ 32768 < (b % 65536 - a % 65536) % 65536) :
    Calls Tryd.prog 23 #[.int .i64 a, .int .i64 b, .int .i64 m] w (Ret (.int .i64 (tw a b m)) w) := by
  have a0 : 0 ≤ a % 65536 := by omega
  have a1 : a % 65536 < 65536 := by omega
  have b0 : 0 ≤ b % 65536 := by omega
  have b1 : b % 65536 < 65536 := by omega
  have HW : Hid (way a b = 1) := if_neg hw
  have H0 := Lib.hid (Part.start a b)
  have HT : Hid (m < 0 → tw a b m = a % 65536) := fun h => if_pos h
  obtain ⟨G, hG⟩ : ∃ G : Nat, Hid (∀ k C, Part a b k C → k < G) := ⟨(gap a b).toNat + 1, fun k C h => by have := h.within; omega⟩
  have HM : Hid (∀ k C, Part a b k C → C ≠ b % 65536 → Part a b (k + 1) ((C + way a b) % 65536)) := fun k C h => h.more
  have HE : Hid (∀ k C, Part a b k C → C = b % 65536 → (k : Int) ≤ m → C = tw a b m) := fun k C h => h.there
  generalize hA : a % 65536 = A at *
  generalize hB : b % 65536 = B at *
  have HA := Lib.hid hA
  have HB := Lib.hid hB
  clear hA hB
  go_enter Tryd.func23, Tryd.ntmps23
  go_wp2_with fail
  refine (rnorm_any _ _).mono ?_
  rw [HA.out]
  rintro e w1 ⟨rfl, rfl⟩
  go_wp2_with fail
  refine (rnorm_any _ _).mono ?_
  rw [HB.out]
  rintro e w1 ⟨rfl, rfl⟩
  go_wp2_with fail
  refine (rnorm_any (B - A) _).mono ?_
  rintro e w1 ⟨rfl, rfl⟩
  go_wp2
  go_loop [7, 10] (fun c i => ∃ (k : Nat) (C : Int), c = .int .i64 C ∧ i = .int .i64 (k : Int) ∧ Hid (Part a b k C) ∧ (k = 0 ∨ (k : Int) ≤ m)) (fun _ i => G - (intOf i).toNat)
  case atStart => exact ⟨0, A, rfl, rfl, H0, Or.inl rfl⟩
  case round =>
    obtain ⟨k, C, rfl, rfl, HP, hk⟩ := hrel
    obtain ⟨p0, p1⟩ := HP.out.range
    have hkG := hG.out k C HP.out
    have hk4 : (k : Int) ≤ 32768 := by have := HP.out.within; have := (gap_range a b).2; omega
    by_cases hm : (k : Int) < m
    · by_cases hc : C = B
      · have HC := Lib.hid (HE.out k C HP.out hc (by omega))
        have hc' : (C != B) = false := by simp [hc]
        clear hc hk
        go_wp2
        go_ret
        exact Ret.mk (congrArg (Value.int .i64) HC.out) (Below.refl _ _)
      · have HP' : Hid (Part a b (k + 1) ((C + 1) % 65536)) := by
          have := HM.out k C HP.out hc
          rw [HW.out] at this
          exact this
        have hc' : (C != B) = true := by simp [hc]
        have hkG' := hG.out _ _ HP'.out
        clear hc hk
        go_wp2_with fail
        refine (rnorm_any (C + 1) _).mono ?_
        rintro e w1 ⟨rfl, rfl⟩
        go_wp2
        go_round
        case rel => exact ⟨k + 1, _, rfl, by go_num, HP', Or.inr (by omega)⟩
        case measure => simp [intOf]; omega
    · have HC : Hid (C = tw a b m) := by
        by_cases hn : m < 0
        · have hk0 : k = 0 := by omega
          have h := HP.out.here
          have hA := HA.out
          rw [HT.out hn]
          rw [hk0, show ((0 : Nat) : Int) = 0 from rfl, Int.mul_zero, Int.add_zero, Int.emod_emod_of_dvd a (Int.dvd_refl 65536)] at h
          exact h.trans hA
        · exact HP.out.most (by omega)
      clear hk
      go_wp2
      go_ret
      exact Ret.mk (congrArg (Value.int .i64) HC.out) (Below.refl _ _)

theorem rtoward_any (a b m : Int) (w : World) :
    Calls Tryd.prog 23 #[.int .i64 a, .int .i64 b, .int .i64 m] w (Ret (.int .i64 (tw a b m)) w) := by
  by_cases hw : 32768 < (b % 65536 - a % 65536) % 65536
  · exact rtoward_down a b m w hw
  · exact rtoward_up a b m w hw

end Go.Proofs.YtckeplbmkjoiaaaDoor
