/- The reference's Sees and Seen. -/
import Derived.Test.YtljedkceicahaaaRy10
import Derived.Test.YtljedkceicahaaaRy2
namespace Go.Proofs.Ytljedkceicahaaa
open Go.RowKit Go.Shelf
set_option linter.unusedVariables false

/-- The reference's question at place q. -/
def rb (p : Nat → Nat) (W a b c d A B : Int) (q : Nat) : Bool :=
  decide (A * ((lng a b c d : Int) - q) + B * q < cHi p W (cq a c (lng a b c d) q) (cq b d (lng a b c d) q) * (lng a b c d : Int))
theorem blk_mid (p : Nat → Nat) (W a b c d A B : Int) (q : Nat) (h0 : 0 < q) (h1 : q < lng a b c d) :
    blk p W a b c d A B (cq a c (lng a b c d) q) (cq b d (lng a b c d) q) q = rb p W a b c d A B q := by
  have e1 : ¬ (cq a c (lng a b c d) q = a ∧ cq b d (lng a b c d) q = b) := fun e => by have := (cell_first (by omega)).1 e; omega
  have e2 : ¬ (cq a c (lng a b c d) q = c ∧ cq b d (lng a b c d) q = d) := fun e => by have := (cell_last (by omega)).1 e; omega
  have f1 : (cq a c (lng a b c d) q == a && cq b d (lng a b c d) q == b) = false := by
    rw [Bool.eq_false_iff]; intro h; simp only [Bool.and_eq_true, beq_iff_eq] at h; exact e1 h
  have f2 : (cq a c (lng a b c d) q == c && cq b d (lng a b c d) q == d) = false := by
    rw [Bool.eq_false_iff]; intro h; simp only [Bool.and_eq_true, beq_iff_eq] at h; exact e2 h
  unfold blk rb
  rw [f1, f2]
  rfl
theorem blk_ends (p : Nat → Nat) (W a b c d A B : Int) (q : Nat) (h : q = 0 ∨ q = lng a b c d) :
    blk p W a b c d A B (cq a c (lng a b c d) q) (cq b d (lng a b c d) q) q = false := by
  unfold blk
  rcases h with h | h
  · have e := (cell_first (a := a) (b := b) (c := c) (d := d) (q := q) (by omega)).2 h
    have f1 : (cq a c (lng a b c d) q == a && cq b d (lng a b c d) q == b) = true := by simp only [Bool.and_eq_true, beq_iff_eq]; exact e
    rw [f1]; rfl
  · have e := (cell_last (a := a) (b := b) (c := c) (d := d) (q := q) (by omega)).2 h
    have f1 : (cq a c (lng a b c d) q == c && cq b d (lng a b c d) q == d) = true := by simp only [Bool.and_eq_true, beq_iff_eq]; exact e
    rw [f1]; simp
theorem sees_yes {p : Nat → Nat} {W a b c d A B : Int} (h : ∀ q, 1 ≤ q → q < lng a b c d → rb p W a b c d A B q = false) : seesB p W a b c d A B = true := by
  unfold seesB
  refine decide_eq_true fun q hq => ?_
  by_cases h0 : q = 0 ∨ q = lng a b c d
  · exact blk_ends p W a b c d A B q h0
  · rw [blk_mid p W a b c d A B q (by omega) (by omega)]
    exact h q (by omega) (by omega)
theorem sees_no {p : Nat → Nat} {W a b c d A B : Int} {q : Nat} (h0 : 1 ≤ q) (h1 : q < lng a b c d) (h : rb p W a b c d A B q = true) : seesB p W a b c d A B = false := by
  unfold seesB
  refine decide_eq_false fun g => ?_
  have := g q (by omega)
  rw [blk_mid p W a b c d A B q (by omega) h1, h] at this
  cases this

set_option maxHeartbeats 2000000 in
theorem rsees_any (W H T a b c d high low : Int) (D : Option Addr) (n cp : Nat) (p : Nat → Nat) (w : World) (hb : Bs w D n p) (hp : ∀ i, p i < 256) (hv : Val W H T n) (hf : InC W H a b) (ht : InC W H c d) (hh : Hs high low) :
    Calls Try.prog 21 #[.agg #[.int .i64 W, .int .i64 H, .int .i64 T, .slice D n cp], .int .i64 a, .int .i64 b, .int .i64 c, .int .i64 d, .int .i64 high, .int .i64 low] w
      (Ret (.bool (seesB p W a b c d (cLo p W a b + high) (cLo p W c d + low))) w) := by
  obtain ⟨hW1, hW2, hH1, hH2, -, -⟩ := hv.s
  obtain ⟨a0, a1, b0, b1⟩ := hf
  obtain ⟨c0, c1, d0, d1⟩ := ht
  obtain ⟨h0, h1, l0, l1⟩ := hh
  obtain ⟨f0, f1⟩ := cLo_bd hp W a b
  obtain ⟨f2, f3⟩ := cLo_bd hp W c d
  have hL63 : lng a b c d ≤ 63 := lng_bd a0 (by omega) b0 (by omega) c0 (by omega) d0 (by omega)
  have CL := Lib.hid (fun u => long_any a b c d u a0 (by omega) b0 (by omega) c0 (by omega) d0 (by omega))
  have CC := Lib.hid (fun q u hq => rcell_any a b c d q u a0 (by omega) b0 (by omega) c0 (by omega) d0 (by omega) hq)
  have E1 := Lib.hid (fun u hb => refEnds_any W H T a b D n cp p u hb hp hv a0 a1 b0 b1)
  have E2 := Lib.hid (fun u hb => refEnds_any W H T c d D n cp p u hb hp hv c0 c1 d0 d1)
  have E3 : Hid (∀ q u, q ≤ lng a b c d → Bs u D n p → Calls Try.prog 19 #[.agg #[.int .i64 W, .int .i64 H, .int .i64 T, .slice D n cp], .int .i64 (cq a c (lng a b c d) q), .int .i64 (cq b d (lng a b c d) q)] u (Ret (.tuple #[.int .i64 (cLo p W (cq a c (lng a b c d) q) (cq b d (lng a b c d) q)), .int .i64 (cHi p W (cq a c (lng a b c d) q) (cq b d (lng a b c d) q))]) u)) := by
    intro q u hq hu
    obtain ⟨hx1, hx2⟩ := q_within (lng_len a b c d).1 (q := q) hq 0 (W - 1) a0 (by omega) c0 (by omega)
    obtain ⟨hy1, hy2⟩ := q_within (lng_len a b c d).2 (q := q) hq 0 (H - 1) b0 (by omega) d0 (by omega)
    exact refEnds_any W H T _ _ D n cp p u hu hp hv hx1 (by omega) hy1 (by omega)
  have HH := Lib.hid (fun q => cHi_bd hp W (cq a c (lng a b c d) q) (cq b d (lng a b c d) q))
  have RB : Hid (∀ q, rb p W a b c d (cLo p W a b + high) (cLo p W c d + low) q = decide ((cLo p W a b + high) * ((lng a b c d : Int) - q) + (cLo p W c d + low) * q < cHi p W (cq a c (lng a b c d) q) (cq b d (lng a b c d) q) * (lng a b c d : Int))) := fun q => rfl
  have SY := Lib.hid (sees_yes (p := p) (W := W) (a := a) (b := b) (c := c) (d := d) (A := cLo p W a b + high) (B := cLo p W c d + low))
  have SN := Lib.hid (fun q => sees_no (p := p) (W := W) (a := a) (b := b) (c := c) (d := d) (A := cLo p W a b + high) (B := cLo p W c d + low) (q := q))
  have HB := Lib.hid hb
  have HX := Lib.hid (Bx.new w (.int .i64 W) (.int .i64 H) (.int .i64 T) (.slice D n cp) 24)
  generalize seesB p W a b c d (cLo p W a b + high) (cLo p W c d + low) = sb at *
  generalize rb p W a b c d (cLo p W a b + high) (cLo p W c d + low) = rbq at *
  generalize cHi p W = cH at *
  generalize cLo p W = cL at *
  generalize lng a b c d = N at *
  obtain ⟨L1, eL1⟩ : ∃ L1, cL a b = L1 := ⟨_, rfl⟩
  obtain ⟨L2, eL2⟩ : ∃ L2, cL c d = L2 := ⟨_, rfl⟩
  obtain ⟨M1, eM1⟩ : ∃ M1, cH a b = M1 := ⟨_, rfl⟩
  obtain ⟨M2, eM2⟩ : ∃ M2, cH c d = M2 := ⟨_, rfl⟩
  simp only [eL1, eL2, eM1, eM2] at *
  clear hb hp hv eL1 eL2 eM1 eM2
  go_enter Try.func21, Try.ntmps21
  go_wp2_with fail
  refine (CL.out _).mono ?_
  rintro e w1 ⟨rfl, rfl⟩
  go_wp2_with fail
  refine (E1.out _ (HB.out.keep HX.out.below)).mono ?_
  rintro e w1 ⟨rfl, b1⟩
  have X1 := Lib.hid (HX.out.keep b1)
  clear b1 HX E1
  obtain ⟨-, m0, m1, m2, m3, -, -, -, -, -⟩ := X1.out
  go_wp2_with fail
  refine (E2.out _ (HB.out.keep X1.out.below)).mono ?_
  rintro e w2 ⟨rfl, b2⟩
  have X2 := Lib.hid (X1.out.keep b2)
  clear b2 X1 E2 m0 m1 m2 m3
  go_wp2_with fail
  go_loopw [20] (fun t wr => ∃ q : Nat, 1 ≤ q ∧ (q ≤ N ∨ q = 1) ∧ t = .int .i64 (q : Int) ∧ (∀ i, 1 ≤ i → i < q → rbq i = false) ∧ Bx w w.heap.size wr (.int .i64 W) (.int .i64 H) (.int .i64 T) (.slice D n cp)) (fun t _ => N - (intOf t).toNat)
  case atStart => exact ⟨1, by omega, by omega, rfl, fun i hi hj => by omega, X2.out⟩
  case round =>
    obtain ⟨q, hq1, hq2, rfl, hI, hX⟩ := hrel
    clear X2
    rename World => W1
    have II := Lib.hid hI
    have X2 := Lib.hid hX
    clear hI hX
    by_cases hlt : q < N
    · have hlt' : (q : Int) < (N : Int) := by omega
      go_wp2_with fail
      refine (CC.out q _ (by omega)).mono ?_
      rintro e w3 ⟨rfl, rfl⟩
      obtain ⟨-, m0, m1, m2, m3, -, -, -, -, -⟩ := X2.out
      go_wp2_with fail
      refine (E3.out q _ (by omega) (HB.out.keep X2.out.below)).mono ?_
      rintro e w4 ⟨rfl, b4⟩
      have X4 := Lib.hid (X2.out.keep b4)
      clear b4 X2 m0 m1 m2 m3
      obtain ⟨k0, k1⟩ := HH.out q
      have RQ := Lib.hid (RB.out q)
      generalize cH (cq a c N q) (cq b d N q) = M at *
      generalize cL (cq a c N q) (cq b d N q) = M' at *
      obtain ⟨e4, e5⟩ : 0 ≤ (L1 + high) * ((N : Int) - q) ∧ (L1 + high) * ((N : Int) - q) ≤ 510 * 63 := prod_bd (by omega) (by omega) (by omega) (by omega)
      obtain ⟨e6, e7⟩ : 0 ≤ (L2 + low) * (q : Int) ∧ (L2 + low) * (q : Int) ≤ 510 * 63 := prod_bd (by omega) (by omega) (by omega) (by omega)
      obtain ⟨e8, e9⟩ : 0 ≤ M * (N : Int) ∧ M * (N : Int) ≤ 255 * 63 := prod_bd k0 k1 (by omega) (by omega)
      by_cases hc : (L1 + high) * ((N : Int) - q) + (L2 + low) * q < M * (N : Int)
      · have E : Hid (sb = false) := SN.out q hq1 hlt (by rw [RQ.out]; exact decide_eq_true hc)
        clear RQ SN SY RB
        go_wp2
        go_ret
        exact Ret.mk (congrArg Value.bool E.out.symm) X4.out.below
      · have E : Hid (∀ i, 1 ≤ i → i < q + 1 → rbq i = false) := by
          intro i h1 h2
          rcases Nat.lt_or_ge i q with h3 | h3
          · exact II.out i h1 h3
          · obtain rfl : i = q := by omega
            rw [RQ.out]; exact decide_eq_false hc
        clear RQ SN RB
        go_wp2
        go_roundw
        case rel => exact ⟨q + 1, by omega, by omega, by go_num, E.out, X4.out⟩
        case measure => simp [intOf]; omega
    · have hge : ¬ (q : Int) < (N : Int) := by omega
      have E : Hid (sb = true) := SY.out (fun i h1 h2 => II.out i h1 (by omega))
      go_wp2
      go_ret
      exact Ret.mk (congrArg Value.bool E.out.symm) X2.out.below

set_option maxHeartbeats 1000000 in
theorem rseen_any (W H T a b high r c d : Int) (D : Option Addr) (n cp : Nat) (p : Nat → Nat) (w : World) (hb : Bs w D n p) (hp : ∀ i, p i < 256) (hv : Val W H T n) (hf : InC W H a b) (ht : InC W H c d) (hh : Hr high r) :
    Calls Try.prog 23 #[.agg #[.int .i64 W, .int .i64 H, .int .i64 T, .slice D n cp], .int .i64 a, .int .i64 b, .int .i64 high, .int .i64 r, .int .i64 c, .int .i64 d] w
      (Ret (.bool (snAt p W a b high r c d)) w) := by
  obtain ⟨hW1, hW2, hH1, hH2, -, -⟩ := hv.s
  obtain ⟨h0, h1, r0, r1⟩ := hh
  have C := Lib.hid (fun u hb => rsees_any W H T a b c d high 0 D n cp p u hb hp hv hf ht ⟨h0, h1, by omega, by omega⟩)
  obtain ⟨a0, a1, b0, b1⟩ := hf
  obtain ⟨c0, c1, d0, d1⟩ := ht
  have HE : Hid (snAt p W a b high r c d = (nrAt a b r c d && seesB p W a b c d (cLo p W a b + high) (cLo p W c d + 0))) := rfl
  have HN : Hid (nrAt a b r c d = decide ((c - a) * (c - a) + (d - b) * (d - b) ≤ r * r)) := rfl
  have HB := Lib.hid hb
  have HX := Lib.hid (Bx.new w (.int .i64 W) (.int .i64 H) (.int .i64 T) (.slice D n cp) 24)
  generalize snAt p W a b high r c d = sv at *
  generalize seesB p W a b c d (cLo p W a b + high) (cLo p W c d + 0) = sb at *
  generalize nrAt a b r c d = nb at *
  have p1 : 0 ≤ (c - a) * (c - a) ∧ (c - a) * (c - a) ≤ 63 * 63 := by
    rcases Int.le_total a c with h | h
    · exact prod_bd (by omega) (by omega) (by omega) (by omega)
    · have e : (c - a) * (c - a) = (a - c) * (a - c) := by rw [← Int.neg_sub a c, Int.neg_mul_neg]
      rw [e]; exact prod_bd (by omega) (by omega) (by omega) (by omega)
  have p2 : 0 ≤ (d - b) * (d - b) ∧ (d - b) * (d - b) ≤ 63 * 63 := by
    rcases Int.le_total b d with h | h
    · exact prod_bd (by omega) (by omega) (by omega) (by omega)
    · have e : (d - b) * (d - b) = (b - d) * (b - d) := by rw [← Int.neg_sub b d, Int.neg_mul_neg]
      rw [e]; exact prod_bd (by omega) (by omega) (by omega) (by omega)
  have p3 : 0 ≤ r * r ∧ r * r ≤ 64 * 64 := prod_bd (by omega) (by omega) (by omega) (by omega)
  obtain ⟨p4, p5⟩ := p1
  obtain ⟨p6, p7⟩ := p2
  obtain ⟨p8, p9⟩ := p3
  clear hb hp hv
  by_cases hc : (c - a) * (c - a) + (d - b) * (d - b) ≤ r * r
  · have E : Hid (sb = sv) := by show _ = _; rw [HE.out, HN.out, decide_eq_true hc, Bool.true_and]
    clear HE HN
    go_enter Try.func23, Try.ntmps23
    go_wp2_with fail
    refine (C.out _ (HB.out.keep HX.out.below)).mono ?_
    rintro e w1 ⟨rfl, b1⟩
    have X1 := Lib.hid (HX.out.keep b1)
    clear b1
    go_wp2
    go_ret
    exact Ret.mk (congrArg Value.bool E.out) X1.out.below
  · have E : Hid (false = sv) := by show _ = _; rw [HE.out, HN.out, decide_eq_false hc, Bool.false_and]
    clear HE HN
    go_enter Try.func23, Try.ntmps23
    go_wp2
    go_ret
    exact Ret.mk (congrArg Value.bool E.out) HX.out.below

end Go.Proofs.Ytljedkceicahaaa
