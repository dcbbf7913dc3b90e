/- The walk of the law GroundJoins. -/
import Derived.Test.YtoikahdffpadoaaLGrStart
namespace Go.Proofs.Ytoikahdffpadoaa
open Go.RowKit
set_option linter.unusedVariables false

set_option maxRecDepth 100000 in
set_option maxHeartbeats 8000000 in
theorem walk_GroundJoins (W H T : Int) (A : Option Addr) (n c : Nat) (p : Nat → Nat) (cl : Int) (w : World) (hb : Bs w A n p) (hp : ∀ i, p i < 256) (hn : n ≤ c) (hc : c ≤ maxLen)
    (wx : (Lit.int .i64 cl).wf = true) :
    Calls Try.prog 7 #[.agg #[.int .i64 W, .int .i64 H, .int .i64 T, .slice A n c], .int .i64 cl] w (Ret (.bool true) w) := by
  have HF := Lib.hid (few7_any W H T A n c p _ (hb.alloc (.cells #[.int .i64 W, .int .i64 H, .int .i64 T, .slice A n c] 25)) hn hc)
  have HS := Lib.hid (fun w1 => Start.first (w := w) (w1 := w1) (W := W) (H := H) (T := T) (c := c) hb)
  have hN := (fewN_le n).2
  have hM : fewN n ≤ maxLen := by unfold maxLen; omega
  have HX := Lib.hid (Bx.new w (.int .i64 W) (.int .i64 H) (.int .i64 T) (.slice A n c) 25)
  clear hb wx
  generalize fewN n = N at *
  by_cases hv : Val W H T N ∧ Cls cl
  · obtain ⟨hv, hk⟩ := hv
    obtain ⟨wd, ht, rfl, rfl⟩ := hv.nat
    obtain ⟨hW1, hW2, hH1, hH2, hT, hT2⟩ := hv.s
    have hA : wd * ht ≤ 4096 := land_bd (by omega) (by omega)
    have C1 := Lib.hid (fun u hb => regions_in wd ht T cl A N c p u hM hb hp hv hk)
    have C2 := Lib.hid (fun u hb => grid_in wd ht T cl A N c p u hM hb hp hv hk)
    obtain ⟨M, eM⟩ : ∃ M, wd * ht = M := ⟨_, rfl⟩
    rw [eM] at C1 C2 hA
    have eM2 : (wd : Int) * (ht : Int) = (M : Int) := by rw [← eM]; exact (Int.natCast_mul _ _).symm
    have hz : ((wd : Int) == 0) = false := by simp; omega
    have hz2 : ¬ (wd : Int) = 0 := by omega
    have hz3 : ¬ (wd : Int) < 1 := by omega
    clear hv hk hp eM
    generalize gr p wd T cl = g at *
    go_enter Try.func7, Try.ntmps7
    go_wp2_with fail
    refine HF.out.mono ?_
    rintro e w1 ⟨rfl, b1⟩
    have X1 := Lib.hid (HX.out.keep b1)
    have S0 := HS.out _ b1
    clear b1 HX HF HS
    obtain ⟨-, c0, c1, c2, c3, f0, f1, f2, f3, -⟩ := X1.out
    have S1 := Lib.hid S0
    obtain ⟨⟨-, c0, c1, c2, c3, -, -, -, -, -⟩, -⟩ := S0
    go_wp2_with fail
    refine (C1.out _ S1.out.bs).mono ?_
    rintro e w2 ⟨rg, L, rfl, hI, hLa, b2⟩
    have S2 := Lib.hid (S1.out.keep b2)
    have RI1 := Lib.hid hI
    have HLa := Lib.hid hLa
    clear b2 S1 X1 c0 c1 c2 c3 hI hLa f0 f1 f2 f3
    obtain ⟨⟨-, c0, c1, c2, c3, -, -, -, -, -⟩, -⟩ := S2.out
    go_wp2_with fail
    refine (C2.out _ S2.out.bs).mono ?_
    rintro e w4 ⟨A1, K1, rfl, k1, k2, hV1, b2⟩
    have S4 := Lib.hid (S2.out.keep b2)
    have RI := Lib.hid (RI1.out.keep b2)
    have V1 := Lib.hid hV1
    clear b2 S2 RI1 c0 c1 c2 c3 hV1 C1 C2
    obtain ⟨gb, rfl, lg, gg⟩ := V1.out
    have GG := Lib.hid gg
    clear gg V1
    obtain ⟨⟨-, c0, c1, c2, c3, -, -, -, -, -⟩, -⟩ := S4.out
    go_wp2
    clear c0 c1 c2 c3
    go_loopw [9] (fun t wr => ∃ k : Nat, k ≤ M ∧ t = .int .i64 (k : Int) ∧ Below w4.heap.size w4 wr) (fun t _ => M - (intOf t).toNat)
    case atStart => exact ⟨0, by omega, rfl, Below.refl _ _⟩
    case round =>
      obtain ⟨k, hk, rfl, hB⟩ := hrel
      have HB := Lib.hid hB
      clear hB
      by_cases hlt : k < M
      · have HBd := HB
        have q3 : k % wd ≤ k := Nat.mod_le k wd
        have hk9 : k ≤ 4096 := by omega
        have hw9 : wd ≤ 64 := by omega
        have hw8 : 1 ≤ wd := by omega
        have c0 := (S4.out.keep HB.out).bx.c0
        have HI2 := Lib.hid (RI.out.keep HB.out)
        have g0 := (HB.out.cell (p := ⟨gb, k, none⟩) lg).trans (GG.out k hlt)
        have r0 := HI2.out.cell hlt
        have hkI : (k : Int) < (M : Int) := by omega
        cases hgk : g k with
        | false =>
          have HGk := Lib.hid hgk
          have hL := HLa.out.shut k hlt hgk
          rw [hgk] at g0
          rw [hL] at r0
          clear hgk hL
          have n0 : decide ((0 : Int) ≤ -1) = false := by decide
          have n1 : decide ((k : Int) < -1) = false := by simp
          have n2 : (false != false) = false := rfl
          go_wp2
          go_quiet (fail)
          go_wp2
          by_cases hm : 0 < (k : Int) % (wd : Int)
          · by_cases hw : (wd : Int) ≤ (k : Int)
            · simp only [List.cons_append, List.nil_append, List.append_eq]
              go_quiet (fail)
              go_wp2
              go_roundw
              case rel => exact ⟨k + 1, by omega, by go_num, bdrewN HB.out _⟩
              case measure => simp [intOf]; omega
            · have w0 : decide ((wd : Int) ≤ (k : Int)) = false := by simpa using hw
              have w1 : decide (wd ≤ k) = false := by simp; omega
              clear hw
              simp only [List.cons_append, List.nil_append, List.append_eq]
              go_quiet (fail)
              go_wp2
              go_roundw
              case rel => exact ⟨k + 1, by omega, by go_num, bdrewN HB.out _⟩
              case measure => simp [intOf]; omega
          · have m0 : decide (0 < (k : Int) % (wd : Int)) = false := by simpa using hm
            clear hm
            by_cases hw : (wd : Int) ≤ (k : Int)
            · simp only [List.cons_append, List.nil_append, List.append_eq]
              go_quiet (fail)
              go_wp2
              go_roundw
              case rel => exact ⟨k + 1, by omega, by go_num, bdrewN HB.out _⟩
              case measure => simp [intOf]; omega
            · have w0 : decide ((wd : Int) ≤ (k : Int)) = false := by simpa using hw
              have w1 : decide (wd ≤ k) = false := by simp; omega
              clear hw
              simp only [List.cons_append, List.nil_append, List.append_eq]
              go_quiet (fail)
              go_wp2
              go_roundw
              case rel => exact ⟨k + 1, by omega, by go_num, bdrewN HB.out _⟩
              case measure => simp [intOf]; omega
        | true =>
          have HGk := Lib.hid hgk
          obtain ⟨v0, v1, -⟩ := HLa.out.free k hlt hgk
          obtain ⟨q0, -⟩ := HLa.out.root hlt hgk
          obtain ⟨v, ev⟩ : ∃ v, L k = v := ⟨_, rfl⟩
          have HLk := Lib.hid ev
          rw [ev] at v0 v1 q0 r0
          rw [hgk] at g0
          clear hgk ev
          obtain ⟨u, eu⟩ : ∃ u : Nat, v = (u : Int) := ⟨v.toNat, by omega⟩
          subst eu
          have hu : u < M := by omega
          have huI : (u : Int) < (M : Int) := by omega
          have ru := HI2.out.cell hu
          simp only [Int.toNat_natCast] at q0
          rw [q0] at ru
          clear q0
          have v2 : decide (k < u) = false := by simp; omega
          have v3 : ((u : Int) != (u : Int)) = false := by simp
          have v4 : decide ((0 : Int) ≤ (u : Int)) = true := by simp
          have v5 : (true != true) = false := rfl
          go_wp2
          go_quiet (fail)
          go_wp2
          by_cases hm : 0 < (k : Int) % (wd : Int)
          · have hmN : 0 < k % wd := by have e : (k : Int) % (wd : Int) = ((k % wd : Nat) : Int) := (Int.natCast_emod _ _).symm
                                        rw [e] at hm; exact Int.ofNat_lt.1 hm
            have hk0 : 1 ≤ k := by
              rcases Nat.eq_zero_or_pos k with e | e
              · rw [e] at hmN; simp at hmN
              · exact e
            obtain ⟨k1, ek1⟩ : ∃ k1 : Nat, (k : Int) - 1 = (k1 : Int) := ⟨((k : Int) - 1).toNat, by omega⟩
            have hk1 : k1 < M := by omega
            have hk1I : (k1 : Int) < (M : Int) := by omega
            have g1 := (HBd.out.cell (p := ⟨gb, k1, none⟩) lg).trans (GG.out k1 hk1)
            have r1 := (HI2.out).cell hk1
            cases hg1 : g k1 with
            | false =>
              rw [hg1] at g1
              clear hg1 r1 hmN
              by_cases hw : (wd : Int) ≤ (k : Int)
              · obtain ⟨k2, ek2⟩ : ∃ k2 : Nat, (k : Int) - (wd : Int) = (k2 : Int) := ⟨((k : Int) - (wd : Int)).toNat, by omega⟩
                have hk2 : k2 < M := by omega
                have hk2I : (k2 : Int) < (M : Int) := by omega
                have g2 := (HBd.out.cell (p := ⟨gb, k2, none⟩) lg).trans (GG.out k2 hk2)
                have r2 := (HI2.out).cell hk2
                cases hg2 : g k2 with
                | false =>
                  rw [hg2] at g2
                  clear hg2 r2
                  simp only [List.cons_append, List.nil_append, List.append_eq]
                  go_quiet (fail)
                  go_wp2
                  go_roundw
                  case rel => exact ⟨k + 1, by omega, by go_num, bdrewN HB.out _⟩
                  case measure => simp [intOf]; omega
                | true =>
                  rw [hg2] at g2
                  have q2 : L k2 = (u : Int) := (HLa.out.same k2 k ⟨hk2, hlt, .inr (.inr (.inr (by omega)))⟩ hg2 HGk.out).trans HLk.out
                  rw [q2] at r2
                  clear hg2 q2
                  simp only [List.cons_append, List.nil_append, List.append_eq]
                  go_quiet (fail)
                  go_wp2
                  go_roundw
                  case rel => exact ⟨k + 1, by omega, by go_num, bdrewN HB.out _⟩
                  case measure => simp [intOf]; omega
              · have w0 : decide ((wd : Int) ≤ (k : Int)) = false := by simpa using hw
                have w1 : decide (wd ≤ k) = false := by simp; omega
                clear hw
                simp only [List.cons_append, List.nil_append, List.append_eq]
                go_quiet (fail)
                go_wp2
                go_roundw
                case rel => exact ⟨k + 1, by omega, by go_num, bdrewN HB.out _⟩
                case measure => simp [intOf]; omega
            | true =>
              rw [hg1] at g1
              have q1 : L k1 = (u : Int) := (HLa.out.same k1 k ⟨hk1, hlt, .inr (.inr (.inl ⟨by omega, hmN⟩))⟩ hg1 HGk.out).trans HLk.out
              rw [q1] at r1
              clear hg1 q1 hmN
              by_cases hw : (wd : Int) ≤ (k : Int)
              · obtain ⟨k2, ek2⟩ : ∃ k2 : Nat, (k : Int) - (wd : Int) = (k2 : Int) := ⟨((k : Int) - (wd : Int)).toNat, by omega⟩
                have hk2 : k2 < M := by omega
                have hk2I : (k2 : Int) < (M : Int) := by omega
                have g2 := (HBd.out.cell (p := ⟨gb, k2, none⟩) lg).trans (GG.out k2 hk2)
                have r2 := (HI2.out).cell hk2
                cases hg2 : g k2 with
                | false =>
                  rw [hg2] at g2
                  clear hg2 r2
                  simp only [List.cons_append, List.nil_append, List.append_eq]
                  go_quiet (fail)
                  go_wp2
                  go_roundw
                  case rel => exact ⟨k + 1, by omega, by go_num, bdrewN HB.out _⟩
                  case measure => simp [intOf]; omega
                | true =>
                  rw [hg2] at g2
                  have q2 : L k2 = (u : Int) := (HLa.out.same k2 k ⟨hk2, hlt, .inr (.inr (.inr (by omega)))⟩ hg2 HGk.out).trans HLk.out
                  rw [q2] at r2
                  clear hg2 q2
                  simp only [List.cons_append, List.nil_append, List.append_eq]
                  go_quiet (fail)
                  go_wp2
                  go_roundw
                  case rel => exact ⟨k + 1, by omega, by go_num, bdrewN HB.out _⟩
                  case measure => simp [intOf]; omega
              · have w0 : decide ((wd : Int) ≤ (k : Int)) = false := by simpa using hw
                have w1 : decide (wd ≤ k) = false := by simp; omega
                clear hw
                simp only [List.cons_append, List.nil_append, List.append_eq]
                go_quiet (fail)
                go_wp2
                go_roundw
                case rel => exact ⟨k + 1, by omega, by go_num, bdrewN HB.out _⟩
                case measure => simp [intOf]; omega
          · have m0 : decide (0 < (k : Int) % (wd : Int)) = false := by simpa using hm
            clear hm
            by_cases hw : (wd : Int) ≤ (k : Int)
            · obtain ⟨k2, ek2⟩ : ∃ k2 : Nat, (k : Int) - (wd : Int) = (k2 : Int) := ⟨((k : Int) - (wd : Int)).toNat, by omega⟩
              have hk2 : k2 < M := by omega
              have hk2I : (k2 : Int) < (M : Int) := by omega
              have g2 := (HBd.out.cell (p := ⟨gb, k2, none⟩) lg).trans (GG.out k2 hk2)
              have r2 := (HI2.out).cell hk2
              cases hg2 : g k2 with
              | false =>
                rw [hg2] at g2
                clear hg2 r2
                simp only [List.cons_append, List.nil_append, List.append_eq]
                go_quiet (fail)
                go_wp2
                go_roundw
                case rel => exact ⟨k + 1, by omega, by go_num, bdrewN HB.out _⟩
                case measure => simp [intOf]; omega
              | true =>
                rw [hg2] at g2
                have q2 : L k2 = (u : Int) := (HLa.out.same k2 k ⟨hk2, hlt, .inr (.inr (.inr (by omega)))⟩ hg2 HGk.out).trans HLk.out
                rw [q2] at r2
                clear hg2 q2
                simp only [List.cons_append, List.nil_append, List.append_eq]
                go_quiet (fail)
                go_wp2
                go_roundw
                case rel => exact ⟨k + 1, by omega, by go_num, bdrewN HB.out _⟩
                case measure => simp [intOf]; omega
            · have w0 : decide ((wd : Int) ≤ (k : Int)) = false := by simpa using hw
              have w1 : decide (wd ≤ k) = false := by simp; omega
              clear hw
              simp only [List.cons_append, List.nil_append, List.append_eq]
              go_quiet (fail)
              go_wp2
              go_roundw
              case rel => exact ⟨k + 1, by omega, by go_num, bdrewN HB.out _⟩
              case measure => simp [intOf]; omega
      · have e : M = k := by omega
        subst e
        clear hlt hk
        go_wp2_with fail
        refine (awake_any _).mono ?_
        rintro e w9 ⟨rfl, b9⟩
        have B9 := Lib.hid ((S4.out.keep HB.out).keep b9).bx.below
        clear b9
        go_wp2
        go_ret
        exact Ret.mk rfl B9.out
  · have C1 := Lib.hid (fun u => regions_bad W H T cl A N c u hM hv)
    have C2 := Lib.hid (fun u => grid_bad W H T cl A N c u hM hv)
    clear hv hp
    go_enter Try.func7, Try.ntmps7
    go_wp2_with fail
    refine HF.out.mono ?_
    rintro e w1 ⟨rfl, b1⟩
    have X1 := Lib.hid (HX.out.keep b1)
    have S0 := HS.out _ b1
    clear b1 HX HF HS
    obtain ⟨-, c0, c1, c2, c3, f0, f1, f2, f3, -⟩ := X1.out
    have S1 := Lib.hid S0
    obtain ⟨⟨-, c0, c1, c2, c3, -, -, -, -, -⟩, -⟩ := S0
    go_wp2_with fail
    refine (C1.out _).mono ?_
    rintro e w2 ⟨rfl, b2⟩
    have S2 := Lib.hid (S1.out.keep b2)
    clear b2 S1 X1 c0 c1 c2 c3
    obtain ⟨⟨-, c0, c1, c2, c3, -, -, -, -, -⟩, -⟩ := S2.out
    go_wp2_with fail
    refine (C2.out _).mono ?_
    rintro e w3 ⟨rfl, b2⟩
    have S3 := Lib.hid (S2.out.keep b2)
    clear b2 S2 c0 c1 c2 c3
    go_wp2_with fail
    refine (awake_any _).mono ?_
    rintro e w9 ⟨rfl, b2⟩
    have S9 := Lib.hid (S3.out.keep b2)
    clear b2 S3
    go_wp2
    go_ret
    exact Ret.mk rfl S9.out.bx.below

end Go.Proofs.Ytoikahdffpadoaa
