/- The walk of the law GroundRegions. -/
import Derived.Test.YtoikahdffpadoaaLCellStart
namespace Go.Proofs.Ytoikahdffpadoaa
open Go.RowKit
set_option linter.unusedVariables false

set_option maxRecDepth 100000 in
set_option maxHeartbeats 4000000 in
theorem walk_GroundRegions (W H T : Int) (A : Option Addr) (n c : Nat) (p : Nat → Nat) (cl i j : Int) (w : World) (hb : Bs w A n p) (hp : ∀ i, p i < 256) (hn : n ≤ c) (hc : c ≤ maxLen) :
    Calls Try.prog 6 #[.agg #[.int .i64 W, .int .i64 H, .int .i64 T, .slice A n c, .int .i64 cl, .int .i64 i, .int .i64 j]] w (Ret (.bool true) w) := by
  have HF : Hid (∀ u, Below w.heap.size w u → Calls Try.prog 10 #[.agg #[.int .i64 W, .int .i64 H, .int .i64 T, .slice A n c]] u (Ret (.agg #[.int .i64 W, .int .i64 H, .int .i64 T, .slice A (fewN n) c]) u)) :=
    fun u hu => few7_any W H T A n c p u (hb.keep hu) hn hc
  have hN := (fewN_le n).2
  have hM : fewN n ≤ maxLen := by unfold maxLen; omega
  have HS1 := Lib.hid (fun (X : World) => Start.behind (w := w) (X := X) (W := W) (H := H) (T := T) (c := c) hb (fewN_le n).1)
  have HS2 := Lib.hid (fun (X : World) (g : Nat) (a b e d : Value) => Start.ahead (w := w) (X := X) (g := g) (a := a) (b := b) (e := e) (d := d) (W := W) (H := H) (T := T) (c := c) hb (fewN_le n).1)
  have Y0 := Lib.hid (B7.new w (.int .i64 W) (.int .i64 H) (.int .i64 T) (.slice A n c) (.int .i64 cl) (.int .i64 i) (.int .i64 j) 27)
  clear hb
  generalize fewN n = N at *
  go_enter Try.func6, Try.ntmps6
  go_wp2_with fail
  generalize w.alloc (.cells #[.int .i64 W, .int .i64 H, .int .i64 T, .slice A n c, .int .i64 cl, .int .i64 i, .int .i64 j] 27) = w2 at *
  obtain ⟨c0, c1, c2, c3, c4, c5, c6, -⟩ := Y0.out
  have hne : w.heap.size ≠ w2.heap.size := by have := World.block_lt_of_cell? w2 _ c0; simp at this; omega
  go_cut [3, 4, 5, 6] (fun s3 s4 s5 s6 wx => ∃ g : Nat, s3 = .pointer (some ⟨g, 0, none⟩) ∧ s4 = .int .i64 cl ∧ s5 = .int .i64 i ∧ s6 = .int .i64 j ∧ Start w wx g W H T A N c p)
  case first =>
    go_region_held3 (fun w' => w'.cell? ⟨w.heap.size, 0, none⟩ = some (.int .i64 W) ∧ w'.cell? ⟨w.heap.size, 1, none⟩ = some (.int .i64 H) ∧ w'.cell? ⟨w.heap.size, 2, none⟩ = some (.int .i64 T) ∧ w'.cell? ⟨w.heap.size, 3, none⟩ = some (.slice A n c) ∧ w'.cell? ⟨w.heap.size, 4, none⟩ = some (.int .i64 cl) ∧ w'.cell? ⟨w.heap.size, 5, none⟩ = some (.int .i64 i) ∧ w'.cell? ⟨w.heap.size, 6, none⟩ = some (.int .i64 j))
      (go_keep)
      (first
        | (go_at_call 10; ((with_reducible refine (HF.out w2.drew Y0.out.below.drew).mono ?_)); rintro e w3 ⟨rfl, b3⟩; have YS := Lib.hid (Y0.out.drew.keep b3); clear b3; obtain ⟨c0, c1, c2, c3, c4, c5, c6, -⟩ := YS.out)
        | (go_at_call 10; ((with_reducible refine (HF.out (w2.alloc (.cells #[.int .i64 0, .int .i64 0, .int .i64 0, .slice none 0 0] 25)).drew (Y0.out.below.alloc Y0.out.below.size _).drew).mono ?_)); rintro e w3 ⟨rfl, b3⟩; have YS := Lib.hid ((Y0.out.keep ((Below.refl _ _).alloc (Nat.le_refl _) _)).drew.keep b3); have XN := Lib.hid ((Bx.next Y0.out.below (.int .i64 0) (.int .i64 0) (.int .i64 0) (.slice none 0 0) 25).drew.keep b3); clear b3; obtain ⟨c0, c1, c2, c3, c4, c5, c6, -⟩ := YS.out; obtain ⟨_, d0, d1, d2, d3, g0, g1, g2, g3, _⟩ := XN.out; have m0 := fun x y z u => four_far (x := x) (y := y) (z := z) (u := u) hne c0; have m1 := fun x y z u => four_far (x := x) (y := y) (z := z) (u := u) hne c1; have m2 := fun x y z u => four_far (x := x) (y := y) (z := z) (u := u) hne c2; have m3 := fun x y z u => four_far (x := x) (y := y) (z := z) (u := u) hne c3; have m4 := fun x y z u => four_far (x := x) (y := y) (z := z) (u := u) hne c4; have m5 := fun x y z u => four_far (x := x) (y := y) (z := z) (u := u) hne c5; have m6 := fun x y z u => four_far (x := x) (y := y) (z := z) (u := u) hne c6))
    all_goals (go_wp2_with fail; go_meet)
    all_goals (first | exact ⟨w3.heap.size, rfl, rfl, rfl, rfl, HS1.out _ YS.out.below⟩ | exact ⟨w2.heap.size, rfl, rfl, rfl, rfl, HS2.out _ _ _ _ _ _ XN.out⟩)
  case rest =>
    obtain ⟨g0, rfl, rfl, rfl, rfl, hS⟩ := hcut
    clear HF HS1 HS2 Y0 c0 c1 c2 c3 c4 c5 c6 hne
    have S1 := Lib.hid hS
    clear hS
    rename World => wx
    by_cases hv : Val W H T N ∧ Cls cl
    · obtain ⟨hv, hk⟩ := hv
      obtain ⟨wd, ht, rfl, rfl⟩ := hv.nat
      obtain ⟨hW1, hW2, hH1, hH2, hT, hT2⟩ := hv.s
      have hA : wd * ht ≤ 4096 := land_bd (by omega) (by omega)
      have C1 := Lib.hid (fun u hb => regions_in wd ht T cl A N c p u hM hb hp hv hk)
      have C2 := Lib.hid (fun u => right_yes wd ht T cl A N c u hM hv hk)
      have C3 := Lib.hid (fun u hb => refRegions_any wd ht T cl A N c p u hb hp hv hk)
      have C4 := Lib.hid (fun L u hb hL => joined_in wd ht T cl i j A N c p L u hM hb hp hv hk hL)
      obtain ⟨M, eM⟩ : ∃ M, wd * ht = M := ⟨_, rfl⟩
      rw [eM] at C1 C3 C4 hA
      clear hv hk hp eM
      generalize gr p wd T cl = g at *
      obtain ⟨⟨-, c0, c1, c2, c3, -, -, -, -, -⟩, -⟩ := S1.out
      go_wp2_with fail
      refine (C1.out _ S1.out.bs).mono ?_
      rintro e w2 ⟨rg, L, rfl, hI, hLa, b2⟩
      have S2 := Lib.hid (S1.out.keep b2)
      have RI1 := Lib.hid hI
      have HLa := Lib.hid hLa
      clear b2 S1 c0 c1 c2 c3 hI hLa
      obtain ⟨⟨-, c0, c1, c2, c3, -, -, -, -, -⟩, -⟩ := S2.out
      go_wp2_with fail
      refine (C2.out _).mono ?_
      rintro e w3 ⟨rfl, b2⟩
      have S3 := Lib.hid (S2.out.keep b2)
      have RI2 := Lib.hid (RI1.out.keep b2)
      clear b2 S2 RI1 c0 c1 c2 c3
      obtain ⟨⟨-, c0, c1, c2, c3, -, -, -, -, -⟩, -⟩ := S3.out
      go_wp2_with fail
      refine (C3.out _ S3.out.bs).mono ?_
      rintro e w4 ⟨rh, R, rfl, hI, hR, b2⟩
      have S4 := Lib.hid (S3.out.keep b2)
      have RI := Lib.hid (RI2.out.keep b2)
      have RJ := Lib.hid (hI.congr (fun i hi => hR.one HLa.out hi))
      have CJ := Lib.hid (fun u hb => C4.out L u hb HLa.out)
      clear b2 S3 RI2 c0 c1 c2 c3 C1 C2 C3 C4 hI hR
      go_wp2
      go_loopw [10] (fun t wr => ∃ k : Nat, k ≤ M ∧ t = .int .i64 (k : Int) ∧ Below w4.heap.size w4 wr) (fun t _ => M - (intOf t).toNat)
      case atStart => exact ⟨0, by omega, rfl, Below.refl _ _⟩
      case round =>
        obtain ⟨k, hk, rfl, hB⟩ := hrel
        have HB := Lib.hid hB
        clear hB
        by_cases hlt : k < M
        · have e1 := (RI.out.keep HB.out).cell hlt
          have e2 := (RJ.out.keep HB.out).cell hlt
          have hkI : (k : Int) < (M : Int) := by omega
          generalize L k = v at *
          have hvv : (v != v) = false := by simp
          go_wp2
          go_quiet (fail)
          go_wp2
          go_roundw
          case rel => exact ⟨k + 1, by omega, by go_num, bdrewN HB.out _⟩
          case measure => simp [intOf]; omega
        · have e : M = k := by omega
          subst e
          clear hlt hk
          by_cases a0 : 0 ≤ i
          · by_cases a1 : i < (M : Int)
            · by_cases b0 : 0 ≤ j
              · by_cases b1 : j < (M : Int)
                · obtain ⟨x, rfl⟩ : ∃ x : Nat, i = (x : Int) := ⟨i.toNat, by omega⟩
                  obtain ⟨y, rfl⟩ : ∃ y : Nat, j = (y : Int) := ⟨j.toNat, by omega⟩
                  have hx : x < M := by omega
                  have hy : y < M := by omega
                  have e1 := (RJ.out.keep HB.out).cell hx
                  have e2 := (RJ.out.keep HB.out).cell hy
                  by_cases hl : L x = -1
                  · skip
                    have EJ : jn L M (x : Int) (y : Int) = false := (by unfold jn; rw [decide_eq_false_iff_not]; intro h; exact h.2.2.1 (by simpa using hl))
                    rw [EJ] at CJ
                    clear EJ
                    rw [hl] at e1
                    have z0 : decide ((0 : Int) ≤ -1) = false := by decide
                    clear hl
                    go_wp2
                    go_quiet (fail)
                    have S5 : Hid (Start w _ g0 wd ht T A N c p) := S4.out.keep (bdrewN HB.out nq)
                    clear S4 HB
                    obtain ⟨⟨-, c0, c1, c2, c3, -, -, -, -, -⟩, -⟩ := S5.out
                    go_wp2_with fail
                    refine (CJ.out _ S5.out.bs).mono ?_
                    rintro e w6 ⟨rfl, b2⟩
                    have S6 := Lib.hid (S5.out.keep b2)
                    clear b2 S5 c0 c1 c2 c3
                    go_wp2_with fail
                    refine (awake_any _).mono ?_
                    rintro e w9 ⟨rfl, b2⟩
                    have S9 := Lib.hid (S6.out.keep b2)
                    clear b2 S6
                    go_wp2
                    go_ret
                    exact Ret.mk (by simp) S9.out.bx.below
                  · have h0 : 0 ≤ L x := by
                      cases hg : g x with
                      | false => exact absurd (HLa.out.shut x hx hg) hl
                      | true => exact (HLa.out.free x hx hg).1
                    by_cases hq : L x = L y
                    · skip
                      have EJ : jn L M (x : Int) (y : Int) = true := (by unfold jn; rw [decide_eq_true_iff]; exact ⟨⟨a0, a1⟩, ⟨b0, b1⟩, by simpa using hl, by simpa using hq⟩)
                      rw [EJ] at CJ
                      clear EJ
                      rw [← hq] at e2
                      obtain ⟨v, ev⟩ : ∃ v, L x = v := ⟨_, rfl⟩
                      rw [ev] at e1 e2 h0
                      clear hq hl ev
                      have zz : (v == v) = true := by simp
                      go_wp2
                      go_quiet (fail)
                      have S5 : Hid (Start w _ g0 wd ht T A N c p) := S4.out.keep (bdrewN HB.out nq)
                      clear S4 HB
                      obtain ⟨⟨-, c0, c1, c2, c3, -, -, -, -, -⟩, -⟩ := S5.out
                      go_wp2_with fail
                      refine (CJ.out _ S5.out.bs).mono ?_
                      rintro e w6 ⟨rfl, b2⟩
                      have S6 := Lib.hid (S5.out.keep b2)
                      clear b2 S5 c0 c1 c2 c3
                      go_wp2_with fail
                      refine (awake_any _).mono ?_
                      rintro e w9 ⟨rfl, b2⟩
                      have S9 := Lib.hid (S6.out.keep b2)
                      clear b2 S6
                      go_wp2
                      go_ret
                      exact Ret.mk (by simp) S9.out.bx.below
                    · skip
                      have EJ : jn L M (x : Int) (y : Int) = false := (by unfold jn; rw [decide_eq_false_iff_not]; intro h; exact hq (by simpa using h.2.2.2))
                      rw [EJ] at CJ
                      clear EJ
                      obtain ⟨v, ev⟩ : ∃ v, L x = v := ⟨_, rfl⟩
                      obtain ⟨v2, ev2⟩ : ∃ v2, L y = v2 := ⟨_, rfl⟩
                      rw [ev] at e1 h0 hq
                      rw [ev2] at e2 hq
                      clear hl ev ev2
                      have zz : (v == v2) = false := by simpa using hq
                      clear hq
                      go_wp2
                      go_quiet (fail)
                      have S5 : Hid (Start w _ g0 wd ht T A N c p) := S4.out.keep (bdrewN HB.out nq)
                      clear S4 HB
                      obtain ⟨⟨-, c0, c1, c2, c3, -, -, -, -, -⟩, -⟩ := S5.out
                      go_wp2_with fail
                      refine (CJ.out _ S5.out.bs).mono ?_
                      rintro e w6 ⟨rfl, b2⟩
                      have S6 := Lib.hid (S5.out.keep b2)
                      clear b2 S5 c0 c1 c2 c3
                      go_wp2_with fail
                      refine (awake_any _).mono ?_
                      rintro e w9 ⟨rfl, b2⟩
                      have S9 := Lib.hid (S6.out.keep b2)
                      clear b2 S6
                      go_wp2
                      go_ret
                      exact Ret.mk (by simp) S9.out.bx.below
                · skip
                  have EJ : jn L M i j = false := (by unfold jn; rw [decide_eq_false_iff_not]; intro h; exact b1 h.2.1.2)
                  rw [EJ] at CJ
                  clear EJ
                  have z0 : decide (j < (M : Int)) = false := by simpa using b1
                  clear b1
                  go_wp2
                  go_quiet (fail)
                  have S5 : Hid (Start w _ g0 wd ht T A N c p) := S4.out.keep (bdrewN HB.out nq)
                  clear S4 HB
                  obtain ⟨⟨-, c0, c1, c2, c3, -, -, -, -, -⟩, -⟩ := S5.out
                  go_wp2_with fail
                  refine (CJ.out _ S5.out.bs).mono ?_
                  rintro e w6 ⟨rfl, b2⟩
                  have S6 := Lib.hid (S5.out.keep b2)
                  clear b2 S5 c0 c1 c2 c3
                  go_wp2_with fail
                  refine (awake_any _).mono ?_
                  rintro e w9 ⟨rfl, b2⟩
                  have S9 := Lib.hid (S6.out.keep b2)
                  clear b2 S6
                  go_wp2
                  go_ret
                  exact Ret.mk (by simp) S9.out.bx.below
              · skip
                have EJ : jn L M i j = false := (by unfold jn; rw [decide_eq_false_iff_not]; intro h; exact b0 h.2.1.1)
                rw [EJ] at CJ
                clear EJ
                have z0 : decide (0 ≤ j) = false := by simpa using b0
                clear b0
                go_wp2
                go_quiet (fail)
                have S5 : Hid (Start w _ g0 wd ht T A N c p) := S4.out.keep (bdrewN HB.out nq)
                clear S4 HB
                obtain ⟨⟨-, c0, c1, c2, c3, -, -, -, -, -⟩, -⟩ := S5.out
                go_wp2_with fail
                refine (CJ.out _ S5.out.bs).mono ?_
                rintro e w6 ⟨rfl, b2⟩
                have S6 := Lib.hid (S5.out.keep b2)
                clear b2 S5 c0 c1 c2 c3
                go_wp2_with fail
                refine (awake_any _).mono ?_
                rintro e w9 ⟨rfl, b2⟩
                have S9 := Lib.hid (S6.out.keep b2)
                clear b2 S6
                go_wp2
                go_ret
                exact Ret.mk (by simp) S9.out.bx.below
            · skip
              have EJ : jn L M i j = false := (by unfold jn; rw [decide_eq_false_iff_not]; intro h; exact a1 h.1.2)
              rw [EJ] at CJ
              clear EJ
              have z0 : decide (i < (M : Int)) = false := by simpa using a1
              clear a1
              go_wp2
              go_quiet (fail)
              have S5 : Hid (Start w _ g0 wd ht T A N c p) := S4.out.keep (bdrewN HB.out nq)
              clear S4 HB
              obtain ⟨⟨-, c0, c1, c2, c3, -, -, -, -, -⟩, -⟩ := S5.out
              go_wp2_with fail
              refine (CJ.out _ S5.out.bs).mono ?_
              rintro e w6 ⟨rfl, b2⟩
              have S6 := Lib.hid (S5.out.keep b2)
              clear b2 S5 c0 c1 c2 c3
              go_wp2_with fail
              refine (awake_any _).mono ?_
              rintro e w9 ⟨rfl, b2⟩
              have S9 := Lib.hid (S6.out.keep b2)
              clear b2 S6
              go_wp2
              go_ret
              exact Ret.mk (by simp) S9.out.bx.below
          · skip
            have EJ : jn L M i j = false := (by unfold jn; rw [decide_eq_false_iff_not]; intro h; exact a0 h.1.1)
            rw [EJ] at CJ
            clear EJ
            have z0 : decide (0 ≤ i) = false := by simpa using a0
            clear a0
            go_wp2
            go_quiet (fail)
            have S5 : Hid (Start w _ g0 wd ht T A N c p) := S4.out.keep (bdrewN HB.out nq)
            clear S4 HB
            obtain ⟨⟨-, c0, c1, c2, c3, -, -, -, -, -⟩, -⟩ := S5.out
            go_wp2_with fail
            refine (CJ.out _ S5.out.bs).mono ?_
            rintro e w6 ⟨rfl, b2⟩
            have S6 := Lib.hid (S5.out.keep b2)
            clear b2 S5 c0 c1 c2 c3
            go_wp2_with fail
            refine (awake_any _).mono ?_
            rintro e w9 ⟨rfl, b2⟩
            have S9 := Lib.hid (S6.out.keep b2)
            clear b2 S6
            go_wp2
            go_ret
            exact Ret.mk (by simp) S9.out.bx.below
    · have C1 := Lib.hid (fun u => regions_bad W H T cl A N c u hM hv)
      have C2 := Lib.hid (fun u => right_no W H T cl A N c u hM hv)
      have C3 := Lib.hid (fun u => joined_bad W H T cl i j A N c u hM hv)
      clear hv hp
      obtain ⟨⟨-, c0, c1, c2, c3, -, -, -, -, -⟩, -⟩ := S1.out
      go_wp2_with fail
      refine (C1.out _).mono ?_
      rintro e w2 ⟨rfl, b2⟩
      have S2 := Lib.hid (S1.out.keep b2)
      clear b2 S1 c0 c1 c2 c3
      obtain ⟨⟨-, c0, c1, c2, c3, -, -, -, -, -⟩, -⟩ := S2.out
      go_wp2_with fail
      refine (C2.out _).mono ?_
      rintro e w3 ⟨rfl, b2⟩
      have S3 := Lib.hid (S2.out.keep b2)
      clear b2 S2 c0 c1 c2 c3
      obtain ⟨⟨-, c0, c1, c2, c3, -, -, -, -, -⟩, -⟩ := S3.out
      go_wp2_with fail
      refine (C3.out _).mono ?_
      rintro e w4 ⟨rfl, b2⟩
      have S4 := Lib.hid (S3.out.keep b2)
      clear b2 S3 c0 c1 c2 c3
      go_wp2_with fail
      refine (awake_any _).mono ?_
      rintro e w9 ⟨rfl, b2⟩
      have S9 := Lib.hid (S4.out.keep b2)
      clear b2 S4
      go_wp2
      go_ret
      exact Ret.mk (by simp) S9.out.bx.below

end Go.Proofs.Ytoikahdffpadoaa
