/- The walk of the law GroundOrder. -/
import Derived.Test.YtoikahdffpadoaaLCellStart
namespace Go.Proofs.Ytoikahdffpadoaa
open Go.RowKit
set_option linter.unusedVariables false

set_option maxRecDepth 100000 in
set_option maxHeartbeats 4000000 in
theorem walk_GroundOrder (W H T : Int) (A : Option Addr) (n c : Nat) (p : Nat → Nat) (cl i j : Int) (w : World) (hb : Bs w A n p) (hp : ∀ i, p i < 256) (hn : n ≤ c) (hc : c ≤ maxLen) :
    Calls Try.prog 8 #[.agg #[.int .i64 W, .int .i64 H, .int .i64 T, .slice A n c, .int .i64 cl, .int .i64 i, .int .i64 j]] w (Ret (.bool true) w) := by
  have HF : Hid (∀ u, Below w.heap.size w u → Calls Try.prog 10 #[.agg #[.int .i64 W, .int .i64 H, .int .i64 T, .slice A n c]] u (Ret (.agg #[.int .i64 W, .int .i64 H, .int .i64 T, .slice A (fewN n) c]) u)) :=
    fun u hu => few7_any W H T A n c p u (hb.keep hu) hn hc
  have hN := (fewN_le n).2
  have hM : fewN n ≤ maxLen := by unfold maxLen; omega
  have HS1 := Lib.hid (fun (X : World) => Start.behind (w := w) (X := X) (W := W) (H := H) (T := T) (c := c) hb (fewN_le n).1)
  have HS2 := Lib.hid (fun (X : World) (g : Nat) (a b e d : Value) => Start.ahead (w := w) (X := X) (g := g) (a := a) (b := b) (e := e) (d := d) (W := W) (H := H) (T := T) (c := c) hb (fewN_le n).1)
  have Y0 := Lib.hid (B7.new w (.int .i64 W) (.int .i64 H) (.int .i64 T) (.slice A n c) (.int .i64 cl) (.int .i64 i) (.int .i64 j) 27)
  clear hb
  generalize fewN n = N at *
  go_enter Try.func8, Try.ntmps8
  go_wp2_with fail
  generalize w.alloc (.cells #[.int .i64 W, .int .i64 H, .int .i64 T, .slice A n c, .int .i64 cl, .int .i64 i, .int .i64 j] 27) = w2 at *
  obtain ⟨c0, c1, c2, c3, c4, c5, c6, -⟩ := Y0.out
  have hne : w.heap.size ≠ w2.heap.size := by have := World.block_lt_of_cell? w2 _ c0; simp at this; omega
  go_cut [3, 4, 5, 6] (fun s3 s4 s5 s6 wx => ∃ g : Nat, s3 = .pointer (some ⟨g, 0, none⟩) ∧ s4 = .int .i64 cl ∧ s5 = .int .i64 i ∧ s6 = .int .i64 j ∧ Start w wx g W H T A N c p)
  case first =>
    go_region_held3 (fun w' => w'.cell? ⟨w.heap.size, 0, none⟩ = some (.int .i64 W) ∧ w'.cell? ⟨w.heap.size, 1, none⟩ = some (.int .i64 H) ∧ w'.cell? ⟨w.heap.size, 2, none⟩ = some (.int .i64 T) ∧ w'.cell? ⟨w.heap.size, 3, none⟩ = some (.slice A n c) ∧ w'.cell? ⟨w.heap.size, 4, none⟩ = some (.int .i64 cl) ∧ w'.cell? ⟨w.heap.size, 5, none⟩ = some (.int .i64 i) ∧ w'.cell? ⟨w.heap.size, 6, none⟩ = some (.int .i64 j))
      (go_keep)
      (first
        | (go_at_call 10; ((with_reducible refine (HF.out w2.drew Y0.out.below.drew).mono ?_)); rintro e w3 ⟨rfl, b3⟩; have YS := Lib.hid (Y0.out.drew.keep b3); clear b3; obtain ⟨c0, c1, c2, c3, c4, c5, c6, -⟩ := YS.out)
        | (go_at_call 10; ((with_reducible refine (HF.out (w2.alloc (.cells #[.int .i64 0, .int .i64 0, .int .i64 0, .slice none 0 0] 25)).drew (Y0.out.below.alloc Y0.out.below.size _).drew).mono ?_)); rintro e w3 ⟨rfl, b3⟩; have YS := Lib.hid ((Y0.out.keep ((Below.refl _ _).alloc (Nat.le_refl _) _)).drew.keep b3); have XN := Lib.hid ((Bx.next Y0.out.below (.int .i64 0) (.int .i64 0) (.int .i64 0) (.slice none 0 0) 25).drew.keep b3); clear b3; obtain ⟨c0, c1, c2, c3, c4, c5, c6, -⟩ := YS.out; obtain ⟨_, d0, d1, d2, d3, g0, g1, g2, g3, _⟩ := XN.out; have m0 := fun x y z u => four_far (x := x) (y := y) (z := z) (u := u) hne c0; have m1 := fun x y z u => four_far (x := x) (y := y) (z := z) (u := u) hne c1; have m2 := fun x y z u => four_far (x := x) (y := y) (z := z) (u := u) hne c2; have m3 := fun x y z u => four_far (x := x) (y := y) (z := z) (u := u) hne c3; have m4 := fun x y z u => four_far (x := x) (y := y) (z := z) (u := u) hne c4; have m5 := fun x y z u => four_far (x := x) (y := y) (z := z) (u := u) hne c5; have m6 := fun x y z u => four_far (x := x) (y := y) (z := z) (u := u) hne c6))
    all_goals (go_wp2_with fail; go_meet)
    all_goals (first | exact ⟨w3.heap.size, rfl, rfl, rfl, rfl, HS1.out _ YS.out.below⟩ | exact ⟨w2.heap.size, rfl, rfl, rfl, rfl, HS2.out _ _ _ _ _ _ XN.out⟩)
  case rest =>
    obtain ⟨g0, rfl, rfl, rfl, rfl, hS⟩ := hcut
    clear HF HS1 HS2 Y0 c0 c1 c2 c3 c4 c5 c6 hne
    have S1 := Lib.hid hS
    clear hS
    rename World => wx
    by_cases hv : Val W H T N
    · obtain ⟨hW1, hW2, hH1, hH2, hT, hT2⟩ := hv.s
      by_cases ho : i < 0 ∨ W ≤ i ∨ j < 0 ∨ H ≤ j
      · have CE := Lib.hid (fun (x : Int) (hx : Cls x) (u : World) => open_err W H T x i j 4 A N c u hx rfl (fun u => slope_err W H T i j 4 A N c u (by decide) (fun u => cell_out W H T i j A N c u hM hv ho)))
        by_cases hk : Cls cl
        · have C1 := Lib.hid (CE.out cl hk)
          clear hv hk ho hp
          obtain ⟨⟨-, c0, c1, c2, c3, -, -, -, -, -⟩, -⟩ := S1.out
          go_wp2_with fail
          refine (C1.out _).mono ?_
          rintro e w2 ⟨rfl, b2⟩
          have S2 := Lib.hid (S1.out.keep b2)
          clear b2 S1 c0 c1 c2 c3
          obtain ⟨⟨-, c0, c1, c2, c3, -, -, -, -, -⟩, -⟩ := S2.out
          go_wp2_with fail
          refine (CE.out 5 (by decide) _).mono ?_
          rintro e w3 ⟨rfl, b2⟩
          have S3 := Lib.hid (S2.out.keep b2)
          clear b2 S2 c0 c1 c2 c3
          obtain ⟨⟨-, c0, c1, c2, c3, -, -, -, -, -⟩, -⟩ := S3.out
          go_wp2_with fail
          refine (CE.out 3 (by decide) _).mono ?_
          rintro e w4 ⟨rfl, b2⟩
          have S4 := Lib.hid (S3.out.keep b2)
          clear b2 S3 c0 c1 c2 c3
          obtain ⟨⟨-, c0, c1, c2, c3, -, -, -, -, -⟩, -⟩ := S4.out
          go_wp2_with fail
          refine (CE.out 2 (by decide) _).mono ?_
          rintro e w5 ⟨rfl, b2⟩
          have S5 := Lib.hid (S4.out.keep b2)
          clear b2 S4 c0 c1 c2 c3
          obtain ⟨⟨-, c0, c1, c2, c3, -, -, -, -, -⟩, -⟩ := S5.out
          go_wp2_with fail
          refine (CE.out 1 (by decide) _).mono ?_
          rintro e w6 ⟨rfl, b2⟩
          have S6 := Lib.hid (S5.out.keep b2)
          clear b2 S5 c0 c1 c2 c3
          obtain ⟨⟨-, c0, c1, c2, c3, -, -, -, -, -⟩, -⟩ := S6.out
          go_wp2_with fail
          refine (CE.out 0 (by decide) _).mono ?_
          rintro e w7 ⟨rfl, b2⟩
          have S7 := Lib.hid (S6.out.keep b2)
          clear b2 S6 c0 c1 c2 c3
          go_wp2_with fail
          refine (awake_any _).mono ?_
          rintro e w9 ⟨rfl, b2⟩
          have S9 := Lib.hid (S7.out.keep b2)
          clear b2 S7
          go_wp2
          go_ret
          exact Ret.mk (by simp) S9.out.bx.below
        · have C1 := Lib.hid (fun u => open_class W H T cl i j A N c u hk)
          clear hv hk ho hp
          obtain ⟨⟨-, c0, c1, c2, c3, -, -, -, -, -⟩, -⟩ := S1.out
          go_wp2_with fail
          refine (C1.out _).mono ?_
          rintro e w2 ⟨rfl, b2⟩
          have S2 := Lib.hid (S1.out.keep b2)
          clear b2 S1 c0 c1 c2 c3
          obtain ⟨⟨-, c0, c1, c2, c3, -, -, -, -, -⟩, -⟩ := S2.out
          go_wp2_with fail
          refine (CE.out 5 (by decide) _).mono ?_
          rintro e w3 ⟨rfl, b2⟩
          have S3 := Lib.hid (S2.out.keep b2)
          clear b2 S2 c0 c1 c2 c3
          obtain ⟨⟨-, c0, c1, c2, c3, -, -, -, -, -⟩, -⟩ := S3.out
          go_wp2_with fail
          refine (CE.out 3 (by decide) _).mono ?_
          rintro e w4 ⟨rfl, b2⟩
          have S4 := Lib.hid (S3.out.keep b2)
          clear b2 S3 c0 c1 c2 c3
          obtain ⟨⟨-, c0, c1, c2, c3, -, -, -, -, -⟩, -⟩ := S4.out
          go_wp2_with fail
          refine (CE.out 2 (by decide) _).mono ?_
          rintro e w5 ⟨rfl, b2⟩
          have S5 := Lib.hid (S4.out.keep b2)
          clear b2 S4 c0 c1 c2 c3
          obtain ⟨⟨-, c0, c1, c2, c3, -, -, -, -, -⟩, -⟩ := S5.out
          go_wp2_with fail
          refine (CE.out 1 (by decide) _).mono ?_
          rintro e w6 ⟨rfl, b2⟩
          have S6 := Lib.hid (S5.out.keep b2)
          clear b2 S5 c0 c1 c2 c3
          obtain ⟨⟨-, c0, c1, c2, c3, -, -, -, -, -⟩, -⟩ := S6.out
          go_wp2_with fail
          refine (CE.out 0 (by decide) _).mono ?_
          rintro e w7 ⟨rfl, b2⟩
          have S7 := Lib.hid (S6.out.keep b2)
          clear b2 S6 c0 c1 c2 c3
          go_wp2_with fail
          refine (awake_any _).mono ?_
          rintro e w9 ⟨rfl, b2⟩
          have S9 := Lib.hid (S7.out.keep b2)
          clear b2 S7
          go_wp2
          go_ret
          exact Ret.mk (by simp) S9.out.bx.below
      · have i0 : 0 ≤ i := by omega
        have i1 : i < W := by omega
        have j0 : 0 ≤ j := by omega
        have j1 : j < H := by omega
        have CE := Lib.hid (fun (x : Int) (hx : Cls x) (u : World) hb => open_in W H T x i j A N c p u hM hb hp hv hx i0 i1 j0 j1)
        have V5 := Lib.hid (show opAt p W T 5 i j = true by simp [opAt, opn])
        have V3 := Lib.hid (show opAt p W T 3 i j = decide (24 ≤ dep p W T i j) by simp [opAt, opn])
        have V2 := Lib.hid (show opAt p W T 2 i j = decide (16 ≤ dep p W T i j) by simp [opAt, opn])
        have V1 := Lib.hid (show 0 < dep p W T i j → opAt p W T 1 i j = true by intro h; simp [opAt, opn, h])
        have V0 := Lib.hid (show 12 < dep p W T i j → opAt p W T 0 i j = false by intro h; simp [opAt, opn]; omega)
        have K5 := Lib.hid (CE.out 5 (by decide))
        have K3 := Lib.hid (CE.out 3 (by decide))
        have K2 := Lib.hid (CE.out 2 (by decide))
        have K1 := Lib.hid (CE.out 1 (by decide))
        have K0 := Lib.hid (CE.out 0 (by decide))
        rw [V5.out] at K5
        rw [V3.out] at K3
        rw [V2.out] at K2
        clear V5 V3 V2
        generalize dep p W T i j = d at *
        by_cases hk : Cls cl
        · have C1 := Lib.hid (CE.out cl hk)
          clear CE hv hk ho hp
          generalize opAt p W T cl i j = vc at *
          rcases Int.lt_or_le d 16 with hd | hd
          · have e3 : decide (24 ≤ d) = false := by simp; omega
            have e2 : decide (16 ≤ d) = false := by simp; omega
            rw [e3] at K3
            rw [e2] at K2
            clear e3 e2 hd V1 V0
            generalize opAt p W T 1 i j = v1 at *
            generalize opAt p W T 0 i j = v0 at *
            obtain ⟨⟨-, c0, c1, c2, c3, -, -, -, -, -⟩, -⟩ := S1.out
            go_wp2_with fail
            refine (C1.out _ S1.out.bs).mono ?_
            rintro e w2 ⟨rfl, b2⟩
            have S2 := Lib.hid (S1.out.keep b2)
            clear b2 S1 c0 c1 c2 c3
            obtain ⟨⟨-, c0, c1, c2, c3, -, -, -, -, -⟩, -⟩ := S2.out
            go_wp2_with fail
            refine (K5.out _ S2.out.bs).mono ?_
            rintro e w3 ⟨rfl, b2⟩
            have S3 := Lib.hid (S2.out.keep b2)
            clear b2 S2 c0 c1 c2 c3
            obtain ⟨⟨-, c0, c1, c2, c3, -, -, -, -, -⟩, -⟩ := S3.out
            go_wp2_with fail
            refine (K3.out _ S3.out.bs).mono ?_
            rintro e w4 ⟨rfl, b2⟩
            have S4 := Lib.hid (S3.out.keep b2)
            clear b2 S3 c0 c1 c2 c3
            obtain ⟨⟨-, c0, c1, c2, c3, -, -, -, -, -⟩, -⟩ := S4.out
            go_wp2_with fail
            refine (K2.out _ S4.out.bs).mono ?_
            rintro e w5 ⟨rfl, b2⟩
            have S5 := Lib.hid (S4.out.keep b2)
            clear b2 S4 c0 c1 c2 c3
            obtain ⟨⟨-, c0, c1, c2, c3, -, -, -, -, -⟩, -⟩ := S5.out
            go_wp2_with fail
            refine (K1.out _ S5.out.bs).mono ?_
            rintro e w6 ⟨rfl, b2⟩
            have S6 := Lib.hid (S5.out.keep b2)
            clear b2 S5 c0 c1 c2 c3
            obtain ⟨⟨-, c0, c1, c2, c3, -, -, -, -, -⟩, -⟩ := S6.out
            go_wp2_with fail
            refine (K0.out _ S6.out.bs).mono ?_
            rintro e w7 ⟨rfl, b2⟩
            have S7 := Lib.hid (S6.out.keep b2)
            clear b2 S6 c0 c1 c2 c3
            go_wp2_with fail
            refine (awake_any _).mono ?_
            rintro e w9 ⟨rfl, b2⟩
            have S9 := Lib.hid (S7.out.keep b2)
            clear b2 S7
            go_wp2
            go_ret
            exact Ret.mk (by simp) S9.out.bx.below
          · have e2 : decide (16 ≤ d) = true := by simp; omega
            rw [e2] at K2
            rw [V1.out (by omega)] at K1
            rw [V0.out (by omega)] at K0
            rcases Int.lt_or_le d 24 with hd2 | hd2
            · have e3 : decide (24 ≤ d) = false := by simp; omega
              rw [e3] at K3
              clear e3 e2 hd hd2 V1 V0
              obtain ⟨⟨-, c0, c1, c2, c3, -, -, -, -, -⟩, -⟩ := S1.out
              go_wp2_with fail
              refine (C1.out _ S1.out.bs).mono ?_
              rintro e w2 ⟨rfl, b2⟩
              have S2 := Lib.hid (S1.out.keep b2)
              clear b2 S1 c0 c1 c2 c3
              obtain ⟨⟨-, c0, c1, c2, c3, -, -, -, -, -⟩, -⟩ := S2.out
              go_wp2_with fail
              refine (K5.out _ S2.out.bs).mono ?_
              rintro e w3 ⟨rfl, b2⟩
              have S3 := Lib.hid (S2.out.keep b2)
              clear b2 S2 c0 c1 c2 c3
              obtain ⟨⟨-, c0, c1, c2, c3, -, -, -, -, -⟩, -⟩ := S3.out
              go_wp2_with fail
              refine (K3.out _ S3.out.bs).mono ?_
              rintro e w4 ⟨rfl, b2⟩
              have S4 := Lib.hid (S3.out.keep b2)
              clear b2 S3 c0 c1 c2 c3
              obtain ⟨⟨-, c0, c1, c2, c3, -, -, -, -, -⟩, -⟩ := S4.out
              go_wp2_with fail
              refine (K2.out _ S4.out.bs).mono ?_
              rintro e w5 ⟨rfl, b2⟩
              have S5 := Lib.hid (S4.out.keep b2)
              clear b2 S4 c0 c1 c2 c3
              obtain ⟨⟨-, c0, c1, c2, c3, -, -, -, -, -⟩, -⟩ := S5.out
              go_wp2_with fail
              refine (K1.out _ S5.out.bs).mono ?_
              rintro e w6 ⟨rfl, b2⟩
              have S6 := Lib.hid (S5.out.keep b2)
              clear b2 S5 c0 c1 c2 c3
              obtain ⟨⟨-, c0, c1, c2, c3, -, -, -, -, -⟩, -⟩ := S6.out
              go_wp2_with fail
              refine (K0.out _ S6.out.bs).mono ?_
              rintro e w7 ⟨rfl, b2⟩
              have S7 := Lib.hid (S6.out.keep b2)
              clear b2 S6 c0 c1 c2 c3
              go_wp2_with fail
              refine (awake_any _).mono ?_
              rintro e w9 ⟨rfl, b2⟩
              have S9 := Lib.hid (S7.out.keep b2)
              clear b2 S7
              go_wp2
              go_ret
              exact Ret.mk (by simp) S9.out.bx.below
            · have e3 : decide (24 ≤ d) = true := by simp; omega
              rw [e3] at K3
              clear e3 e2 hd hd2 V1 V0
              obtain ⟨⟨-, c0, c1, c2, c3, -, -, -, -, -⟩, -⟩ := S1.out
              go_wp2_with fail
              refine (C1.out _ S1.out.bs).mono ?_
              rintro e w2 ⟨rfl, b2⟩
              have S2 := Lib.hid (S1.out.keep b2)
              clear b2 S1 c0 c1 c2 c3
              obtain ⟨⟨-, c0, c1, c2, c3, -, -, -, -, -⟩, -⟩ := S2.out
              go_wp2_with fail
              refine (K5.out _ S2.out.bs).mono ?_
              rintro e w3 ⟨rfl, b2⟩
              have S3 := Lib.hid (S2.out.keep b2)
              clear b2 S2 c0 c1 c2 c3
              obtain ⟨⟨-, c0, c1, c2, c3, -, -, -, -, -⟩, -⟩ := S3.out
              go_wp2_with fail
              refine (K3.out _ S3.out.bs).mono ?_
              rintro e w4 ⟨rfl, b2⟩
              have S4 := Lib.hid (S3.out.keep b2)
              clear b2 S3 c0 c1 c2 c3
              obtain ⟨⟨-, c0, c1, c2, c3, -, -, -, -, -⟩, -⟩ := S4.out
              go_wp2_with fail
              refine (K2.out _ S4.out.bs).mono ?_
              rintro e w5 ⟨rfl, b2⟩
              have S5 := Lib.hid (S4.out.keep b2)
              clear b2 S4 c0 c1 c2 c3
              obtain ⟨⟨-, c0, c1, c2, c3, -, -, -, -, -⟩, -⟩ := S5.out
              go_wp2_with fail
              refine (K1.out _ S5.out.bs).mono ?_
              rintro e w6 ⟨rfl, b2⟩
              have S6 := Lib.hid (S5.out.keep b2)
              clear b2 S5 c0 c1 c2 c3
              obtain ⟨⟨-, c0, c1, c2, c3, -, -, -, -, -⟩, -⟩ := S6.out
              go_wp2_with fail
              refine (K0.out _ S6.out.bs).mono ?_
              rintro e w7 ⟨rfl, b2⟩
              have S7 := Lib.hid (S6.out.keep b2)
              clear b2 S6 c0 c1 c2 c3
              go_wp2_with fail
              refine (awake_any _).mono ?_
              rintro e w9 ⟨rfl, b2⟩
              have S9 := Lib.hid (S7.out.keep b2)
              clear b2 S7
              go_wp2
              go_ret
              exact Ret.mk (by simp) S9.out.bx.below
        · have C1 := Lib.hid (fun u => open_class W H T cl i j A N c u hk)
          clear V1 V0
          generalize opAt p W T 1 i j = v1 at *
          generalize opAt p W T 0 i j = v0 at *
          generalize decide (24 ≤ d) = v3 at *
          generalize decide (16 ≤ d) = v2 at *
          have hk' : cl < 0 ∨ (¬ cl < 0 ∧ 5 < cl) := by unfold Cls at hk; omega
          clear CE hv hk ho hp
          rcases hk' with k1 | ⟨k1, k2⟩
          · skip
            obtain ⟨⟨-, c0, c1, c2, c3, -, -, -, -, -⟩, -⟩ := S1.out
            go_wp2_with fail
            refine (C1.out _).mono ?_
            rintro e w2 ⟨rfl, b2⟩
            have S2 := Lib.hid (S1.out.keep b2)
            clear b2 S1 c0 c1 c2 c3
            obtain ⟨⟨-, c0, c1, c2, c3, -, -, -, -, -⟩, -⟩ := S2.out
            go_wp2_with fail
            refine (K5.out _ S2.out.bs).mono ?_
            rintro e w3 ⟨rfl, b2⟩
            have S3 := Lib.hid (S2.out.keep b2)
            clear b2 S2 c0 c1 c2 c3
            obtain ⟨⟨-, c0, c1, c2, c3, -, -, -, -, -⟩, -⟩ := S3.out
            go_wp2_with fail
            refine (K3.out _ S3.out.bs).mono ?_
            rintro e w4 ⟨rfl, b2⟩
            have S4 := Lib.hid (S3.out.keep b2)
            clear b2 S3 c0 c1 c2 c3
            obtain ⟨⟨-, c0, c1, c2, c3, -, -, -, -, -⟩, -⟩ := S4.out
            go_wp2_with fail
            refine (K2.out _ S4.out.bs).mono ?_
            rintro e w5 ⟨rfl, b2⟩
            have S5 := Lib.hid (S4.out.keep b2)
            clear b2 S4 c0 c1 c2 c3
            obtain ⟨⟨-, c0, c1, c2, c3, -, -, -, -, -⟩, -⟩ := S5.out
            go_wp2_with fail
            refine (K1.out _ S5.out.bs).mono ?_
            rintro e w6 ⟨rfl, b2⟩
            have S6 := Lib.hid (S5.out.keep b2)
            clear b2 S5 c0 c1 c2 c3
            obtain ⟨⟨-, c0, c1, c2, c3, -, -, -, -, -⟩, -⟩ := S6.out
            go_wp2_with fail
            refine (K0.out _ S6.out.bs).mono ?_
            rintro e w7 ⟨rfl, b2⟩
            have S7 := Lib.hid (S6.out.keep b2)
            clear b2 S6 c0 c1 c2 c3
            go_wp2_with fail
            refine (awake_any _).mono ?_
            rintro e w9 ⟨rfl, b2⟩
            have S9 := Lib.hid (S7.out.keep b2)
            clear b2 S7
            go_wp2
            go_ret
            exact Ret.mk (by simp) S9.out.bx.below
          · skip
            obtain ⟨⟨-, c0, c1, c2, c3, -, -, -, -, -⟩, -⟩ := S1.out
            go_wp2_with fail
            refine (C1.out _).mono ?_
            rintro e w2 ⟨rfl, b2⟩
            have S2 := Lib.hid (S1.out.keep b2)
            clear b2 S1 c0 c1 c2 c3
            obtain ⟨⟨-, c0, c1, c2, c3, -, -, -, -, -⟩, -⟩ := S2.out
            go_wp2_with fail
            refine (K5.out _ S2.out.bs).mono ?_
            rintro e w3 ⟨rfl, b2⟩
            have S3 := Lib.hid (S2.out.keep b2)
            clear b2 S2 c0 c1 c2 c3
            obtain ⟨⟨-, c0, c1, c2, c3, -, -, -, -, -⟩, -⟩ := S3.out
            go_wp2_with fail
            refine (K3.out _ S3.out.bs).mono ?_
            rintro e w4 ⟨rfl, b2⟩
            have S4 := Lib.hid (S3.out.keep b2)
            clear b2 S3 c0 c1 c2 c3
            obtain ⟨⟨-, c0, c1, c2, c3, -, -, -, -, -⟩, -⟩ := S4.out
            go_wp2_with fail
            refine (K2.out _ S4.out.bs).mono ?_
            rintro e w5 ⟨rfl, b2⟩
            have S5 := Lib.hid (S4.out.keep b2)
            clear b2 S4 c0 c1 c2 c3
            obtain ⟨⟨-, c0, c1, c2, c3, -, -, -, -, -⟩, -⟩ := S5.out
            go_wp2_with fail
            refine (K1.out _ S5.out.bs).mono ?_
            rintro e w6 ⟨rfl, b2⟩
            have S6 := Lib.hid (S5.out.keep b2)
            clear b2 S5 c0 c1 c2 c3
            obtain ⟨⟨-, c0, c1, c2, c3, -, -, -, -, -⟩, -⟩ := S6.out
            go_wp2_with fail
            refine (K0.out _ S6.out.bs).mono ?_
            rintro e w7 ⟨rfl, b2⟩
            have S7 := Lib.hid (S6.out.keep b2)
            clear b2 S6 c0 c1 c2 c3
            go_wp2_with fail
            refine (awake_any _).mono ?_
            rintro e w9 ⟨rfl, b2⟩
            have S9 := Lib.hid (S7.out.keep b2)
            clear b2 S7
            go_wp2
            go_ret
            exact Ret.mk (by simp) S9.out.bx.below
    · have CE := Lib.hid (fun (x : Int) (u : World) => open_bad W H T x i j A N c u hM hv)
      clear hv hp
      obtain ⟨⟨-, c0, c1, c2, c3, -, -, -, -, -⟩, -⟩ := S1.out
      go_wp2_with fail
      refine (CE.out cl _).mono ?_
      rintro e w2 ⟨rfl, b2⟩
      have S2 := Lib.hid (S1.out.keep b2)
      clear b2 S1 c0 c1 c2 c3
      obtain ⟨⟨-, c0, c1, c2, c3, -, -, -, -, -⟩, -⟩ := S2.out
      go_wp2_with fail
      refine (CE.out 5 _).mono ?_
      rintro e w3 ⟨rfl, b2⟩
      have S3 := Lib.hid (S2.out.keep b2)
      clear b2 S2 c0 c1 c2 c3
      obtain ⟨⟨-, c0, c1, c2, c3, -, -, -, -, -⟩, -⟩ := S3.out
      go_wp2_with fail
      refine (CE.out 3 _).mono ?_
      rintro e w4 ⟨rfl, b2⟩
      have S4 := Lib.hid (S3.out.keep b2)
      clear b2 S3 c0 c1 c2 c3
      obtain ⟨⟨-, c0, c1, c2, c3, -, -, -, -, -⟩, -⟩ := S4.out
      go_wp2_with fail
      refine (CE.out 2 _).mono ?_
      rintro e w5 ⟨rfl, b2⟩
      have S5 := Lib.hid (S4.out.keep b2)
      clear b2 S4 c0 c1 c2 c3
      obtain ⟨⟨-, c0, c1, c2, c3, -, -, -, -, -⟩, -⟩ := S5.out
      go_wp2_with fail
      refine (CE.out 1 _).mono ?_
      rintro e w6 ⟨rfl, b2⟩
      have S6 := Lib.hid (S5.out.keep b2)
      clear b2 S5 c0 c1 c2 c3
      obtain ⟨⟨-, c0, c1, c2, c3, -, -, -, -, -⟩, -⟩ := S6.out
      go_wp2_with fail
      refine (CE.out 0 _).mono ?_
      rintro e w7 ⟨rfl, b2⟩
      have S7 := Lib.hid (S6.out.keep b2)
      clear b2 S6 c0 c1 c2 c3
      go_wp2_with fail
      refine (awake_any _).mono ?_
      rintro e w9 ⟨rfl, b2⟩
      have S9 := Lib.hid (S7.out.keep b2)
      clear b2 S7
      go_wp2
      go_ret
      exact Ret.mk (by simp) S9.out.bx.below

end Go.Proofs.Ytoikahdffpadoaa
