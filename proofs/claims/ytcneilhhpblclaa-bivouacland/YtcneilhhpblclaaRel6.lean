/- Contracts of package relief, sixth part: Height. -/
import Derived.Test.YtcneilhhpblclaaRel5
import Derived.Deep.DeepCutAuto
namespace Go.Proofs.Ytcneilhhpblclaa
open Go.RowKit
set_option linter.unusedVariables false

theorem four_far {w : World} {B b i : Nat} {v x y z u : Value} (hne : b ≠ B) (h : w.cell? ⟨b, i, none⟩ = some v) : ((((w.setCell ⟨B, 0, none⟩ x).setCell ⟨B, 1, none⟩ y).setCell ⟨B, 2, none⟩ z).setCell ⟨B, 3, none⟩ u).cell? ⟨b, i, none⟩ = some v :=
  cell_far (cell_far (cell_far (cell_far h (.inl (Ne.symm hne))) (.inl (Ne.symm hne))) (.inl (Ne.symm hne))) (.inl (Ne.symm hne))
theorem Bs.drew {w : World} {A : Option Addr} {n : Nat} {p : Nat → Nat} (h : Bs w A n p) : Bs w.drew A n p := h

set_option maxHeartbeats 1000000 in
theorem height_bad (W H T x y : Int) (A : Option Addr) (n c : Nat) (w : World) (hn : n ≤ maxLen) (hv : ¬ Val W H T n) :
    Calls Try.prog 22 #[.agg #[.int .i64 W, .int .i64 H, .int .i64 T, .slice A n c], .int .i64 x, .int .i64 y] w (Ret (.tuple #[.int .i64 0, .int .i64 1]) w) := by
  have C := Lib.hid (fun u => check_any W H T A n c u hn)
  obtain ⟨k, ek⟩ : ∃ k, chk W H T n = k := ⟨_, rfl⟩
  obtain ⟨k1, k2⟩ := chk_bad hv
  rw [ek] at C k1 k2
  have hk : (k != 0) = true := by simp; omega
  clear hv ek
  go_enter Try.func22, Try.ntmps22
  go_wp2_with fail
  refine (C.out _).mono ?_
  rintro e w1 ⟨rfl, b1⟩
  have B1 := Lib.hid (below_box b1)
  clear b1
  go_wp2
  go_ret2
  exact Ret.mk rfl B1.out

set_option maxHeartbeats 1000000 in
theorem height_out (W H T x y : Int) (A : Option Addr) (n c : Nat) (w : World) (hn : n ≤ maxLen) (hv : Val W H T n) (ho : ¬ On W H x y) :
    Calls Try.prog 22 #[.agg #[.int .i64 W, .int .i64 H, .int .i64 T, .slice A n c], .int .i64 x, .int .i64 y] w (Ret (.tuple #[.int .i64 0, .int .i64 4]) w) := by
  have C := Lib.hid (fun u => check_ok W H T A n c u hn hv)
  have I := Lib.hid (fun u => inside_out W H T x y A n c u hv.s ho)
  clear hv ho
  go_enter Try.func22, Try.ntmps22
  go_wp2_with fail
  refine (C.out _).mono ?_
  rintro e w1 ⟨rfl, b1⟩
  have X1 := Lib.hid ((Bx.new w (.int .i64 W) (.int .i64 H) (.int .i64 T) (.slice A n c) 30).keep b1)
  clear b1
  obtain ⟨_, c0, c1, c2, c3, _, _, _, _, _⟩ := X1.out
  go_wp2_with fail
  refine (I.out _).mono ?_
  rintro e w2 ⟨rfl, b1⟩
  have X2 := Lib.hid (X1.out.keep b1)
  clear b1 X1 c0 c1 c2 c3
  go_wp2
  go_ret2
  exact Ret.mk rfl X2.out.below

set_option maxHeartbeats 2000000 in
theorem height_in (W H T x y : Int) (A : Option Addr) (n c : Nat) (p : Nat → Nat) (w : World) (hn : n ≤ maxLen) (hb : Bs w A n p) (hp : ∀ i, p i < 256) (hv : Val W H T n) (ho : On W H x y) :
    Calls Try.prog 22 #[.agg #[.int .i64 W, .int .i64 H, .int .i64 T, .slice A n c], .int .i64 x, .int .i64 y] w (Ret (.tuple #[.int .i64 (hAt p W x y), .int .i64 0]) w) := by
  obtain ⟨i0, i1, j0, j1, u0, u1, v0, v1⟩ := on_cell ho
  have C := Lib.hid (fun u => check_ok W H T A n c u hn hv)
  have I := Lib.hid (fun u => inside_in W H T x y A n c u hv.s ho)
  have K := Lib.hid (fun u hb => cornersOf_any W H T (x / 65536) (y / 65536) A n c p u hb hp hv i0 i1 j0 j1)
  have HB := Lib.hid hb
  have HE : Hid (hAt p W x y = hgt (cr p W (x / 65536) (y / 65536)) (cr p W (x / 65536 + 1) (y / 65536)) (cr p W (x / 65536) (y / 65536 + 1)) (cr p W (x / 65536 + 1) (y / 65536 + 1)) (x % 65536) (y % 65536)) := rfl
  obtain ⟨p1, p2⟩ := cr_bd hp W (x / 65536) (y / 65536)
  obtain ⟨p3, p4⟩ := cr_bd hp W (x / 65536 + 1) (y / 65536)
  obtain ⟨p5, p6⟩ := cr_bd hp W (x / 65536) (y / 65536 + 1)
  obtain ⟨p7, p8⟩ := cr_bd hp W (x / 65536 + 1) (y / 65536 + 1)
  clear hb hv ho hp
  generalize cr p W (x / 65536) (y / 65536) = ca at *
  generalize cr p W (x / 65536 + 1) (y / 65536) = cb at *
  generalize cr p W (x / 65536) (y / 65536 + 1) = cc at *
  generalize cr p W (x / 65536 + 1) (y / 65536 + 1) = cd at *
  generalize hAt p W x y = R at *
  go_enter Try.func22, Try.ntmps22
  go_wp2_with fail
  refine (C.out _).mono ?_
  rintro e w1 ⟨rfl, b1⟩
  have X1 := Lib.hid ((Bx.new w (.int .i64 W) (.int .i64 H) (.int .i64 T) (.slice A n c) 30).keep b1)
  clear b1
  obtain ⟨_, c0, c1, c2, c3, _, _, _, _, _⟩ := X1.out
  go_wp2_with fail
  refine (I.out _).mono ?_
  rintro e w2 ⟨rfl, b1⟩
  have X2 := Lib.hid (X1.out.keep b1)
  clear b1 X1 c0 c1 c2 c3
  obtain ⟨_, c0, c1, c2, c3, _, _, _, _, _⟩ := X2.out
  go_wp2_with fail
  have hne : w.heap.size ≠ w2.heap.size := by have := World.block_lt_of_cell? w2 _ c0; simp at this; omega
  go_cut [8] (fun s8 wx => ∃ g : Nat, s8 = .pointer (some ⟨g, 0, none⟩) ∧ Bx w g wx (.int .i64 ca) (.int .i64 cb) (.int .i64 cc) (.int .i64 cd))
  case first =>
    go_region_held3 (fun w' => w'.cell? ⟨w.heap.size, 0, none⟩ = some (.int .i64 W) ∧ w'.cell? ⟨w.heap.size, 1, none⟩ = some (.int .i64 H) ∧ w'.cell? ⟨w.heap.size, 2, none⟩ = some (.int .i64 T) ∧ w'.cell? ⟨w.heap.size, 3, none⟩ = some (.slice A n c))
      (go_keep)
      (first
        | (go_at_call 34; refine (whole_any _ _).mono ?_; rintro e w' ⟨rfl, rfl⟩)
        | (go_at_call 33; ((with_reducible refine (K.out w2.drew (HB.out.keep X2.out.below.drew)).mono ?_)); rintro e w3 ⟨rfl, b3⟩; have XS := Lib.hid (X2.out.drew.keep b3); clear b3; obtain ⟨_, c0, c1, c2, c3, _, _, _, _, _⟩ := XS.out)
        | (go_at_call 33; ((with_reducible refine (K.out (w2.alloc (.cells #[.int .i64 0, .int .i64 0, .int .i64 0, .int .i64 0] 61)).drew (HB.out.keep (X2.out.below.alloc X2.out.below.size _).drew)).mono ?_)); rintro e w3 ⟨rfl, b3⟩; have XS := Lib.hid ((X2.out.keep ((Below.refl _ _).alloc (Nat.le_refl _) _)).drew.keep b3); have XN := Lib.hid ((Bx.next X2.out.below (.int .i64 0) (.int .i64 0) (.int .i64 0) (.int .i64 0) 61).drew.keep b3); clear b3; obtain ⟨_, c0, c1, c2, c3, _, _, _, _, _⟩ := XS.out; obtain ⟨_, d0, d1, d2, d3, g0, g1, g2, g3, _⟩ := XN.out; have m0 := fun x y z u => four_far (x := x) (y := y) (z := z) (u := u) hne c0; have m1 := fun x y z u => four_far (x := x) (y := y) (z := z) (u := u) hne c1; have m2 := fun x y z u => four_far (x := x) (y := y) (z := z) (u := u) hne c2; have m3 := fun x y z u => four_far (x := x) (y := y) (z := z) (u := u) hne c3))
    all_goals (go_wp2_with fail; go_meet)
    all_goals (first | exact ⟨w3.heap.size, rfl, Bx.next XS.out.below _ _ _ _ _⟩ | exact ⟨w2.heap.size, rfl, XN.out.put _ _ _ _⟩)
  case rest =>
    obtain ⟨g, rfl, hX⟩ := hcut
    clear C I K HB X2 c0 c1 c2 c3 hne
    have X3 := Lib.hid hX
    obtain ⟨_, c0, c1, c2, c3, _, _, _, _, _⟩ := X3.out
    clear hX
    go_wp2_with fail
    go_region_held3 (fun w' => w'.cell? ⟨g, 0, none⟩ = some (.int .i64 ca) ∧ w'.cell? ⟨g, 1, none⟩ = some (.int .i64 cb) ∧ w'.cell? ⟨g, 2, none⟩ = some (.int .i64 cc) ∧ w'.cell? ⟨g, 3, none⟩ = some (.int .i64 cd))
      (go_keep)
      (first
        | (go_at_call 36; refine (part_any _ _).mono ?_; rintro e w' ⟨rfl, rfl⟩)
        | (go_at_call 35; ((with_reducible refine (between_any ca cb cc cd (x % 65536) (y % 65536) _ p1 p2 p3 p4 p5 p6 p7 p8 u0 u1 v0 v1).mono ?_)); rintro e w4 ⟨rfl, b4⟩; have XS := Lib.hid (X3.out.drew.keep b4); clear b4; obtain ⟨_, c0, c1, c2, c3, _, _, _, _, _⟩ := XS.out))
    go_wp2
    go_ret2
    exact Ret.mk (two_eq HE.out.symm rfl) XS.out.below

end Go.Proofs.Ytcneilhhpblclaa
