/- Contracts of package relief, fifth part: the reference's Height, and the program's. -/
import Derived.Test.YthfnmgpeekjjoaaRel4
import Derived.Deep.RegionHeld3
namespace Go.Proofs.Ythfnmgpeekjjoaa
open Go.RowKit
set_option linter.unusedVariables false

/-- The height of a place. -/
def hAt (p : Nat → Nat) (W x y : Int) : Int :=
  hgt (cr p W (x / 65536) (y / 65536)) (cr p W (x / 65536 + 1) (y / 65536)) (cr p W (x / 65536) (y / 65536 + 1)) (cr p W (x / 65536 + 1) (y / 65536 + 1)) (x % 65536) (y % 65536)

/-- A place's cell, and its parts. -/
theorem on_cell {W H x y : Int} (h : On W H x y) : 0 ≤ x / 65536 ∧ x / 65536 < W ∧ 0 ≤ y / 65536 ∧ y / 65536 < H ∧ 0 ≤ x % 65536 ∧ x % 65536 < 65536 ∧ 0 ≤ y % 65536 ∧ y % 65536 < 65536 := by
  unfold On at h
  omega

set_option maxHeartbeats 1000000 in
theorem refHeight_any (W H T x y : Int) (A : Option Addr) (n c : Nat) (p : Nat → Nat) (w : World) (hb : Bs w A n p) (hp : ∀ i, p i < 256) (hv : Val W H T n) (ho : On W H x y) :
    Calls Try.prog 16 #[.agg #[.int .i64 W, .int .i64 H, .int .i64 T, .slice A n c], .int .i64 x, .int .i64 y] w (Ret (.int .i64 (hAt p W x y)) w) := by
  obtain ⟨i0, i1, j0, j1, u0, u1, v0, v1⟩ := on_cell ho
  have x0 : 0 ≤ x := ho.1
  have y0 : 0 ≤ y := ho.2.2.1
  clear ho
  unfold hAt
  obtain ⟨i, ei⟩ : ∃ i, x / 65536 = i := ⟨_, rfl⟩
  obtain ⟨j, ej⟩ : ∃ j, y / 65536 = j := ⟨_, rfl⟩
  obtain ⟨u, eu⟩ : ∃ u, x % 65536 = u := ⟨_, rfl⟩
  obtain ⟨v, ev⟩ : ∃ v, y % 65536 = v := ⟨_, rfl⟩
  rw [ei] at i0 i1; rw [ej] at j0 j1; rw [eu] at u0 u1; rw [ev] at v0 v1
  rw [ei, ej, eu, ev]
  obtain ⟨hW1, hW2, hH1, hH2, hT, hT2⟩ := hv.s
  have iW : i ≤ 64 := by omega
  have jH : j ≤ 64 := by omega
  obtain ⟨a0, a1⟩ := cr_bd hp W i j
  obtain ⟨b0, b1⟩ := cr_bd hp W (i + 1) j
  obtain ⟨c0', c1'⟩ := cr_bd hp W i (j + 1)
  obtain ⟨d0, d1⟩ := cr_bd hp W (i + 1) (j + 1)
  have CA := Lib.hid (fun u hb => refCorner_any W H T i j A n c p u hb hp hv i0 (by omega) j0 (by omega))
  have CB := Lib.hid (fun u hb => refCorner_any W H T (i + 1) j A n c p u hb hp hv (by omega) (by omega) j0 (by omega))
  have CC := Lib.hid (fun u hb => refCorner_any W H T i (j + 1) A n c p u hb hp hv i0 (by omega) (by omega) (by omega))
  have CD := Lib.hid (fun u hb => refCorner_any W H T (i + 1) (j + 1) A n c p u hb hp hv (by omega) (by omega) (by omega) (by omega))
  have HB := Lib.hid hb
  clear hb hp hv
  generalize cr p W i j = ca at *
  generalize cr p W (i + 1) j = cb at *
  generalize cr p W i (j + 1) = cc at *
  generalize cr p W (i + 1) (j + 1) = cd at *
  obtain ⟨e1, e2⟩ := prod_bd a0 a1 (show 0 ≤ 65536 - u by omega) (show 65536 - u ≤ 65536 by omega)
  obtain ⟨e3, e4⟩ := prod_bd b0 b1 u0 (show u ≤ 65536 by omega)
  obtain ⟨e5, e6⟩ := prod_bd c0' c1' (show 0 ≤ 65536 - u by omega) (show 65536 - u ≤ 65536 by omega)
  obtain ⟨e7, e8⟩ := prod_bd d0 d1 u0 (show u ≤ 65536 by omega)
  obtain ⟨f1, f2⟩ := prod_bd e1 e2 (show 0 ≤ 65536 - v by omega) (show 65536 - v ≤ 65536 by omega)
  obtain ⟨f3, f4⟩ := prod_bd e3 e4 (show 0 ≤ 65536 - v by omega) (show 65536 - v ≤ 65536 by omega)
  obtain ⟨f5, f6⟩ := prod_bd e5 e6 v0 (show v ≤ 65536 by omega)
  obtain ⟨f7, f8⟩ := prod_bd e7 e8 v0 (show v ≤ 65536 by omega)
  have HE : Hid (hgt ca cb cc cd u v = (ca * (65536 - u) * (65536 - v) + cb * u * (65536 - v) + cc * (65536 - u) * v + cd * u * v) / 65536) := by
    show _ = _
    rw [hgt_sum]
    rfl
  generalize hgt ca cb cc cd u v = R at *
  have HX := Lib.hid (Bx.new w (.int .i64 W) (.int .i64 H) (.int .i64 T) (.slice A n c) 24)
  go_enter Try.func16, Try.ntmps16
  go_wp2_with fail
  refine (CA.out _ (HB.out.keep HX.out.below)).mono ?_
  rintro e w1 ⟨rfl, b1⟩
  have X1 := Lib.hid (HX.out.keep b1)
  clear b1 HX
  obtain ⟨_, c0, c1, c2, c3, _, _, _, _, _⟩ := X1.out
  go_wp2_with fail
  refine (CB.out _ (HB.out.keep X1.out.below)).mono ?_
  rintro e w2 ⟨rfl, b1⟩
  have X2 := Lib.hid (X1.out.keep b1)
  clear b1 X1 c0 c1 c2 c3
  obtain ⟨_, c0, c1, c2, c3, _, _, _, _, _⟩ := X2.out
  go_wp2_with fail
  refine (CC.out _ (HB.out.keep X2.out.below)).mono ?_
  rintro e w3 ⟨rfl, b1⟩
  have X3 := Lib.hid (X2.out.keep b1)
  clear b1 X2 c0 c1 c2 c3
  obtain ⟨_, c0, c1, c2, c3, _, _, _, _, _⟩ := X3.out
  go_wp2_with fail
  refine (CD.out _ (HB.out.keep X3.out.below)).mono ?_
  rintro e w4 ⟨rfl, b1⟩
  have X4 := Lib.hid (X3.out.keep b1)
  clear b1 X3 c0 c1 c2 c3
  go_wp2
  go_ret
  exact Ret.mk (congrArg (Value.int .i64) HE.out.symm) X4.out.below

end Go.Proofs.Ythfnmgpeekjjoaa
