/- Contracts of package relief, ninth part: Slope, Depth; the reference's Ends and Depth. -/
import Derived.Test.YtljedkceicahaaaRel8
namespace Go.Proofs.Ytljedkceicahaaa
open Go.RowKit
set_option linter.unusedVariables false

/-- The four corners of a cell as a function. -/
def crs (p : Nat → Nat) (W i j : Int) : Nat → Int := four (cr p W i j) (cr p W (i + 1) j) (cr p W i (j + 1)) (cr p W (i + 1) (j + 1))
theorem crs_at (p : Nat → Nat) (W i j : Int) (k : Nat) (hk : k < 4) : crs p W i j k = cr p W (i + (k : Int) % 2) (j + (k : Int) / 2) := by
  have h : k = 0 ∨ k = 1 ∨ k = 2 ∨ k = 3 := by omega
  rcases h with rfl | rfl | rfl | rfl
  · have e1 : i + ((0 : Nat) : Int) % 2 = i := by omega
    have e2 : j + ((0 : Nat) : Int) / 2 = j := by omega
    rw [e1, e2]; rfl
  · have e1 : i + ((1 : Nat) : Int) % 2 = i + 1 := by omega
    have e2 : j + ((1 : Nat) : Int) / 2 = j := by omega
    rw [e1, e2]; rfl
  · have e1 : i + ((2 : Nat) : Int) % 2 = i := by omega
    have e2 : j + ((2 : Nat) : Int) / 2 = j + 1 := by omega
    rw [e1, e2]; rfl
  · have e1 : i + ((3 : Nat) : Int) % 2 = i + 1 := by omega
    have e2 : j + ((3 : Nat) : Int) / 2 = j + 1 := by omega
    rw [e1, e2]; rfl
/-- A cell's least and greatest corner. -/
def cLo (p : Nat → Nat) (W i j : Int) : Int := lo4 (cr p W i j) (cr p W (i + 1) j) (cr p W i (j + 1)) (cr p W (i + 1) (j + 1))
def cHi (p : Nat → Nat) (W i j : Int) : Int := hi4 (cr p W i j) (cr p W (i + 1) j) (cr p W i (j + 1)) (cr p W (i + 1) (j + 1))
theorem cLo_bd {p : Nat → Nat} (hp : ∀ i, p i < 256) (W i j : Int) : 0 ≤ cLo p W i j ∧ cLo p W i j ≤ 255 := by
  have h := lo4_bd (cr_bd hp W i j).1 (cr_bd hp W i j).2 (cr_bd hp W (i + 1) j).1 (cr_bd hp W i (j + 1)).1 (cr_bd hp W (i + 1) (j + 1)).1
  exact ⟨h.1, h.2.1⟩
theorem cHi_bd {p : Nat → Nat} (hp : ∀ i, p i < 256) (W i j : Int) : 0 ≤ cHi p W i j ∧ cHi p W i j ≤ 255 := by
  have h := hi4_bd (cr_bd hp W i j).1 (cr_bd hp W i j).2 (cr_bd hp W (i + 1) j).2 (cr_bd hp W i (j + 1)).2 (cr_bd hp W (i + 1) (j + 1)).2
  exact ⟨h.1, h.2.1⟩

/-- The four cells of a box, as a function's values. -/
theorem bx_four {w X : World} {g : Nat} {a b c d : Int} (h : Bx w g X (.int .i64 a) (.int .i64 b) (.int .i64 c) (.int .i64 d)) : ∀ i, i < 4 → X.cell? ⟨g, i, none⟩ = some (.int .i64 (four a b c d i)) := by
  intro i hi
  match i, hi with
  | 0, _ => exact h.c0
  | 1, _ => exact h.c1
  | 2, _ => exact h.c2
  | 3, _ => exact h.c3

set_option maxHeartbeats 1000000 in
theorem refEnds_any (W H T i j : Int) (A : Option Addr) (n c : Nat) (p : Nat → Nat) (w : World) (hb : Bs w A n p) (hp : ∀ i, p i < 256) (hv : Val W H T n) (i0 : 0 ≤ i) (i1 : i < W) (j0 : 0 ≤ j) (j1 : j < H) :
    Calls Try.prog 19 #[.agg #[.int .i64 W, .int .i64 H, .int .i64 T, .slice A n c], .int .i64 i, .int .i64 j] w (Ret (.tuple #[.int .i64 (cLo p W i j), .int .i64 (cHi p W i j)]) w) := by
  obtain ⟨hW1, hW2, hH1, hH2, hT, hT2⟩ := hv.s
  have HC : Hid (∀ (k : Nat) (x y : Int) (u : World), k < 4 → x = i + (k : Int) % 2 → y = j + (k : Int) / 2 → Bs u A n p → Calls Try.prog 32 #[.agg #[.int .i64 W, .int .i64 H, .int .i64 T, .slice A n c], .int .i64 x, .int .i64 y] u (Ret (.int .i64 (crs p W i j k)) u)) := by
    intro k x y u hk hx hy hu
    rw [crs_at p W i j k hk]
    subst hx hy
    exact refCorner_any W H T _ _ A n c p u hu hp hv (by omega) (by omega) (by omega) (by omega)
  have L := Lib.hid (show rmin (crs p W i j) 4 = cLo p W i j from rfl)
  have G := Lib.hid (show rmax (crs p W i j) 4 = cHi p W i j from rfl)
  have HB := Lib.hid hb
  have i2 : i ≤ 64 := by omega
  have j2 : j ≤ 64 := by omega
  clear hv hb hp
  generalize cLo p W i j = lo at *
  generalize cHi p W i j = hi at *
  generalize crs p W i j = f at *
  have HX := Lib.hid (Bx.new w (.int .i64 W) (.int .i64 H) (.int .i64 T) (.slice A n c) 24)
  go_enter Try.func19, Try.ntmps19
  go_wp2
  go_loopw [8, 9, 10] (fun r s t wr => ∃ k : Nat, k ≤ 4 ∧ t = .int .i64 (k : Int) ∧ r = .int .i64 (rmin f k) ∧ s = .int .i64 (rmax f k) ∧ Bx w w.heap.size wr (.int .i64 W) (.int .i64 H) (.int .i64 T) (.slice A n c)) (fun _ _ t _ => 4 - (intOf t).toNat)
  case atStart => exact ⟨0, by omega, rfl, rfl, rfl, HX.out⟩
  case round =>
    obtain ⟨k, hk, rfl, rfl, rfl, hX⟩ := hrel
    clear HX
    have X1 := Lib.hid hX
    obtain ⟨_, c0, c1, c2, c3, _, _, _, _, _⟩ := hX
    by_cases hlt : k < 4
    · have hlt' : (k : Int) < 4 := by omega
      have S1 : Hid (rmin f (k + 1) = min (rmin f k) (f k)) := rfl
      have S2 : Hid (rmax f (k + 1) = max (rmax f k) (f k)) := rfl
      generalize rmin f k = m at *
      generalize rmax f k = M at *
      go_wp2_with fail
      refine (HC.out k _ _ _ hlt ?_ ?_ (HB.out.keep X1.out.below)).mono ?_
      · first | rfl | omega
      · first | rfl | omega
      rintro e w1 ⟨rfl, b1⟩
      have X2 := Lib.hid (X1.out.keep b1)
      clear b1 X1 c0 c1 c2 c3 HC
      generalize f k = v at *
      by_cases hm : v < m
      · have E1 : Hid (rmin f (k + 1) = v) := by show _ = _; rw [S1.out]; omega
        by_cases hM : M < v
        · have E2 : Hid (rmax f (k + 1) = v) := by show _ = _; rw [S2.out]; omega
          go_wp2
          go_roundw
          case rel => exact ⟨k + 1, by omega, by go_num, congrArg (Value.int .i64) E1.out.symm, congrArg (Value.int .i64) E2.out.symm, X2.out⟩
          case measure => simp [intOf]; omega
        · have E2 : Hid (rmax f (k + 1) = M) := by show _ = _; rw [S2.out]; omega
          go_wp2
          go_roundw
          case rel => exact ⟨k + 1, by omega, by go_num, congrArg (Value.int .i64) E1.out.symm, congrArg (Value.int .i64) E2.out.symm, X2.out⟩
          case measure => simp [intOf]; omega
      · have E1 : Hid (rmin f (k + 1) = m) := by show _ = _; rw [S1.out]; omega
        by_cases hM : M < v
        · have E2 : Hid (rmax f (k + 1) = v) := by show _ = _; rw [S2.out]; omega
          go_wp2
          go_roundw
          case rel => exact ⟨k + 1, by omega, by go_num, congrArg (Value.int .i64) E1.out.symm, congrArg (Value.int .i64) E2.out.symm, X2.out⟩
          case measure => simp [intOf]; omega
        · have E2 : Hid (rmax f (k + 1) = M) := by show _ = _; rw [S2.out]; omega
          go_wp2
          go_roundw
          case rel => exact ⟨k + 1, by omega, by go_num, congrArg (Value.int .i64) E1.out.symm, congrArg (Value.int .i64) E2.out.symm, X2.out⟩
          case measure => simp [intOf]; omega
    · have e : k = 4 := by omega
      have E1 : Hid (rmin f k = lo) := by show _ = _; rw [e]; exact L.out
      have E2 : Hid (rmax f k = hi) := by show _ = _; rw [e]; exact G.out
      clear e HC
      have hge : ¬ (k : Int) < 4 := by omega
      go_wp2
      go_ret2
      exact Ret.mk (two_eq E1.out E2.out) X1.out.below

end Go.Proofs.Ytljedkceicahaaa
