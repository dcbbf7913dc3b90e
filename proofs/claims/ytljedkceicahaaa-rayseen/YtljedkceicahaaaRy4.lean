/- Contracts of package ray, third part: check, Top, Floor. -/
import Derived.Test.YtljedkceicahaaaRy3
namespace Go.Proofs.Ytljedkceicahaaa
open Go.RowKit Go.Shelf
set_option linter.unusedVariables false

theorem one_cell {u : World} {g : Nat} {x : Int} (h : u.cell? ⟨g, 0, none⟩ = some (.int .i64 x)) : ∀ i, i < 1 → u.cell? ⟨g, i, none⟩ = some (.int .i64 ((fun _ => x) i)) := by
  intro i hi
  have e : i = 0 := by omega
  subst e; exact h
/-- There is such a cell. -/
def InC (W H x y : Int) : Prop := 0 ≤ x ∧ x < W ∧ 0 ≤ y ∧ y < H
instance (W H x y : Int) : Decidable (InC W H x y) := by unfold InC; exact inferInstance

set_option maxHeartbeats 400000 in
theorem rcheck_bad (W H T : Int) (A B : Option Addr) (n c k cB : Nat) (w : World) (hn : n ≤ maxLen) (hv : ¬ Val W H T n) :
    Calls Try.prog 29 #[.agg #[.int .i64 W, .int .i64 H, .int .i64 T, .slice A n c], .slice B k cB] w (Ret (.int .i64 1) w) := by
  have C := Lib.hid (fun u => check_any W H T A n c u hn)
  obtain ⟨x, ex⟩ : ∃ x, chk W H T n = x := ⟨_, rfl⟩
  obtain ⟨k1, k2⟩ := chk_bad hv
  rw [ex] at C k1 k2
  have hx : (x != 0) = true := by simp; omega
  clear hv ex
  go_enter Try.func29, Try.ntmps29
  go_wp2_with fail
  refine (C.out _).mono ?_
  rintro e w1 ⟨rfl, b1⟩
  have B1 := Lib.hid (below_box b1)
  clear b1
  go_wp2
  go_ret
  exact Ret.mk rfl B1.out

/-- What check says of the first k cells. -/
def AllIn (W H : Int) (X Y : Nat → Int) (k : Nat) : Prop := ∀ i, i < k → InC W H (X i) (Y i)
theorem AllIn.one {W H : Int} {X Y : Nat → Int} {k : Nat} (h : AllIn W H X Y k) (g : InC W H (X k) (Y k)) : AllIn W H X Y (k + 1) := by
  intro i hi
  rcases Nat.lt_or_ge i k with hl | hl
  · exact h i hl
  · have e : i = k := by omega
    subst e; exact g

set_option maxHeartbeats 1000000 in
theorem rcheck_ok (W H T : Int) (A : Option Addr) (n c g k cB : Nat) (X Y : Nat → Int) (w : World) (hn : n ≤ maxLen) (hv : Val W H T n) (hk : k ≤ 2)
    (hX : ∀ i, i < k → w.cell? ⟨g, 2 * i, none⟩ = some (.int .i64 (X i))) (hY : ∀ i, i < k → w.cell? ⟨g, 2 * i + 1, none⟩ = some (.int .i64 (Y i))) (z : Int) (hz : (AllIn W H X Y k → z = 0) ∧ (¬ AllIn W H X Y k → z = 4)) :
    Calls Try.prog 29 #[.agg #[.int .i64 W, .int .i64 H, .int .i64 T, .slice A n c], .slice (some ⟨g, 0, none⟩) k cB] w (Ret (.int .i64 z) w) := by
  obtain ⟨hW1, hW2, hH1, hH2, hT, hT2⟩ := hv.s
  have C := Lib.hid (fun u => check_ok W H T A n c u hn hv)
  have HX := Lib.hid hX
  have HY := Lib.hid hY
  have HZ := Lib.hid hz
  have HN := Lib.hid (Bx.new w (.int .i64 W) (.int .i64 H) (.int .i64 T) (.slice A n c) 24)
  clear hv hX hY hz
  go_enter Try.func29, Try.ntmps29
  go_wp2_with fail
  refine (C.out _).mono ?_
  rintro e w1 ⟨rfl, b1⟩
  have X1 := Lib.hid (HN.out.keep b1)
  clear b1 HN
  obtain ⟨-, m0, m1, m2, m3, -, -, -, -, -⟩ := X1.out
  go_wp2
  clear m0 m1 m2 m3
  go_loopw [12] (fun t wr => ∃ j : Nat, j ≤ k ∧ t = .int .i64 (j : Int) ∧ AllIn W H X Y j ∧ Bx w w.heap.size wr (.int .i64 W) (.int .i64 H) (.int .i64 T) (.slice A n c)) (fun t _ => k - (intOf t).toNat)
  case atStart => exact ⟨0, by omega, rfl, fun i hi => by omega, X1.out⟩
  case round =>
    obtain ⟨j, hj, rfl, hu, hx⟩ := hrel
    clear X1
    have X2 := Lib.hid hx
    have HU := Lib.hid hu
    clear hx hu
    by_cases hlt : j < k
    · have hlt' : (j : Int) < (k : Int) := by omega
      have r0 := kc X2.out.below (HX.out j hlt)
      have r1 := kc X2.out.below (HY.out j hlt)
      obtain ⟨x, ex⟩ : ∃ x, X j = x := ⟨_, rfl⟩
      obtain ⟨y, ey⟩ : ∃ y, Y j = y := ⟨_, rfl⟩
      have EX := Lib.hid ex
      have EY := Lib.hid ey
      rw [ex] at r0
      rw [ey] at r1
      have r0' : wr.cell? ⟨g, j * 2, none⟩ = some (.int .i64 x) := by rw [Nat.mul_comm]; exact r0
      have r1' : wr.cell? ⟨g, j * 2 + 1, none⟩ = some (.int .i64 y) := by rw [Nat.mul_comm]; exact r1
      clear ex ey r0 r1
      obtain ⟨W2, hW2⟩ : ∃ W2, wr.alloc (.cells #[.int .i64 x, .int .i64 y] 36) = W2 := ⟨_, rfl⟩
      have X3 : Hid (Bx w w.heap.size W2 (.int .i64 W) (.int .i64 H) (.int .i64 T) (.slice A n c)) := by rw [← hW2]; exact X2.out.keep ((Below.refl _ _).alloc (Nat.le_refl _) _)
      have q0 : W2.cell? ⟨wr.heap.size, 0, none⟩ = some (.int .i64 x) := by rw [← hW2, cell_new _ _ _ _ _ rfl]; rfl
      have q1 : W2.cell? ⟨wr.heap.size, 1, none⟩ = some (.int .i64 y) := by rw [← hW2, cell_new _ _ _ _ _ rfl]; rfl
      obtain ⟨W3, hW3⟩ : ∃ W3, W2.alloc (.cells #[.int .i64 x] 3) = W3 := ⟨_, rfl⟩
      have bel3 : Below W2.heap.size W2 W3 := by rw [← hW3]; exact (Below.refl _ _).alloc (Nat.le_refl _) _
      have X4 := Lib.hid (X3.out.keep bel3)
      have n0 : W3.cell? ⟨W2.heap.size, 0, none⟩ = some (.int .i64 x) := by rw [← hW3, cell_new _ _ _ _ _ rfl]; rfl
      have q2 := kc bel3 q1
      obtain ⟨W4, hW4⟩ : ∃ W4, W3.alloc (.cells #[.int .i64 y] 3) = W4 := ⟨_, rfl⟩
      have X5 : Hid (Bx w w.heap.size W4 (.int .i64 W) (.int .i64 H) (.int .i64 T) (.slice A n c)) := by rw [← hW4]; exact X4.out.keep ((Below.refl _ _).alloc (Nat.le_refl _) _)
      have n1 : W4.cell? ⟨W3.heap.size, 0, none⟩ = some (.int .i64 y) := by rw [← hW4, cell_new _ _ _ _ _ rfl]; rfl
      obtain ⟨-, m0, m1, m2, m3, -, -, -, -, -⟩ := X3.out
      obtain ⟨-, l0, l1, l2, l3, -, -, -, -, -⟩ := X4.out
      clear bel3
      by_cases hx : 0 ≤ x ∧ x ≤ W - 1
      · have U1 := Lib.hid (upTo_yes (W - 1) (fun _ => x) W2.heap.size 1 1 W3 (by decide) (one_cell n0) (fun i hi => hx))
        by_cases hy : 0 ≤ y ∧ y ≤ H - 1
        · have U2 := Lib.hid (upTo_yes (H - 1) (fun _ => y) W3.heap.size 1 1 W4 (by decide) (one_cell n1) (fun i hi => hy))
          have HU2 : Hid (AllIn W H X Y (j + 1)) := HU.out.one (by rw [EX.out, EY.out]; unfold InC; omega)
          clear hx hy n0 n1
          go_wp2_with fail
          refine U1.out.mono ?_
          rintro e w' ⟨rfl, rfl⟩
          go_wp2_with fail
          refine U2.out.mono ?_
          rintro e w' ⟨rfl, rfl⟩
          go_wp2
          go_roundw
          case rel => exact ⟨j + 1, by omega, by go_num, HU2.out, X5.out⟩
          case measure => simp [intOf]; omega
        · have U2 := Lib.hid (upTo_no (H - 1) (fun _ => y) W3.heap.size 1 1 W4 (by decide) (one_cell n1) (fun h => hy (h 0 (by decide))))
          have EZ : Hid (z = 4) := HZ.out.2 (fun h => by have := h j hlt; rw [EX.out, EY.out] at this; unfold InC at this; omega)
          clear hx hy n0 n1
          go_wp2_with fail
          refine U1.out.mono ?_
          rintro e w' ⟨rfl, rfl⟩
          go_wp2_with fail
          refine U2.out.mono ?_
          rintro e w' ⟨rfl, rfl⟩
          go_wp2
          go_ret
          exact Ret.mk (congrArg _ EZ.out.symm) X5.out.below
      · have U1 := Lib.hid (upTo_no (W - 1) (fun _ => x) W2.heap.size 1 1 W3 (by decide) (one_cell n0) (fun h => hx (h 0 (by decide))))
        have EZ : Hid (z = 4) := HZ.out.2 (fun h => by have := h j hlt; rw [EX.out, EY.out] at this; unfold InC at this; omega)
        clear hx n0 n1 hW4 X5
        go_wp2_with fail
        refine U1.out.mono ?_
        rintro e w' ⟨rfl, rfl⟩
        go_wp2
        go_ret
        exact Ret.mk (congrArg _ EZ.out.symm) X4.out.below
    · have hge : ¬ (j : Int) < (k : Int) := by omega
      have e : k = j := by omega
      have EZ : Hid (z = 0) := HZ.out.1 (by rw [e]; exact HU.out)
      clear e
      go_wp2
      go_ret
      exact Ret.mk (congrArg _ EZ.out.symm) X2.out.below

/-- Top and Floor where check refuses. -/
theorem ends_err (W H T i j k : Int) (A : Option Addr) (n c : Nat) (w : World) (hk : (k != 0) = true)
    (C : Hid (∀ u : World, u.cell? ⟨w.heap.size + 1, 0, none⟩ = some (.int .i64 i) → u.cell? ⟨w.heap.size + 1, 1, none⟩ = some (.int .i64 j) → Calls Try.prog 29 #[.agg #[.int .i64 W, .int .i64 H, .int .i64 T, .slice A n c], .slice (some ⟨w.heap.size + 1, 0, none⟩) 1 1] u (Ret (.int .i64 k) u))) :
    Calls Try.prog 15 #[.agg #[.int .i64 W, .int .i64 H, .int .i64 T, .slice A n c], .int .i64 i, .int .i64 j] w (Ret (.tuple #[.int .i64 0, .int .i64 k]) w) ∧
    Calls Try.prog 16 #[.agg #[.int .i64 W, .int .i64 H, .int .i64 T, .slice A n c], .int .i64 i, .int .i64 j] w (Ret (.tuple #[.int .i64 0, .int .i64 k]) w) := by
  constructor
  · go_enter Try.func15, Try.ntmps15
    go_wp2_with fail
    refine (C.out _ (by simp) (by simp)).mono ?_
    rintro e w1 ⟨rfl, b1⟩
    have B1 := Lib.hid (below_box (below_box b1))
    clear b1
    go_wp2
    go_ret2
    exact Ret.mk rfl B1.out
  · go_enter Try.func16, Try.ntmps16
    go_wp2_with fail
    refine (C.out _ (by simp) (by simp)).mono ?_
    rintro e w1 ⟨rfl, b1⟩
    have B1 := Lib.hid (below_box (below_box b1))
    clear b1
    go_wp2
    go_ret2
    exact Ret.mk rfl B1.out

/-- One cell in a row of its own. -/
theorem check_one (W H T i j : Int) (A : Option Addr) (n c g : Nat) (u : World) (hn : n ≤ maxLen) (hv : Val W H T n) (z : Int) (hz : (InC W H i j → z = 0) ∧ (¬ InC W H i j → z = 4))
    (h0 : u.cell? ⟨g, 0, none⟩ = some (.int .i64 i)) (h1 : u.cell? ⟨g, 1, none⟩ = some (.int .i64 j)) :
    Calls Try.prog 29 #[.agg #[.int .i64 W, .int .i64 H, .int .i64 T, .slice A n c], .slice (some ⟨g, 0, none⟩) 1 1] u (Ret (.int .i64 z) u) := by
  refine rcheck_ok W H T A n c g 1 1 (fun _ => i) (fun _ => j) u hn hv (by decide) ?_ ?_ z ⟨fun h => hz.1 (h 0 (by decide)), fun h => hz.2 (fun g => h (fun _ _ => g))⟩
  · intro k hk
    have e : k = 0 := by omega
    subst e; exact h0
  · intro k hk
    have e : k = 0 := by omega
    subst e; exact h1
/-- Two cells in a row of their own. -/
theorem check_two (W H T i j k l : Int) (A : Option Addr) (n c g : Nat) (u : World) (hn : n ≤ maxLen) (hv : Val W H T n) (z : Int) (hz : (InC W H i j ∧ InC W H k l → z = 0) ∧ (¬ (InC W H i j ∧ InC W H k l) → z = 4))
    (h0 : u.cell? ⟨g, 0, none⟩ = some (.int .i64 i)) (h1 : u.cell? ⟨g, 1, none⟩ = some (.int .i64 j)) (h2 : u.cell? ⟨g, 2, none⟩ = some (.int .i64 k)) (h3 : u.cell? ⟨g, 3, none⟩ = some (.int .i64 l)) :
    Calls Try.prog 29 #[.agg #[.int .i64 W, .int .i64 H, .int .i64 T, .slice A n c], .slice (some ⟨g, 0, none⟩) 2 2] u (Ret (.int .i64 z) u) := by
  refine rcheck_ok W H T A n c g 2 2 (fun x => if x = 0 then i else k) (fun x => if x = 0 then j else l) u hn hv (by decide) ?_ ?_ z ⟨fun h => hz.1 ⟨h 0 (by decide), h 1 (by decide)⟩, fun h => hz.2 (fun g => h (fun x hx => ?_))⟩
  · intro x hx
    have e : x = 0 ∨ x = 1 := by omega
    rcases e with rfl | rfl
    · exact h0
    · exact h2
  · intro x hx
    have e : x = 0 ∨ x = 1 := by omega
    rcases e with rfl | rfl
    · exact h1
    · exact h3
  · have e : x = 0 ∨ x = 1 := by omega
    rcases e with rfl | rfl
    · exact g.1
    · exact g.2

set_option maxHeartbeats 400000 in
theorem ends_in (W H T i j : Int) (A : Option Addr) (n c : Nat) (p : Nat → Nat) (w : World) (hn : n ≤ maxLen) (hb : Bs w A n p) (hp : ∀ i, p i < 256) (hv : Val W H T n) (hi : InC W H i j) :
    Calls Try.prog 15 #[.agg #[.int .i64 W, .int .i64 H, .int .i64 T, .slice A n c], .int .i64 i, .int .i64 j] w (Ret (.tuple #[.int .i64 (cHi p W i j), .int .i64 0]) w) ∧
    Calls Try.prog 16 #[.agg #[.int .i64 W, .int .i64 H, .int .i64 T, .slice A n c], .int .i64 i, .int .i64 j] w (Ret (.tuple #[.int .i64 (cLo p W i j), .int .i64 0]) w) := by
  have C := Lib.hid (fun u h0 h1 => check_one W H T i j A n c (w.heap.size + 1) u hn hv 0 ⟨fun _ => rfl, fun h => absurd hi h⟩ h0 h1)
  have T8 := Lib.hid (fun u hb => top8_any W H T i j A n c p u hb hp hv hi.1 hi.2.1 hi.2.2.1 hi.2.2.2)
  have F8 := Lib.hid (fun u hb => floor8_any W H T i j A n c p u hb hp hv hi.1 hi.2.1 hi.2.2.1 hi.2.2.2)
  have HB := Lib.hid hb
  have HX := Lib.hid ((Bx.new w (.int .i64 W) (.int .i64 H) (.int .i64 T) (.slice A n c) 24).keep ((Below.refl _ _).alloc (Nat.le_refl _) (.cells #[.int .i64 i, .int .i64 j] 36)))
  clear hv hb hp hi
  generalize cHi p W i j = hi at *
  generalize cLo p W i j = lo at *
  constructor
  · go_enter Try.func15, Try.ntmps15
    go_wp2_with fail
    refine (C.out _ (by simp) (by simp)).mono ?_
    rintro e w1 ⟨rfl, b1⟩
    have X1 := Lib.hid (HX.out.keep b1)
    clear b1 HX
    obtain ⟨-, m0, m1, m2, m3, -, -, -, -, -⟩ := X1.out
    go_wp2_with fail
    refine (T8.out _ (HB.out.keep X1.out.below)).mono ?_
    rintro e w2 ⟨rfl, b2⟩
    have X2 := Lib.hid (X1.out.keep b2)
    clear b2 m0 m1 m2 m3
    go_wp2
    go_ret2
    exact Ret.mk rfl X2.out.below
  · go_enter Try.func16, Try.ntmps16
    go_wp2_with fail
    refine (C.out _ (by simp) (by simp)).mono ?_
    rintro e w1 ⟨rfl, b1⟩
    have X1 := Lib.hid (HX.out.keep b1)
    clear b1 HX
    obtain ⟨-, m0, m1, m2, m3, -, -, -, -, -⟩ := X1.out
    go_wp2_with fail
    refine (F8.out _ (HB.out.keep X1.out.below)).mono ?_
    rintro e w2 ⟨rfl, b2⟩
    have X2 := Lib.hid (X1.out.keep b2)
    clear b2 m0 m1 m2 m3
    go_wp2
    go_ret2
    exact Ret.mk rfl X2.out.below

end Go.Proofs.Ytljedkceicahaaa
