/- Contracts of package relief, ninth part: Slope, Depth; the reference's Ends and Depth. -/
import Derived.Test.YtcipedijjemghaaDoorRel8
namespace Go.Proofs.YtcipedijjemghaaDoor
open Go.RowKit
set_option linter.unusedVariables false

/-- The four corners of a cell as a function. -/
def crs (p : Nat → Nat) (W i j : Int) : Nat → Int := four (cr p W i j) (cr p W (i + 1) j) (cr p W i (j + 1)) (cr p W (i + 1) (j + 1))
theorem crs_at (p : Nat → Nat) (W i j : Int) (k : Nat) (hk : k < 4) : crs p W i j k = cr p W (i + (k : Int) % 2) (j + (k : Int) / 2) := by
  have h : k = 0 ∨ k = 1 ∨ k = 2 ∨ k = 3 := by omega
  rcases h with rfl | rfl | rfl | rfl
  · have e1 : i + ((0 : Nat) : Int) % 2 = i := by omega
    have e2 : j + ((0 : Nat) : Int) / 2 = j := by omega
    rw [e1, e2]; rfl
  · have e1 : i + ((1 : Nat) : Int) % 2 = i + 1 := by omega
    have e2 : j + ((1 : Nat) : Int) / 2 = j := by omega
    rw [e1, e2]; rfl
  · have e1 : i + ((2 : Nat) : Int) % 2 = i := by omega
    have e2 : j + ((2 : Nat) : Int) / 2 = j + 1 := by omega
    rw [e1, e2]; rfl
  · have e1 : i + ((3 : Nat) : Int) % 2 = i + 1 := by omega
    have e2 : j + ((3 : Nat) : Int) / 2 = j + 1 := by omega
    rw [e1, e2]; rfl
/-- A cell's least and greatest corner. -/
def cLo (p : Nat → Nat) (W i j : Int) : Int := lo4 (cr p W i j) (cr p W (i + 1) j) (cr p W i (j + 1)) (cr p W (i + 1) (j + 1))
def cHi (p : Nat → Nat) (W i j : Int) : Int := hi4 (cr p W i j) (cr p W (i + 1) j) (cr p W i (j + 1)) (cr p W (i + 1) (j + 1))
theorem cLo_bd {p : Nat → Nat} (hp : ∀ i, p i < 256) (W i j : Int) : 0 ≤ cLo p W i j ∧ cLo p W i j ≤ 255 := by
  have h := lo4_bd (cr_bd hp W i j).1 (cr_bd hp W i j).2 (cr_bd hp W (i + 1) j).1 (cr_bd hp W i (j + 1)).1 (cr_bd hp W (i + 1) (j + 1)).1
  exact ⟨h.1, h.2.1⟩
theorem cHi_bd {p : Nat → Nat} (hp : ∀ i, p i < 256) (W i j : Int) : 0 ≤ cHi p W i j ∧ cHi p W i j ≤ 255 := by
  have h := hi4_bd (cr_bd hp W i j).1 (cr_bd hp W i j).2 (cr_bd hp W (i + 1) j).2 (cr_bd hp W i (j + 1)).2 (cr_bd hp W (i + 1) (j + 1)).2
  exact ⟨h.1, h.2.1⟩

set_option maxHeartbeats 1000000 in
theorem slope_err (W H T i j k : Int) (A : Option Addr) (n c : Nat) (w : World) (hk : (k != 0) = true)
    (C : Hid (∀ u, Calls Tryd.prog 47 #[.agg #[.int .i64 W, .int .i64 H, .int .i64 T, .slice A n c], .int .i64 i, .int .i64 j] u (Ret (.tuple #[.agg #[.int .i64 0, .int .i64 0, .int .i64 0, .int .i64 0], .int .i64 k]) u))) :
    Calls Tryd.prog 35 #[.agg #[.int .i64 W, .int .i64 H, .int .i64 T, .slice A n c], .int .i64 i, .int .i64 j] w (Ret (.tuple #[.int .i64 0, .int .i64 k]) w) := by
  go_enter Tryd.func35, Tryd.ntmps35
  go_wp2_with fail
  refine (C.out _).mono ?_
  rintro e w1 ⟨rfl, b1⟩
  have B1 := Lib.hid (below_box b1)
  clear b1
  go_wp2
  go_ret2
  exact Ret.mk rfl (B1.out.alloc B1.out.size _)

set_option maxHeartbeats 1000000 in
theorem depth_err (W H T i j k : Int) (A : Option Addr) (n c : Nat) (w : World) (hk : (k != 0) = true)
    (C : Hid (∀ u, Calls Tryd.prog 47 #[.agg #[.int .i64 W, .int .i64 H, .int .i64 T, .slice A n c], .int .i64 i, .int .i64 j] u (Ret (.tuple #[.agg #[.int .i64 0, .int .i64 0, .int .i64 0, .int .i64 0], .int .i64 k]) u))) :
    Calls Tryd.prog 36 #[.agg #[.int .i64 W, .int .i64 H, .int .i64 T, .slice A n c], .int .i64 i, .int .i64 j] w (Ret (.tuple #[.int .i64 0, .int .i64 k]) w) := by
  go_enter Tryd.func36, Tryd.ntmps36
  go_wp2_with fail
  refine (C.out _).mono ?_
  rintro e w1 ⟨rfl, b1⟩
  have B1 := Lib.hid (below_box b1)
  clear b1
  go_wp2
  go_ret2
  exact Ret.mk rfl (B1.out.alloc B1.out.size _)

/-- The four cells of a box, as a function's values. -/
theorem bx_four {w X : World} {g : Nat} {a b c d : Int} (h : Bx w g X (.int .i64 a) (.int .i64 b) (.int .i64 c) (.int .i64 d)) : ∀ i, i < 4 → X.cell? ⟨g, i, none⟩ = some (.int .i64 (four a b c d i)) := by
  intro i hi
  match i, hi with
  | 0, _ => exact h.c0
  | 1, _ => exact h.c1
  | 2, _ => exact h.c2
  | 3, _ => exact h.c3

set_option maxHeartbeats 1000000 in
theorem slope_in (W H T i j : Int) (A : Option Addr) (n c : Nat) (p : Nat → Nat) (w : World) (hn : n ≤ maxLen) (hb : Bs w A n p) (hp : ∀ i, p i < 256) (hv : Val W H T n) (i0 : 0 ≤ i) (i1 : i < W) (j0 : 0 ≤ j) (j1 : j < H) :
    Calls Tryd.prog 35 #[.agg #[.int .i64 W, .int .i64 H, .int .i64 T, .slice A n c], .int .i64 i, .int .i64 j] w (Ret (.tuple #[.int .i64 (cHi p W i j - cLo p W i j), .int .i64 0]) w) := by
  have C := Lib.hid (fun u hb => cell_in W H T i j A n c p u hn hb hp hv i0 i1 j0 j1)
  obtain ⟨l0, l1⟩ := cLo_bd hp W i j
  obtain ⟨h0, h1⟩ := cHi_bd hp W i j
  have HB := Lib.hid hb
  unfold cLo at l0 l1 ⊢
  unfold cHi at h0 h1 ⊢
  clear hv hb hp
  generalize cr p W i j = ca at *
  generalize cr p W (i + 1) j = cb at *
  generalize cr p W i (j + 1) = cc at *
  generalize cr p W (i + 1) (j + 1) = cd at *
  have L := Lib.hid (rmin4 ca cb cc cd)
  have G := Lib.hid (rmax4 ca cb cc cd)
  generalize lo4 ca cb cc cd = lo at *
  generalize hi4 ca cb cc cd = hi at *
  go_enter Tryd.func35, Tryd.ntmps35
  go_wp2_with fail
  refine (C.out _ (HB.out.alloc _)).mono ?_
  rintro e w1 ⟨rfl, b1⟩
  have B1 := Lib.hid (below_box b1)
  clear b1
  go_wp2_with fail
  have X1 := Lib.hid (Bx.next B1.out (.int .i64 ca) (.int .i64 cb) (.int .i64 cc) (.int .i64 cd) 85)
  generalize w1.alloc (.cells #[.int .i64 ca, .int .i64 cb, .int .i64 cc, .int .i64 cd] 85) = X at *
  obtain ⟨_, c0, c1, c2, c3, _, _, _, _, _⟩ := X1.out
  go_region_held3 (fun w' => w'.cell? ⟨w1.heap.size, 0, none⟩ = some (.int .i64 ca) ∧ w'.cell? ⟨w1.heap.size, 1, none⟩ = some (.int .i64 cb) ∧ w'.cell? ⟨w1.heap.size, 2, none⟩ = some (.int .i64 cc) ∧ w'.cell? ⟨w1.heap.size, 3, none⟩ = some (.int .i64 cd))
    (go_keep)
    (first
      | (go_at_call 48; refine (greatest_any w1.heap.size (four ca cb cc cd) _ (bx_four X1.out.drew)).mono ?_; rintro e w' ⟨rfl, rfl⟩; rw [G.out])
      | (go_at_call 49; refine (least_any w1.heap.size (four ca cb cc cd) _ (bx_four X1.out.drew)).mono ?_; rintro e w' ⟨rfl, rfl⟩; rw [L.out]))
  go_wp2
  go_ret2
  exact Ret.mk (two_eq (IntWalk.i64_in _ (by omega)) rfl) X1.out.below.drew

set_option maxHeartbeats 1000000 in
theorem depth_in (W H T i j : Int) (A : Option Addr) (n c : Nat) (p : Nat → Nat) (w : World) (hn : n ≤ maxLen) (hb : Bs w A n p) (hp : ∀ i, p i < 256) (hv : Val W H T n) (i0 : 0 ≤ i) (i1 : i < W) (j0 : 0 ≤ j) (j1 : j < H) :
    Calls Tryd.prog 36 #[.agg #[.int .i64 W, .int .i64 H, .int .i64 T, .slice A n c], .int .i64 i, .int .i64 j] w (Ret (.tuple #[.int .i64 (if T ≤ cLo p W i j then 0 else T - cLo p W i j), .int .i64 0]) w) := by
  obtain ⟨hW1, hW2, hH1, hH2, hT, hT2⟩ := hv.s
  have C := Lib.hid (fun u hb => cell_in W H T i j A n c p u hn hb hp hv i0 i1 j0 j1)
  obtain ⟨l0, l1⟩ := cLo_bd hp W i j
  have HB := Lib.hid hb
  unfold cLo at l0 l1 ⊢
  clear hv hb hp
  generalize cr p W i j = ca at *
  generalize cr p W (i + 1) j = cb at *
  generalize cr p W i (j + 1) = cc at *
  generalize cr p W (i + 1) (j + 1) = cd at *
  have L := Lib.hid (rmin4 ca cb cc cd)
  generalize lo4 ca cb cc cd = lo at *
  have HE : Hid ((if T - lo < 0 then 0 else if 255 < T - lo then 255 else T - lo) = (if T ≤ lo then 0 else T - lo)) := by
    show _ = _
    by_cases h : T ≤ lo
    · rw [if_pos h]
      by_cases h2 : T - lo < 0
      · rw [if_pos h2]
      · rw [if_neg h2, if_neg (by omega)]; omega
    · rw [if_neg h, if_neg (by omega), if_neg (by omega)]
  generalize (if T ≤ lo then 0 else T - lo) = R at *
  go_enter Tryd.func36, Tryd.ntmps36
  go_wp2_with fail
  refine (C.out _ (HB.out.alloc _)).mono ?_
  rintro e w1 ⟨rfl, b1⟩
  have X0 := Lib.hid ((Bx.new w (.int .i64 W) (.int .i64 H) (.int .i64 T) (.slice A n c) 45).keep b1)
  clear b1
  have X1 := Lib.hid (Bx.next X0.out.below (.int .i64 ca) (.int .i64 cb) (.int .i64 cc) (.int .i64 cd) 85)
  have X2 := Lib.hid (X0.out.keep ((Below.refl _ _).alloc (Nat.le_refl _) (.cells #[.int .i64 ca, .int .i64 cb, .int .i64 cc, .int .i64 cd] 85)))
  obtain ⟨_, d0, d1, d2, d3, _, _, _, _, _⟩ := X2.out
  go_wp2_with fail
  refine (least_any w1.heap.size (four ca cb cc cd) _ (bx_four X1.out)).mono ?_
  rintro e w' ⟨rfl, rfl⟩
  rw [L.out]
  go_wp2_with fail
  refine (clamp_any (T - lo) 0 255 _).mono ?_
  rintro e w2 ⟨rfl, b2⟩
  rw [HE.out]
  have B2 := Lib.hid (X2.out.below.trans (b2.mono X2.out.below.size))
  clear b2
  go_wp2
  go_ret2
  exact Ret.mk rfl B2.out

end Go.Proofs.YtcipedijjemghaaDoor
