/- Contracts of package ray, second part: upTo, corners, top, floor. -/
import Derived.Test.YtljedkceicahaaaRy1
import Derived.StillTailTactics
namespace Go.Proofs.Ytljedkceicahaaa
open Go.RowKit Go.Shelf
set_option linter.unusedVariables false

/-- Each of the first k numbers is from 0 to m. -/
def Upto (m : Int) (f : Nat → Int) (k : Nat) : Prop := ∀ i, i < k → 0 ≤ f i ∧ f i ≤ m

set_option maxHeartbeats 400000 in
theorem upTo_yes (m : Int) (f : Nat → Int) (g k c : Nat) (w : World) (hk : k ≤ 4) (hc : ∀ i, i < k → w.cell? ⟨g, i, none⟩ = some (.int .i64 (f i))) (h : Upto m f k) :
    Calls Try.prog 24 #[.int .i64 m, .slice (some ⟨g, 0, none⟩) k c] w fun e w' => e = .returned (.bool true) ∧ w = w' := by
  have HC := Lib.hid hc
  have HU := Lib.hid h
  clear hc h
  go_enter Try.func24, Try.ntmps24
  go_wp2
  go_loop [9] (fun i => ∃ j : Nat, j ≤ k ∧ i = .int .i64 (j : Int)) (fun i => k - (intOf i).toNat)
  case atStart => exact ⟨0, by omega, rfl⟩
  case round =>
    obtain ⟨j, hj, rfl⟩ := hrel
    by_cases hlt : j < k
    · have hcj := HC.out j hlt
      obtain ⟨u0, u1⟩ := HU.out j hlt
      have hlt' : (j : Int) < (k : Int) := by omega
      obtain ⟨v, ev⟩ : ∃ v, f j = v := ⟨_, rfl⟩
      rw [ev] at hcj u0 u1
      clear ev
      have t1 : ¬ v < 0 := by omega
      have t2 : ¬ m < v := by omega
      go_wp2
      go_round
      case rel => exact ⟨j + 1, by omega, by go_num⟩
      case measure => simp [intOf]; omega
    · have hge : ¬ (j : Int) < (k : Int) := by omega
      go_wp2
      go_ret
      exact ⟨rfl, rfl⟩

set_option maxHeartbeats 400000 in
theorem upTo_no (m : Int) (f : Nat → Int) (g k c : Nat) (w : World) (hk : k ≤ 4) (hc : ∀ i, i < k → w.cell? ⟨g, i, none⟩ = some (.int .i64 (f i))) (h : ¬ Upto m f k) :
    Calls Try.prog 24 #[.int .i64 m, .slice (some ⟨g, 0, none⟩) k c] w fun e w' => e = .returned (.bool false) ∧ w = w' := by
  have HC := Lib.hid hc
  have HU := Lib.hid h
  clear hc h
  go_enter Try.func24, Try.ntmps24
  go_wp2
  go_loop [9] (fun i => ∃ j : Nat, j ≤ k ∧ i = .int .i64 (j : Int) ∧ Upto m f j) (fun i => k - (intOf i).toNat)
  case atStart => exact ⟨0, by omega, rfl, fun i hi => by omega⟩
  case round =>
    obtain ⟨j, hj, rfl, hu⟩ := hrel
    have HJ := Lib.hid hu
    clear hu
    by_cases hlt : j < k
    · have hcj := HC.out j hlt
      have hlt' : (j : Int) < (k : Int) := by omega
      obtain ⟨v, ev⟩ : ∃ v, f j = v := ⟨_, rfl⟩
      have EV := Lib.hid ev
      rw [ev] at hcj
      clear ev
      by_cases t1 : v < 0
      · go_wp2
        go_ret
        exact ⟨rfl, rfl⟩
      · by_cases t2 : m < v
        · go_wp2
          go_ret
          exact ⟨rfl, rfl⟩
        · have HN : Hid (Upto m f (j + 1)) := by
            intro i hi
            rcases Nat.lt_or_ge i j with h | h
            · exact HJ.out i h
            · have e : i = j := by omega
              subst e; rw [EV.out]; omega
          go_wp2
          go_round
          case rel => exact ⟨j + 1, by omega, by go_num, HN.out⟩
          case measure => simp [intOf]; omega
    · have e : k = j := by omega
      exact absurd (e ▸ HJ.out) HU.out

set_option maxHeartbeats 2000000 in
theorem corners8_any (W H T i j : Int) (A : Option Addr) (n c : Nat) (p : Nat → Nat) (w : World) (hb : Bs w A n p) (hp : ∀ i, p i < 256) (hv : Val W H T n) (i0 : 0 ≤ i) (i1 : i < W) (j0 : 0 ≤ j) (j1 : j < H) :
    Calls Try.prog 38 #[.agg #[.int .i64 W, .int .i64 H, .int .i64 T, .slice A n c], .agg #[.int .i64 i, .int .i64 j]] w
      (Ret (.agg #[.int .u8 (cr p W i j), .int .u8 (cr p W (i + 1) j), .int .u8 (cr p W i (j + 1)), .int .u8 (cr p W (i + 1) (j + 1))]) w) := by
  obtain ⟨⟨hW1, hW2, hH1, hH2, hT, hT2⟩, he⟩ := hv
  obtain ⟨a0, a1, a2⟩ := ix_bd hW1 hW2 hH1 hH2 i0 (show i ≤ W by omega) j0 (show j ≤ H by omega)
  obtain ⟨b0, b1, b2⟩ := ix_bd hW1 hW2 hH1 hH2 (show 0 ≤ i + 1 by omega) (show i + 1 ≤ W by omega) j0 (show j ≤ H by omega)
  obtain ⟨c0, c1, c2⟩ := ix_bd hW1 hW2 hH1 hH2 i0 (show i ≤ W by omega) (show 0 ≤ j + 1 by omega) (show j + 1 ≤ H by omega)
  obtain ⟨d0, d1, d2⟩ := ix_bd hW1 hW2 hH1 hH2 (show 0 ≤ i + 1 by omega) (show i + 1 ≤ W by omega) (show 0 ≤ j + 1 by omega) (show j + 1 ≤ H by omega)
  rw [← he] at a2 b2 c2 d2
  have em : (W + 1) * (j + 1) = (W + 1) * j + (W + 1) := by rw [Int.mul_add, Int.mul_one]
  rw [em] at c0 c1 c2 d0 d1 d2
  have k0 : ix W i j = ((W + 1) * j + i).toNat := rfl
  have k1 : ix W (i + 1) j = ((W + 1) * j + i + 1).toNat := by unfold ix; omega
  have k2 : ix W i (j + 1) = ((W + 1) * j + i + (W + 1)).toNat := by unfold ix; rw [em]; omega
  have k3 : ix W (i + 1) (j + 1) = ((W + 1) * j + i + (W + 1) + 1).toNat := by unfold ix; rw [em]; omega
  unfold cr
  rw [k0, k1, k2, k3]
  clear k0 k1 k2 k3 em
  obtain ⟨g, o, rfl, hg, hcell⟩ := hb (by omega)
  have q0 := hcell ((W + 1) * j + i).toNat (by omega)
  have q1 := hcell ((W + 1) * j + i + 1).toNat (by omega)
  have q2 := hcell ((W + 1) * j + i + (W + 1)).toNat (by omega)
  have q3 := hcell ((W + 1) * j + i + (W + 1) + 1).toNat (by omega)
  clear hcell hb hp he
  generalize p ((W + 1) * j + i).toNat = v0 at *
  generalize p ((W + 1) * j + i + 1).toNat = v1 at *
  generalize p ((W + 1) * j + i + (W + 1)).toNat = v2 at *
  generalize p ((W + 1) * j + i + (W + 1) + 1).toNat = v3 at *
  have s0 : 0 ≤ (W + 1) * j + i := by omega
  have s1 : 0 ≤ (W + 1) * j + i + 1 := by omega
  have s2 : 0 ≤ (W + 1) * j + i + (W + 1) := by omega
  have s3 : 0 ≤ (W + 1) * j + i + (W + 1) + 1 := by omega
  have t0 : (W + 1) * j + i < (n : Int) := by omega
  have t1 : (W + 1) * j + i + 1 < (n : Int) := by omega
  have t2 : (W + 1) * j + i + (W + 1) < (n : Int) := by omega
  have t3 : (W + 1) * j + i + (W + 1) + 1 < (n : Int) := by omega
  have w0 := IntWalk.i64_in ((W + 1) * j + i + 1) (by omega)
  have w1 := IntWalk.i64_in ((W + 1) * j + i + (W + 1)) (by omega)
  have w2 := IntWalk.i64_in ((W + 1) * j + i + (W + 1) + 1) (by omega)
  clear a2 b2 c2 d2 c0 c1 d0 d1
  go_enter Try.func38, Try.ntmps38
  go_wp2
  have X0 := (Bx.new w (.int .i64 W) (.int .i64 H) (.int .i64 T) (.slice (some ⟨g, o, none⟩) n c) 24).keep ((Below.refl _ _).alloc (Nat.le_refl _) (.cells #[.int .i64 i, .int .i64 j] 36))
  have X1 := X0.keep ((Below.refl _ _).alloc (Nat.le_refl _) (.cells #[.int .u8 0, .int .u8 0, .int .u8 0, .int .u8 0] 67))
  have X2 := Bx.next X0.below (.int .u8 0) (.int .u8 0) (.int .u8 0) (.int .u8 0) 67
  rw [size_alloc, size_alloc] at X2
  have q0' := kc X1.below q0
  have q1' := kc X1.below q1
  have q2' := kc X1.below q2
  have q3' := kc X1.below q3
  clear q0 q1 q2 q3 X0
  generalize (((w.alloc (Obj.cells #[.int .i64 W, .int .i64 H, .int .i64 T, .slice (some ⟨g, o, none⟩) n c] 24)).alloc (Obj.cells #[.int .i64 i, .int .i64 j] 36)).alloc (Obj.cells #[.int .u8 0, .int .u8 0, .int .u8 0, .int .u8 0] 67)) = X at *
  refine wp_region_still_tail 27 (by kernel_rfl) (by kernel_rfl) ?_
  change wpStill _ _ X.drew (fun a' => wpList _ _ _ _ a' X.drew) _ _
  have Y1 := X1.drew
  have Y2 := X2.drew
  have p0 : X.drew.cell? ⟨g, o + ((W + 1) * j + i).toNat, none⟩ = some (.int .u8 (v0 : Int)) := q0'
  have p1 : X.drew.cell? ⟨g, o + ((W + 1) * j + i + 1).toNat, none⟩ = some (.int .u8 (v1 : Int)) := q1'
  have p2 : X.drew.cell? ⟨g, o + ((W + 1) * j + i + (W + 1)).toNat, none⟩ = some (.int .u8 (v2 : Int)) := q2'
  have p3 : X.drew.cell? ⟨g, o + ((W + 1) * j + i + (W + 1) + 1).toNat, none⟩ = some (.int .u8 (v3 : Int)) := q3'
  clear q0' q1' q2' q3' X1 X2
  generalize X.drew = Y at *
  have HY := Lib.hid Y2
  obtain ⟨_, c0, c1, c2, c3, _, _, _, _, _⟩ := Y1
  obtain ⟨_, d0, d1, d2, d3, f0, f1, f2, f3, _⟩ := Y2
  simp only [List.take_succ_cons, List.take_zero, List.drop_succ_cons, List.drop_zero]
  repeat still_step
  refine wpStill_nil ?_
  clear p0 p1 p2 p3 w0 w1 w2 s0 s1 s2 s3 t0 t1 t2 t3
  go_wp2
  have HP := HY.out.put (.int .u8 (v0 : Int)) (.int .u8 (v1 : Int)) (.int .u8 (v2 : Int)) (.int .u8 (v3 : Int))
  unfold put4 at HP
  refine bodyPost_ret (v := .agg #[.int .u8 (v0 : Int), .int .u8 (v1 : Int), .int .u8 (v2 : Int), .int .u8 (v3 : Int)]) (by simp [results, Try.results38, go_sem, HP.c0, HP.c1, HP.c2, HP.c3]) rfl ?_
  exact Ret.mk rfl HP.below

theorem hi_max {a b c d : Int} (h : 0 ≤ a) : max (max (max a b) c) d = hi4 a b c d := by unfold hi4; omega
theorem lo_min {a b c d : Int} (h : a ≤ 255) : min (min (min a b) c) d = lo4 a b c d := by unfold lo4; omega

set_option maxHeartbeats 400000 in
theorem top8_any (W H T i j : Int) (A : Option Addr) (n c : Nat) (p : Nat → Nat) (w : World) (hb : Bs w A n p) (hp : ∀ i, p i < 256) (hv : Val W H T n) (i0 : 0 ≤ i) (i1 : i < W) (j0 : 0 ≤ j) (j1 : j < H) :
    Calls Try.prog 30 #[.agg #[.int .i64 W, .int .i64 H, .int .i64 T, .slice A n c], .agg #[.int .i64 i, .int .i64 j]] w (Ret (.int .i64 (cHi p W i j)) w) := by
  obtain ⟨h0, h1⟩ := cHi_bd hp W i j
  have C := Lib.hid (fun u hb => corners8_any W H T i j A n c p u hb hp hv i0 i1 j0 j1)
  have hm := fun u => run_max4 Try.prog #[5, 5, 5, 5] 5 .u8 _ _ _ _ _ (hi_max (a := cr p W i j) (b := cr p W (i + 1) j) (c := cr p W i (j + 1)) (d := cr p W (i + 1) (j + 1)) (cr_bd hp W i j).1) u
  have HB := Lib.hid hb
  unfold cHi at h0 h1 ⊢
  clear hv hb hp
  generalize cr p W i j = ca at *
  generalize cr p W (i + 1) j = cb at *
  generalize cr p W i (j + 1) = cc at *
  generalize cr p W (i + 1) (j + 1) = cd at *
  generalize hi4 ca cb cc cd = M at *
  go_enter Try.func30, Try.ntmps30
  go_wp2_with fail
  refine (C.out _ ((HB.out.alloc _).alloc _)).mono ?_
  rintro e w1 ⟨rfl, b1⟩
  have B1 := Lib.hid (below_box (below_box b1))
  clear b1
  go_wp2
  go_ret
  exact Ret.mk rfl (B1.out.alloc B1.out.size _)

set_option maxHeartbeats 400000 in
theorem floor8_any (W H T i j : Int) (A : Option Addr) (n c : Nat) (p : Nat → Nat) (w : World) (hb : Bs w A n p) (hp : ∀ i, p i < 256) (hv : Val W H T n) (i0 : 0 ≤ i) (i1 : i < W) (j0 : 0 ≤ j) (j1 : j < H) :
    Calls Try.prog 31 #[.agg #[.int .i64 W, .int .i64 H, .int .i64 T, .slice A n c], .agg #[.int .i64 i, .int .i64 j]] w (Ret (.int .i64 (cLo p W i j)) w) := by
  obtain ⟨h0, h1⟩ := cLo_bd hp W i j
  have C := Lib.hid (fun u hb => corners8_any W H T i j A n c p u hb hp hv i0 i1 j0 j1)
  have hm := fun u => run_min4 Try.prog #[5, 5, 5, 5] 5 .u8 _ _ _ _ _ (lo_min (a := cr p W i j) (b := cr p W (i + 1) j) (c := cr p W i (j + 1)) (d := cr p W (i + 1) (j + 1)) (cr_bd hp W i j).2) u
  have HB := Lib.hid hb
  unfold cLo at h0 h1 ⊢
  clear hv hb hp
  generalize cr p W i j = ca at *
  generalize cr p W (i + 1) j = cb at *
  generalize cr p W i (j + 1) = cc at *
  generalize cr p W (i + 1) (j + 1) = cd at *
  generalize lo4 ca cb cc cd = M at *
  go_enter Try.func31, Try.ntmps31
  go_wp2_with fail
  refine (C.out _ ((HB.out.alloc _).alloc _)).mono ?_
  rintro e w1 ⟨rfl, b1⟩
  have B1 := Lib.hid (below_box (below_box b1))
  clear b1
  go_wp2
  go_ret
  exact Ret.mk rfl (B1.out.alloc B1.out.size _)

end Go.Proofs.Ytljedkceicahaaa
