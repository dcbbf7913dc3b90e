/- Contracts of package relief, fourth part: cornersOf. -/
import Derived.Test.YtcipedijjemghaaDoorRel3
import Derived.StillTailTactics
namespace Go.Proofs.YtcipedijjemghaaDoor
open Go.RowKit
set_option linter.unusedVariables false

set_option maxRecDepth 20000 in
set_option maxHeartbeats 2000000 in
theorem cornersOf_any (W H T i j : Int) (A : Option Addr) (n c : Nat) (p : Nat → Nat) (w : World) (hb : Bs w A n p) (hp : ∀ i, p i < 256) (hv : Val W H T n) (i0 : 0 ≤ i) (i1 : i < W) (j0 : 0 ≤ j) (j1 : j < H) :
    Calls Tryd.prog 55 #[.agg #[.int .i64 W, .int .i64 H, .int .i64 T, .slice A n c], .int .i64 i, .int .i64 j] w
      (Ret (.agg #[.int .i64 (cr p W i j), .int .i64 (cr p W (i + 1) j), .int .i64 (cr p W i (j + 1)), .int .i64 (cr p W (i + 1) (j + 1))]) w) := by
  obtain ⟨⟨hW1, hW2, hH1, hH2, hT, hT2⟩, he⟩ := hv
  obtain ⟨a0, a1, a2⟩ := ix_bd hW1 hW2 hH1 hH2 i0 (show i ≤ W by omega) j0 (show j ≤ H by omega)
  obtain ⟨b0, b1, b2⟩ := ix_bd hW1 hW2 hH1 hH2 (show 0 ≤ i + 1 by omega) (show i + 1 ≤ W by omega) j0 (show j ≤ H by omega)
  obtain ⟨c0, c1, c2⟩ := ix_bd hW1 hW2 hH1 hH2 i0 (show i ≤ W by omega) (show 0 ≤ j + 1 by omega) (show j + 1 ≤ H by omega)
  obtain ⟨d0, d1, d2⟩ := ix_bd hW1 hW2 hH1 hH2 (show 0 ≤ i + 1 by omega) (show i + 1 ≤ W by omega) (show 0 ≤ j + 1 by omega) (show j + 1 ≤ H by omega)
  rw [← he] at a2 b2 c2 d2
  have em : (W + 1) * (j + 1) = (W + 1) * j + (W + 1) := by rw [Int.mul_add, Int.mul_one]
  rw [em] at c0 c1 c2 d0 d1 d2
  have k0 : ix W i j = ((W + 1) * j + i).toNat := rfl
  have k1 : ix W (i + 1) j = ((W + 1) * j + i + 1).toNat := by unfold ix; omega
  have k2 : ix W i (j + 1) = ((W + 1) * j + i + (W + 1)).toNat := by unfold ix; rw [em]; omega
  have k3 : ix W (i + 1) (j + 1) = ((W + 1) * j + i + (W + 1) + 1).toNat := by unfold ix; rw [em]; omega
  unfold cr
  rw [k0, k1, k2, k3]
  clear k0 k1 k2 k3 em
  have HM : Hid (∃ M, (W + 1) * j = M) := ⟨_, rfl⟩
  obtain ⟨g, o, rfl, hg, hcell⟩ := hb (by omega)
  have q0 := hcell ((W + 1) * j + i).toNat (by omega)
  have q1 := hcell ((W + 1) * j + i + 1).toNat (by omega)
  have q2 := hcell ((W + 1) * j + i + (W + 1)).toNat (by omega)
  have q3 := hcell ((W + 1) * j + i + (W + 1) + 1).toNat (by omega)
  have r0 := hp ((W + 1) * j + i).toNat
  have r1 := hp ((W + 1) * j + i + 1).toNat
  have r2 := hp ((W + 1) * j + i + (W + 1)).toNat
  have r3 := hp ((W + 1) * j + i + (W + 1) + 1).toNat
  clear hcell hb hp he HM
  generalize p ((W + 1) * j + i).toNat = v0 at *
  generalize p ((W + 1) * j + i + 1).toNat = v1 at *
  generalize p ((W + 1) * j + i + (W + 1)).toNat = v2 at *
  generalize p ((W + 1) * j + i + (W + 1) + 1).toNat = v3 at *
  have s0 : 0 ≤ (W + 1) * j + i := by omega
  have s1 : 0 ≤ (W + 1) * j + i + 1 := by omega
  have s2 : 0 ≤ (W + 1) * j + i + (W + 1) := by omega
  have s3 : 0 ≤ (W + 1) * j + i + (W + 1) + 1 := by omega
  have t0 : (W + 1) * j + i < (n : Int) := by omega
  have t1 : (W + 1) * j + i + 1 < (n : Int) := by omega
  have t2 : (W + 1) * j + i + (W + 1) < (n : Int) := by omega
  have t3 : (W + 1) * j + i + (W + 1) + 1 < (n : Int) := by omega
  have w0 := IntWalk.i64_in ((W + 1) * j + i + 1) (by omega)
  have w1 := IntWalk.i64_in ((W + 1) * j + i + (W + 1)) (by omega)
  have w2 := IntWalk.i64_in ((W + 1) * j + i + (W + 1) + 1) (by omega)
  have x0 := IntWalk.i64_in (v0 : Int) (by omega)
  have x1 := IntWalk.i64_in (v1 : Int) (by omega)
  have x2 := IntWalk.i64_in (v2 : Int) (by omega)
  have x3 := IntWalk.i64_in (v3 : Int) (by omega)
  clear a2 b2 c2 d2 c0 c1 d0 d1
  go_enter Tryd.func55, Tryd.ntmps55
  go_wp2
  have X1 := (Bx.new w (.int .i64 W) (.int .i64 H) (.int .i64 T) (.slice (some ⟨g, o, none⟩) n c) 45).keep ((Below.refl _ _).alloc (Nat.le_refl _) (.cells #[.int .i64 0, .int .i64 0, .int .i64 0, .int .i64 0] 85))
  have X2 := Bx.next ((Below.refl _ w).alloc (Nat.le_refl _) (.cells #[.int .i64 W, .int .i64 H, .int .i64 T, .slice (some ⟨g, o, none⟩) n c] 45)) (.int .i64 0) (.int .i64 0) (.int .i64 0) (.int .i64 0) 85
  rw [size_alloc] at X2
  have q0' := kc X1.below q0
  have q1' := kc X1.below q1
  have q2' := kc X1.below q2
  have q3' := kc X1.below q3
  clear q0 q1 q2 q3
  generalize ((w.alloc (Obj.cells #[.int .i64 W, .int .i64 H, .int .i64 T, .slice (some ⟨g, o, none⟩) n c] 45)).alloc (Obj.cells #[.int .i64 0, .int .i64 0, .int .i64 0, .int .i64 0] 85)) = X at *
  refine wp_region_still_tail 31 (by kernel_rfl) (by kernel_rfl) ?_
  change wpStill _ _ X.drew (fun a' => wpList _ _ _ _ a' X.drew) _ _
  have Y1 := X1.drew
  have Y2 := X2.drew
  have p0 : X.drew.cell? ⟨g, o + ((W + 1) * j + i).toNat, none⟩ = some (.int .u8 (v0 : Int)) := q0'
  have p1 : X.drew.cell? ⟨g, o + ((W + 1) * j + i + 1).toNat, none⟩ = some (.int .u8 (v1 : Int)) := q1'
  have p2 : X.drew.cell? ⟨g, o + ((W + 1) * j + i + (W + 1)).toNat, none⟩ = some (.int .u8 (v2 : Int)) := q2'
  have p3 : X.drew.cell? ⟨g, o + ((W + 1) * j + i + (W + 1) + 1).toNat, none⟩ = some (.int .u8 (v3 : Int)) := q3'
  clear q0' q1' q2' q3' X1 X2
  generalize X.drew = Y at *
  have HY := Lib.hid Y2
  obtain ⟨_, c0, c1, c2, c3, _, _, _, _, _⟩ := Y1
  obtain ⟨_, d0, d1, d2, d3, f0, f1, f2, f3, _⟩ := Y2
  simp only [List.take_succ_cons, List.take_zero, List.drop_succ_cons, List.drop_zero]
  repeat still_step
  refine wpStill_nil ?_
  clear p0 p1 p2 p3 x0 x1 x2 x3 w0 w1 w2 s0 s1 s2 s3 t0 t1 t2 t3
  go_wp2
  have HP := HY.out.put (.int .i64 (v0 : Int)) (.int .i64 (v1 : Int)) (.int .i64 (v2 : Int)) (.int .i64 (v3 : Int))
  unfold put4 at HP
  refine bodyPost_ret (v := .agg #[.int .i64 (v0 : Int), .int .i64 (v1 : Int), .int .i64 (v2 : Int), .int .i64 (v3 : Int)]) (by simp [results, Tryd.results55, go_sem, HP.c0, HP.c1, HP.c2, HP.c3]) rfl ?_
  exact Ret.mk rfl HP.below

end Go.Proofs.YtcipedijjemghaaDoor
