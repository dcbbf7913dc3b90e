/- Stage 14: whatever it does; the law. -/
import Derived.Test.YtckeplbmkjoiaaaDoorDvLaw
import Derived.Deep.DeepCutAuto
namespace Go.Proofs.YtckeplbmkjoiaaaDoor
open Go.RowKit
set_option linter.unusedVariables false

set_option maxRecDepth 100000 in
set_option maxHeartbeats 4000000 in
theorem stays_bad (m : Mv) (E : Eg) (x y n : Int) (w : World) (hT : Tab w) (hk : ¬ okM E x y m) :
    Calls Tryd.prog 6 #[.agg (goA m E x y n)] w (Ret (.bool true) w) := by
  have HT := Lib.hid hT
  have HK := Lib.hid hk
  clear hT hk
  have B0 := Lib.hid (Bg.new w m E x y n m)
  have G0 := Lib.hid (Kx.new w 30 (goA m E x y n))
  go_enter Tryd.func6, Tryd.ntmps6
  go_wp2_with (first | (refine wpList_load_at (G0.out.goMv) rfl rfl rfl ?_) | (refine wpList_store_blk (c' := mvA m) Tryd.sizeMv (next_blk _ _) rfl rfl rfl rfl rfl rfl (mvA_one _) ?_))
  generalize ((w.alloc (.cells (goA m E x y n) 30)).alloc (.cells #[.int .i64 0, .int .i64 0, .int .i64 0] 26)).setRow (w.heap.size + 1) (mvA m) = w1 at *
  clear G0
  go_loopw [4] (fun s4 wr => s4 = .int .i64 0 ∧ Hid (Bg w wr m E x y n m)) (fun s4 _ => 0)
  case atStart => exact ⟨by go_num, B0⟩
  case round =>
    obtain ⟨rfl, hB⟩ := hrel
    clear B0
    obtain ⟨gx, gy, gn, -, -, -, -⟩ := hB.out.g.goC
    by_cases hn : 0 < n
    · go_wp2_with (first | (refine wpList_load_at (loadVar_mv hB.out.m.blk) rfl rfl rfl ?_) | (refine wpList_load_at (hB.out.g.goEg) rfl rfl rfl ?_))
      refine (Step14_bad E m x y wr (HT.out.keep hB.out.below) HK.out).mono ?_
      rintro e w3 ⟨rfl, b3⟩
      have B3 := Lib.hid (hB.out.keep b3)
      have B4 := Lib.hid (B3.out.beside mv0)
      clear b3 hB gx gy gn
      go_wp2_with (refine wpList_store_blk (c' := mvA mv0) Tryd.sizeMv (alloc_blk _ _ _) rfl rfl rfl rfl rfl rfl (mvA_one _) ?_)
      generalize (w3.alloc (.cells #[.int .i64 0, .int .i64 0, .int .i64 0] 26)).setRow w3.heap.size (mvA mv0) = w4 at *
      refine (awake14_any w4 (HT.out.keep B4.out.below)).mono ?_
      rintro e wz ⟨rfl, bz⟩
      have Bz := Lib.hid (B4.out.below.trans (bz.mono B4.out.below.size))
      clear bz
      go_wp2
      go_ret
      exact Ret.mk rfl Bz.out

    · go_wp2_with fail
      refine (awake14_any wr (HT.out.keep hB.out.below)).mono ?_
      rintro e wz ⟨rfl, bz⟩
      have Bz := Lib.hid (hB.out.below.trans (bz.mono hB.out.below.size))
      clear bz
      go_wp2
      go_ret
      exact Ret.mk rfl Bz.out

set_option maxRecDepth 100000 in
set_option maxHeartbeats 4000000 in
theorem stays_ok (m : Mv) (E : Eg) (x y n : Int) (w : World) (hT : Tab w) (hk : okM E x y m) :
    Calls Tryd.prog 6 #[.agg (goA m E x y n)] w (Ret (.bool true) w) := by
  have HT := Lib.hid hT
  have HK := Lib.hid hk
  clear hT hk
  have B0 := Lib.hid (Bg.new w m E x y n m)
  have G0 := Lib.hid (Kx.new w 30 (goA m E x y n))
  go_enter Tryd.func6, Tryd.ntmps6
  go_wp2_with (first | (refine wpList_load_at (G0.out.goMv) rfl rfl rfl ?_) | (refine wpList_store_blk (c' := mvA m) Tryd.sizeMv (next_blk _ _) rfl rfl rfl rfl rfl rfl (mvA_one _) ?_))
  generalize ((w.alloc (.cells (goA m E x y n) 30)).alloc (.cells #[.int .i64 0, .int .i64 0, .int .i64 0] 26)).setRow (w.heap.size + 1) (mvA m) = w1 at *
  clear G0
  go_loopw [4] (fun s4 wr => ∃ (k : Nat) (c : Mv), s4 = .int .i64 (k : Int) ∧ k ≤ 60 ∧ Hid (okM E x y c) ∧ Hid (Bg w wr m E x y n c)) (fun s4 _ => 60 - (intOf s4).toNat)
  case atStart => exact ⟨0, m, by go_num, by omega, HK, B0⟩
  case round =>
    obtain ⟨k, c, rfl, hk60, HC, hB⟩ := hrel
    clear B0
    obtain ⟨gx, gy, gn, -, -, -, -⟩ := hB.out.g.goC
    by_cases hn : (k : Int) < n
    case neg =>
      go_wp2_with fail
      refine (awake14_any wr (HT.out.keep hB.out.below)).mono ?_
      rintro e wz ⟨rfl, bz⟩
      have Bz := Lib.hid (hB.out.below.trans (bz.mono hB.out.below.size))
      clear bz
      go_wp2
      go_ret
      exact Ret.mk rfl Bz.out

    by_cases hn2 : (k : Int) < 60
    case neg =>
      go_wp2_with fail
      refine (awake14_any wr (HT.out.keep hB.out.below)).mono ?_
      rintro e wz ⟨rfl, bz⟩
      have Bz := Lib.hid (hB.out.below.trans (bz.mono hB.out.below.size))
      clear bz
      go_wp2
      go_ret
      exact Ret.mk rfl Bz.out

    go_wp2_with (first | (refine wpList_load_at (loadVar_mv hB.out.m.blk) rfl rfl rfl ?_) | (refine wpList_load_at (hB.out.g.goEg) rfl rfl rfl ?_))
    refine (Step14_ok E c x y wr (HT.out.keep hB.out.below) HC.out).mono ?_
    rintro e w3 ⟨rfl, b3⟩
    have B3 := Lib.hid (hB.out.keep b3)
    have KP := dvS_keeps HC.out
    generalize dvS E x y c = R at *
    obtain ⟨r, b⟩ := R
    obtain ⟨kp1, kp2, ⟨q0, q1, q2, q3⟩, q4⟩ := KP
    have B4 := Lib.hid (B3.out.beside r)
    have X4 := Lib.hid (Kx.mMade B3.out.below r)
    clear b3 hB gx gy gn
    go_upto_region 6 with (refine wpList_store_blk (c' := mvA r) Tryd.sizeMv (alloc_blk _ _ _) rfl rfl rfl rfl rfl rfl (mvA_one _) ?_)
    generalize (w3.alloc (.cells #[.int .i64 0, .int .i64 0, .int .i64 0] 26)).setRow w3.heap.size (mvA r) = w4 at *
    generalize w3.heap.size = g4 at *
    obtain ⟨rx, ry, ra⟩ := r
    dsimp only at kp1 kp2 q0 q1 q2 q3 q4
    have kr := kp1.2.2
    have ke := kp1.1
    have HR := Lib.hid kp1
    obtain ⟨⟨r0, r1, r2, r3⟩, r4, r5⟩ := kr
    dsimp only at r0 r1 r2 r3 r4 r5
    obtain ⟨e0, e1, e2, e3, e4, e5, e6, e7⟩ := ke
    have ca := HC.out.2.2.2
    obtain ⟨ca0, ca1⟩ := ca
    obtain ⟨⟨c0, c1, c2, c3⟩, -⟩ := HC.out.2.2
    clear kp1
    go_upto_region 8 with fail
    obtain ⟨x0, x1, x2⟩ := X4.out.mv
    obtain ⟨m0, m1, m2⟩ := B4.out.m.mv
    dsimp only at x0 x1 x2
    go_quiet (fail)
    have B5 : Hid (Bg w (w4.drewN nq) m E x y n c) := ⟨B4.out.g.drewN nq, B4.out.m.drewN nq⟩
    have X5 := Lib.hid (X4.out.drewN nq)
    clear x0 x1 x2 m0 m1 m2 B4 X4
    generalize w4.drewN nq = w5 at *
    obtain ⟨x0, x1, x2⟩ := X5.out.mv
    dsimp only at x0 x1 x2
    obtain ⟨m0, m1, m2⟩ := B5.out.m.mv
    obtain ⟨gx, gy, gn, gs, gt, gw, gh⟩ := B5.out.g.goC
    have h1 : ¬ rx < 0 := by omega
    have h2 : ¬ E.w * 65536 ≤ rx := by omega
    have h3 : ¬ ry < 0 := by omega
    have h4 : ¬ E.h * 65536 ≤ ry := by omega
    have h5 : ¬ ra < 0 := by omega
    have h6 : ¬ 65535 < ra := by omega
    have h7 : ¬ E.s + 1 < rx - c.x := by omega
    have h8 : ¬ rx - c.x < -E.s - 1 := by omega
    have h9 : ¬ E.s + 1 < ry - c.y := by omega
    have h10 : ¬ ry - c.y < -E.s - 1 := by omega
    have h11 : ¬ E.t < off ra c.a := by omega
    have KO := Lib.hid (calls_re (V := w5) (f := 8) (args := #[.int .i64 ra, .int .i64 c.a]) (v := .int .i64 (off ra c.a)) (fun u => off14_any ra c.a u (by omega) (by omega) (by omega) (by omega)))
    cases b with
    | false =>
      clear kp2
      go_upto_region 11 with fail
      have k0 := cell_regrown gs
      have k1 := cell_regrown gt
      have k2 := cell_regrown x2
      have k3 := cell_regrown m2
      clear gx gy gn gs gt gw gh x0 x1 x2 m0 m1 m2
      refine wp_region_quiet_below (by kernel_rfl) (by kernel_rfl) ?_
      repeat (go_big_quiet_step (with_reducible exact KO.out _ _))
      refine wpQuiet_nil ?_
      intro _ hw'
      obtain ⟨⟨dq, osq⟩, hw''⟩ := hw'
      subst hw''
      have hb4 := below_regrown w5 dq osq
      have B6 := Lib.hid (B5.out.keep hb4)
      have X6 := Lib.hid (X5.out.keep hb4)
      clear k0 k1 k2 k3 hb4 B5 X5 KO
      generalize Go.Sort.grow (redrawn w5 dq) osq = w6 at *
      go_wp2_with (first | (refine wpList_load_at (loadVar_mv X6.out.blk) rfl rfl rfl ?_) | (refine wpList_store_blk (c' := mvA ⟨rx, ry, ra⟩) Tryd.sizeMv (B6.out.m.blk) rfl rfl rfl rfl rfl rfl (mvA_one _) ?_))
      have B7 := Lib.hid (B6.out.setM ⟨rx, ry, ra⟩)
      go_roundw
      case rel => exact ⟨k + 1, ⟨rx, ry, ra⟩, by go_num, by omega, HR, B7⟩
      case measure => simp [intOf]; omega
    | true =>
      obtain ⟨kx, ky⟩ := kp2 rfl
      replace kx := kx.symm
      replace ky := ky.symm
      subst kx ky
      have HAT := Lib.hid (dvS_at (E := E) (tx := x) (ty := y) (m := ⟨x, y, ra⟩) ⟨rfl, rfl⟩)
      go_upto_region 11 with fail
      have k0 := cell_regrown gs
      have k1 := cell_regrown gt
      have k2 := cell_regrown x2
      have k3 := cell_regrown m2
      clear gx gy gn gs gt gw gh x0 x1 x2 m0 m1 m2
      refine wp_region_quiet_below (by kernel_rfl) (by kernel_rfl) ?_
      repeat (go_big_quiet_step (with_reducible exact KO.out _ _))
      refine wpQuiet_nil ?_
      intro _ hw'
      obtain ⟨⟨dq, osq⟩, hw''⟩ := hw'
      subst hw''
      have hb4 := below_regrown w5 dq osq
      have B6 := Lib.hid (B5.out.keep hb4)
      have X6 := Lib.hid (X5.out.keep hb4)
      clear k0 k1 k2 k3 hb4 B5 X5 KO
      generalize Go.Sort.grow (redrawn w5 dq) osq = w6 at *
      obtain ⟨gx, gy, gn, -, -, -, -⟩ := B6.out.g.goC
      go_wp2_with (first | (refine wpList_load_at (loadVar_mv X6.out.blk) rfl rfl rfl ?_) | (refine wpList_load_at (B6.out.g.goEg) rfl rfl rfl ?_))
      refine (Step14_ok E ⟨x, y, ra⟩ x y w6 (HT.out.keep B6.out.below) HR.out).mono ?_
      rw [HAT.out]
      rintro e w7 ⟨rfl, b7⟩
      have X7 := Lib.hid (X6.out.keep b7)
      have B7 := Lib.hid (B6.out.keep b7)
      have X8 := Lib.hid (X7.out.mBeside ⟨x, y, ra⟩)
      have B8 := Lib.hid (B7.out.beside ⟨x, y, ra⟩)
      have Y8 := Lib.hid (Kx.mMade B7.out.below ⟨x, y, ra⟩)
      clear b7 B6 X6 gx gy gn
      go_upto_region 15 with (refine wpList_store_blk (c' := mvA ⟨x, y, ra⟩) Tryd.sizeMv (alloc_blk _ _ _) rfl rfl rfl rfl rfl rfl (mvA_one _) ?_)
      generalize (w7.alloc (.cells #[.int .i64 0, .int .i64 0, .int .i64 0] 26)).setRow w7.heap.size (mvA ⟨x, y, ra⟩) = w8 at *
      generalize w7.heap.size = g8 at *
      clear X7 B7
      go_wp2_with (first | (refine wpList_load_at (loadVar_mv Y8.out.blk) rfl rfl rfl ?_) | (refine wpList_load_at (loadVar_mv X8.out.blk) rfl rfl rfl ?_) | (refine wpList_cmp (fun u => (run_eql ⟨x, y, ra⟩ ⟨x, y, ra⟩ u).trans (by rw [eqM_self])) rfl rfl rfl rfl ?_; simp only [Act.put, List.setIfInBounds_toArray, List.set_cons_zero, List.set_cons_succ]))
      refine (awake14_any w8 (HT.out.keep B8.out.below)).mono ?_
      rintro e wz ⟨rfl, bz⟩
      have Bz := Lib.hid (B8.out.below.trans (bz.mono B8.out.below.size))
      clear bz
      go_wp2
      go_ret
      exact Ret.mk rfl Bz.out
theorem walk_DriveStays (m : Mv) (E : Eg) (x y n : Int) (w : World) (hT : Tab w) :
    Calls Tryd.prog 6 #[.agg (goA m E x y n)] w (Ret (.bool true) w) := by
  by_cases hk : okM E x y m
  · exact stays_ok m E x y n w hT hk
  · exact stays_bad m E x y n w hT hk

end Go.Proofs.YtckeplbmkjoiaaaDoor
