/- Stage 14: so many steps, and more; the law. -/
import Derived.Test.YtckeplbmkjoiaaaDoorDvLaw
import Derived.Deep.DeepCutAuto
namespace Go.Proofs.YtckeplbmkjoiaaaDoor
open Go.RowKit
set_option linter.unusedVariables false

set_option maxRecDepth 100000 in
set_option maxHeartbeats 4000000 in
theorem parts_bad (m : Mv) (E : Eg) (x y n : Int) (q : Nat) (hq : q ≤ 255) (w : World) (hT : Tab w) (hk : ¬ okM E x y m) :
    Calls Tryd.prog 7 #[.agg (goA m E x y n), .int .u8 (q : Int)] w (Ret (.bool true) w) := by
  have HT := Lib.hid hT
  have HK := Lib.hid hk
  clear hT hk
  have G0 := Lib.hid (Kx.new w 30 (goA m E x y n))
  obtain ⟨gx, gy, gn, -, -, -, -⟩ := G0.out.goC
  have HQ := Lib.hid hq
  go_enter Tryd.func7, Tryd.ntmps7
  go_upto_region 2 with fail
  generalize w.alloc (.cells (goA m E x y n) 30) = w1 at *
  go_cut [22] (fun s22 wx => ∃ b : Bool, s22 = .bool b ∧ Hid (b = false → 0 ≤ n ∧ n ≤ 100) ∧ wx = w1)
  case first =>
    by_cases a1 : n < 0
    · go_wp2
      go_meet
      exact ⟨true, rfl, Lib.hid (fun h : true = false => Bool.noConfusion h), rfl⟩
    · by_cases a2 : 100 < n
      · go_wp2
        go_meet
        exact ⟨true, rfl, Lib.hid (fun h : true = false => Bool.noConfusion h), rfl⟩
      · go_wp2
        go_meet
        exact ⟨false, rfl, fun _ => ⟨by omega, by omega⟩, rfl⟩
  case rest =>
    obtain ⟨b, rfl, hb, rfl⟩ := hcut
    rename World => w1
    go_upto_if 22 with fail
    go_cut [5] (fun s5 wx => ∃ p : Nat, s5 = .int .i64 (p : Int) ∧ p ≤ 100 ∧ wx = w1)
    case first =>
      cases b
      · obtain ⟨n0, n1⟩ := hb.out rfl
        obtain ⟨p, rfl⟩ : ∃ p : Nat, n = (p : Int) := ⟨n.toNat, by omega⟩
        go_wp2
        go_meet
        exact ⟨p, rfl, by omega, rfl⟩
      · go_wp2
        go_meet
        exact ⟨7, rfl, by omega, rfl⟩
    case rest =>
      obtain ⟨p, rfl, hp, rfl⟩ := hcut
      rename World => w1
      clear hb
      go_wp2_with (first | (refine wpList_load_at (G0.out.goMv) rfl rfl rfl ?_) | (refine wpList_load_at (G0.out.goEg) rfl rfl rfl ?_))
      refine (Steps14_bad E m x y (p : Int) w1 (HT.out.keep G0.out.below) HK.out).mono ?_
      rintro e w2 ⟨rfl, b2⟩
      have G2 := Lib.hid (G0.out.keep b2)
      have G3 := Lib.hid (G2.out.mBeside mv0)
      clear b2 G0 gx gy gn
      go_upto_region 5 with (refine wpList_store_blk (c' := mvA mv0) Tryd.sizeMv (alloc_blk _ _ _) rfl rfl rfl rfl rfl rfl (mvA_one _) ?_)
      generalize (w2.alloc (.cells #[.int .i64 0, .int .i64 0, .int .i64 0] 26)).setRow w2.heap.size (mvA mv0) = w3 at *
      clear G2
      obtain ⟨gx, gy, gn, -, -, -, -⟩ := G3.out.goC
      go_wp2_with (first | (refine wpList_load_at (G3.out.goMv) rfl rfl rfl ?_) | (refine wpList_load_at (G3.out.goEg) rfl rfl rfl ?_))
      refine (Steps14_bad E m x y ((p : Int) + (q : Int)) w3 (HT.out.keep G3.out.below) HK.out).mono ?_
      rintro e w4 ⟨rfl, b4⟩
      have G4 := Lib.hid (G3.out.keep b4)
      have G5 := Lib.hid (G4.out.mBeside mv0)
      clear b4 G3 gx gy gn
      go_wp2_with (refine wpList_store_blk (c' := mvA mv0) Tryd.sizeMv (alloc_blk _ _ _) rfl rfl rfl rfl rfl rfl (mvA_one _) ?_)
      generalize (w4.alloc (.cells #[.int .i64 0, .int .i64 0, .int .i64 0] 26)).setRow w4.heap.size (mvA mv0) = w5 at *
      clear G4
      refine (awake14_any w5 (HT.out.keep G5.out.below)).mono ?_
      rintro e w6 ⟨rfl, b6⟩
      have G6 := Lib.hid (G5.out.keep b6)
      clear b6
      go_wp2
      go_ret
      exact Ret.mk rfl G6.out.below
set_option maxRecDepth 100000 in
set_option maxHeartbeats 4000000 in
theorem parts_ok (m : Mv) (E : Eg) (x y n : Int) (q : Nat) (hq : q ≤ 255) (w : World) (hT : Tab w) (hk : okM E x y m) :
    Calls Tryd.prog 7 #[.agg (goA m E x y n), .int .u8 (q : Int)] w (Ret (.bool true) w) := by
  have HT := Lib.hid hT
  have HK := Lib.hid hk
  clear hT hk
  have G0 := Lib.hid (Kx.new w 30 (goA m E x y n))
  obtain ⟨gx, gy, gn, -, -, -, -⟩ := G0.out.goC
  have HQ := Lib.hid hq
  go_enter Tryd.func7, Tryd.ntmps7
  go_upto_region 2 with fail
  generalize w.alloc (.cells (goA m E x y n) 30) = w1 at *
  go_cut [22] (fun s22 wx => ∃ b : Bool, s22 = .bool b ∧ Hid (b = false → 0 ≤ n ∧ n ≤ 100) ∧ wx = w1)
  case first =>
    by_cases a1 : n < 0
    · go_wp2
      go_meet
      exact ⟨true, rfl, Lib.hid (fun h : true = false => Bool.noConfusion h), rfl⟩
    · by_cases a2 : 100 < n
      · go_wp2
        go_meet
        exact ⟨true, rfl, Lib.hid (fun h : true = false => Bool.noConfusion h), rfl⟩
      · go_wp2
        go_meet
        exact ⟨false, rfl, fun _ => ⟨by omega, by omega⟩, rfl⟩
  case rest =>
    obtain ⟨b, rfl, hb, rfl⟩ := hcut
    rename World => w1
    go_upto_if 22 with fail
    go_cut [5] (fun s5 wx => ∃ p : Nat, s5 = .int .i64 (p : Int) ∧ p ≤ 100 ∧ wx = w1)
    case first =>
      cases b
      · obtain ⟨n0, n1⟩ := hb.out rfl
        obtain ⟨p, rfl⟩ : ∃ p : Nat, n = (p : Int) := ⟨n.toNat, by omega⟩
        go_wp2
        go_meet
        exact ⟨p, rfl, by omega, rfl⟩
      · go_wp2
        go_meet
        exact ⟨7, rfl, by omega, rfl⟩
    case rest =>
      obtain ⟨p, rfl, hp, rfl⟩ := hcut
      rename World => w1
      clear hb
      have HS1 : Hid (∀ u, Tab u → Calls Tryd.prog 14 #[.agg (mvA m), .agg (egA E), .int .i64 x, .int .i64 y, .int .i64 (p : Int)] u (Ret (.tuple #[.agg (mvA (dvN E x y p m).1), .int .i64 ((dvN E x y p m).2 : Int), .int .i64 0]) u)) := fun u hu => Steps14_ok E m x y p u hu HK.out (by omega)
      have HS2 : Hid (∀ u, Tab u → Calls Tryd.prog 14 #[.agg (mvA m), .agg (egA E), .int .i64 x, .int .i64 y, .int .i64 ((p : Int) + (q : Int))] u (Ret (.tuple #[.agg (mvA (dvN E x y (p + q) m).1), .int .i64 ((dvN E x y (p + q) m).2 : Int), .int .i64 0]) u)) := fun u hu => by
        have h := Steps14_ok E m x y (p + q) u hu HK.out (by omega)
        rwa [Int.natCast_add] at h
      have HKC := Lib.hid (HK.out.dvN p)
      have HS3 : Hid (∀ u, Tab u → Calls Tryd.prog 14 #[.agg (mvA (dvN E x y p m).1), .agg (egA E), .int .i64 x, .int .i64 y, .int .i64 (q : Int)] u (Ret (.tuple #[.agg (mvA (dvN E x y q (dvN E x y p m).1).1), .int .i64 ((dvN E x y q (dvN E x y p m).1).2 : Int), .int .i64 0]) u)) := fun u hu => Steps14_ok E _ x y q u hu HKC.out (by omega)
      obtain ⟨d1, d2⟩ := dvN_add (E := E) (tx := x) (ty := y) q p HK.out
      have D1 := Lib.hid d1
      have D2 := Lib.hid d2
      have l1 := dvN_le E x y p m
      have l2 := dvN_le E x y (p + q) m
      have l3 := dvN_le E x y q (dvN E x y p m).1
      clear d1 d2 HKC
      generalize dvN E x y q (dvN E x y p m).1 = R3 at *
      generalize dvN E x y (p + q) m = R2 at *
      generalize dvN E x y p m = R1 at *
      obtain ⟨r1, k1⟩ := R1
      obtain ⟨r2, k2⟩ := R2
      obtain ⟨r3, k3⟩ := R3
      dsimp only at l1 l2 l3
      go_wp2_with (first | (refine wpList_load_at (G0.out.goMv) rfl rfl rfl ?_) | (refine wpList_load_at (G0.out.goEg) rfl rfl rfl ?_))
      refine (HS1.out w1 (HT.out.keep G0.out.below)).mono ?_
      rintro e w2 ⟨rfl, b2⟩
      have G2 := Lib.hid (G0.out.keep b2)
      have G3 := Lib.hid (G2.out.mBeside r1)
      have A3 := Lib.hid (Kx.mMade G2.out.below r1)
      clear b2 G0 gx gy gn HS1
      go_upto_region 5 with (refine wpList_store_blk (c' := mvA r1) Tryd.sizeMv (alloc_blk _ _ _) rfl rfl rfl rfl rfl rfl (mvA_one _) ?_)
      generalize (w2.alloc (.cells #[.int .i64 0, .int .i64 0, .int .i64 0] 26)).setRow w2.heap.size (mvA r1) = w3 at *
      generalize w2.heap.size = ga at *
      clear G2
      obtain ⟨gx, gy, gn, -, -, -, -⟩ := G3.out.goC
      go_wp2_with (first | (refine wpList_load_at (G3.out.goMv) rfl rfl rfl ?_) | (refine wpList_load_at (G3.out.goEg) rfl rfl rfl ?_))
      refine (HS2.out w3 (HT.out.keep G3.out.below)).mono ?_
      rintro e w4 ⟨rfl, b4⟩
      have G4 := Lib.hid (G3.out.keep b4)
      have A4 := Lib.hid (A3.out.keep b4)
      have G5 := Lib.hid (G4.out.mBeside r2)
      have A5 := Lib.hid (A4.out.mBeside r2)
      have B5 := Lib.hid (Kx.mMade G4.out.below r2)
      clear b4 G3 A3 gx gy gn HS2
      go_upto_region 8 with (refine wpList_store_blk (c' := mvA r2) Tryd.sizeMv (alloc_blk _ _ _) rfl rfl rfl rfl rfl rfl (mvA_one _) ?_)
      generalize (w4.alloc (.cells #[.int .i64 0, .int .i64 0, .int .i64 0] 26)).setRow w4.heap.size (mvA r2) = w5 at *
      generalize w4.heap.size = gb at *
      clear G4 A4
      go_cut [85] (fun s85 wx => ∃ b : Bool, s85 = .bool b ∧ Hid ((b = true → r1.x = x ∧ r1.y = y ∧ 0 < k1) ∧ (b = false → ¬ (r1.x = x ∧ r1.y = y ∧ 0 < k1))) ∧ wx = w5)
      case first =>
        obtain ⟨gx, gy, gn, -, -, -, -⟩ := G5.out.goC
        obtain ⟨a0, a1, a2⟩ := A5.out.mv
        generalize r1.x = ux at *
        generalize r1.y = uy at *
        by_cases c1 : ux = x
        · have h1 : (ux == x) = true := by simpa using c1
          by_cases c2 : uy = y
          · have h2 : (uy == y) = true := by simpa using c2
            by_cases c3 : 0 < k1
            · have h3 : (0 : Int) < (k1 : Int) := by omega
              have HC := Lib.hid (And.intro c1 (And.intro c2 c3))
              clear c1 c2 c3
              go_wp2
              go_meet
              exact ⟨true, by rw [decide_eq_true HC.out.2.2], ⟨fun _ => HC.out, fun h => by cases h⟩, rfl⟩
            · have h3 : ¬ (0 : Int) < (k1 : Int) := by omega
              have H3 := Lib.hid c3
              have HC : Hid (¬ (ux = x ∧ uy = y ∧ 0 < k1)) := fun h => c3 h.2.2
              clear c1 c2 c3
              go_wp2
              go_meet
              exact ⟨false, by rw [decide_eq_false H3.out], ⟨(fun h => by cases h), fun _ => HC.out⟩, rfl⟩
          · have h2 : (uy == y) = false := by simpa using c2
            have HC : Hid (¬ (ux = x ∧ uy = y ∧ 0 < k1)) := fun h => c2 h.2.1
            clear c1 c2
            go_wp2
            go_meet
            exact ⟨false, rfl, ⟨(fun h => by cases h), fun _ => HC.out⟩, rfl⟩
        · have h1 : (ux == x) = false := by simpa using c1
          have HC : Hid (¬ (ux = x ∧ uy = y ∧ 0 < k1)) := fun h => c1 h.1
          clear c1
          go_wp2
          go_meet
          exact ⟨false, rfl, ⟨(fun h => by cases h), fun _ => HC.out⟩, rfl⟩
      case rest =>
        obtain ⟨b, rfl, hb, rfl⟩ := hcut
        rename World => w5
        cases b with
        | true =>
          obtain ⟨e1, e2⟩ := D1.out (hb.out.1 rfl)
          try dsimp only at e1 e2
          subst e1
          clear D1 D2 hb HS3
          have e3 : (k2 : Int) ≤ (k1 : Int) + 1 := by omega
          obtain ⟨a0, a1, a2⟩ := A5.out.mv
          obtain ⟨z0, z1, z2⟩ := B5.out.mv
          go_wp2_with fail
          refine (awake14_any w5 (HT.out.keep G5.out.below)).mono ?_
          rintro e w6 ⟨rfl, b6⟩
          have G6 := Lib.hid (G5.out.keep b6)
          clear b6
          go_wp2
          go_ret
          exact Ret.mk rfl G6.out.below
        | false =>
          obtain ⟨e1, e2⟩ := D2.out (hb.out.2 rfl)
          try dsimp only at e1 e2
          subst e1 e2
          clear D1 D2 hb
          obtain ⟨gx, gy, gn, -, -, -, -⟩ := G5.out.goC
          go_wp2_with (first | (refine wpList_load_at (loadVar_mv A5.out.blk) rfl rfl rfl ?_) | (refine wpList_load_at (G5.out.goEg) rfl rfl rfl ?_))
          refine (HS3.out w5 (HT.out.keep G5.out.below)).mono ?_
          rintro e w6 ⟨rfl, b6⟩
          have G6 := Lib.hid (G5.out.keep b6)
          have B6 := Lib.hid (B5.out.keep b6)
          have B7 := Lib.hid (B6.out.mBeside r2)
          have C7 := Lib.hid (Kx.mMade G6.out.below r2)
          clear b6 B5 A5 G5 gx gy gn HS3
          go_upto_region 11 with (refine wpList_store_blk (c' := mvA r2) Tryd.sizeMv (alloc_blk _ _ _) rfl rfl rfl rfl rfl rfl (mvA_one _) ?_)
          generalize (w6.alloc (.cells #[.int .i64 0, .int .i64 0, .int .i64 0] 26)).setRow w6.heap.size (mvA r2) = w7 at *
          generalize w6.heap.size = gc at *
          clear G6 B6
          go_wp2_with (first | (refine wpList_load_g (loadVar_mv B7.out.blk) rfl rfl (by rfl) ?_) | (refine wpList_load_g (loadVar_mv C7.out.blk) rfl rfl (by rfl) ?_) | (refine wpList_cmp_g (fun u => (run_eql r2 r2 u).trans (by rw [eqM_self])) rfl rfl rfl (by rfl) ?_; simp only [Act.put, List.setIfInBounds_toArray, List.set_cons_zero, List.set_cons_succ]))
          refine (awake14_any w7 (HT.out.keep B7.out.below)).mono ?_
          rintro e w8 ⟨rfl, b8⟩
          have B8 := Lib.hid (B7.out.keep b8)
          clear b8
          go_wp2
          go_ret
          exact Ret.mk rfl B8.out.below
theorem walk_DriveParts (m : Mv) (E : Eg) (x y n a : Int) (wa : (Lit.int .u8 a).wf = true) (w : World) (hT : Tab w) :
    Calls Tryd.prog 7 #[.agg (goA m E x y n), .int .u8 a] w (Ret (.bool true) w) := by
  have h : 0 ≤ a ∧ a ≤ 255 := by simpa [Lit.wf, IntKind.min, IntKind.max, IntKind.signed, IntKind.bits] using wa
  obtain ⟨q, rfl⟩ : ∃ q : Nat, a = (q : Int) := ⟨a.toNat, by omega⟩
  by_cases hk : okM E x y m
  · exact parts_ok m E x y n q (by omega) w hT hk
  · exact parts_bad m E x y n q (by omega) w hT hk
end Go.Proofs.YtckeplbmkjoiaaaDoor
