/- Stage 14: the reference's clamp, times and Step. -/
import Derived.Test.YtckeplbmkjoiaaaDoorDv4
import Derived.Test.YtckeplbmkjoiaaaDoorTak10
import Derived.Test.YtckeplbmkjoiaaaDoorRefTrig
import Derived.Test.YtckeplbmkjoiaaaDoorRefFloor
namespace Go.Proofs.YtckeplbmkjoiaaaDoor
open Go.RowKit
set_option linter.unusedVariables false
set_option linter.unusedSimpArgs false

set_option maxHeartbeats 400000 in
theorem rclamp14_any (v n : Int) (w : World) (h1 : 1 ≤ n) (h2 : n ≤ 64) :
    Calls Tryd.prog 25 #[.int .i64 v, .int .i64 n] w (fun e w' => e = .returned (.int .i64 (cl v n)) ∧ w = w') := by
  go_enter Tryd.func25, Tryd.ntmps25
  go_wp2
  all_goals (go_ret; refine ⟨retI ?_, rfl⟩; unfold cl; split <;> (try split) <;> omega)
set_option maxHeartbeats 1000000 in
theorem times14_any (a b : Int) (w : World) (ha : 0 ≤ a ∧ a ≤ 65536) (hb : -65536 ≤ b ∧ b ≤ 65536) :
    Calls Tryd.prog 26 #[.int .i64 a, .int .i64 b] w (Ret (.int .i64 (a * b / 65536)) w) := by
  have hp := Int.mul_le_mul_of_nonneg_left hb.1 ha.1
  have hq := Int.mul_le_mul_of_nonneg_left hb.2 ha.1
  have hab : -4294967296 ≤ a * b ∧ a * b ≤ 4294967296 := by omega
  have SA := Lib.hid (small64 (a := a) (by omega) (by omega))
  have SB := Lib.hid (small64 (a := b) (by omega) (by omega))
  have SAB := Lib.hid (small64 (a := a * b) (by omega) (by omega))
  have HF : Hid (rV (a * b / 65536) = a * b / 65536) := rV_in (by unfold Fit; omega)
  clear hp hq hab
  go_enter Tryd.func26, Tryd.ntmps26
  go_wp2_with fail
  refine (of_any _ _ (by omega) (by omega)).mono ?_
  rintro e w1 ⟨v1, rfl, hv1, b1⟩
  have HV1 := Lib.hid hv1
  clear hv1
  go_wp2_with fail
  refine (of_any _ _ (by omega) (by omega)).mono ?_
  rintro e w2 ⟨v2, rfl, hv2, b2⟩
  have HV2 := Lib.hid hv2
  clear hv2
  go_wp2_with fail
  refine (mulB_any v1 v2 a b _ (HV1.out.keep b2) HV2.out SA.out SB.out SAB.out).mono ?_
  rintro e w3 ⟨v3, rfl, hv3, b3⟩
  have HV3 := Lib.hid hv3
  clear hv3
  have B3 : Hid (Below w.heap.size w w3) := (b1.trans (b2.mono b1.size)).trans (b3.mono (Nat.le_trans b1.size b2.size))
  clear b1 b2 b3
  go_wp2_with fail
  refine (refFloor_any v3 (a * b) w3 HV3.out SAB.out).mono ?_
  rw [HF.out]
  rintro e w4 ⟨rfl, b4⟩
  have B4 := Lib.hid (B3.out.trans (b4.mono B3.out.size))
  clear b4
  go_wp2
  go_ret
  exact Ret.mk rfl B4.out

set_option maxRecDepth 100000 in
set_option maxHeartbeats 4000000 in
theorem rStep14_at (E : Eg) (m : Mv) (x y : Int) (w : World) (hT : RTab w) (hk : okM E x y m) (h : m.x = x ∧ m.y = y) :
    Calls Tryd.prog 13 #[.agg (mvA m), .agg (egA E), .int .i64 x, .int .i64 y] w (Ret (.tuple #[.agg (mvA (dvS E x y m).1), .bool (dvS E x y m).2]) w) := by
  have HR := Lib.hid (dvS_at (E := E) h)
  have e1 : (m.x == x) = true := by simpa using h.1
  have e2 : (m.y == y) = true := by simpa using h.2
  clear h hk
  have B := Lib.hid (Bn.new0 w m E)
  have HT := Lib.hid hT
  clear hT
  obtain ⟨x0, x1, x2⟩ := B.out.m.mv
  obtain ⟨y0, y1, y2, y3⟩ := B.out.e.eg
  have sz := Lib.hid B.out.lt
  go_enter Tryd.func13, Tryd.ntmps13
  go_wp2_with (first | (refine wpList_load_at (loadVar_mv B.out.m.blk) rfl rfl rfl ?_) | (refine wpList_store_blk (c' := mvA m) Tryd.sizeMv (B.out.r.blk) rfl rfl rfl rfl rfl rfl (mvA_one _) ?_))
  have B2 := Lib.hid (B.out.setR m)
  refine bodyPost_ret (results_mv1 Tryd.results13 _ rfl B2.out.r.blk) rfl (Ret.mk ?_ B2.out.below)
  rw [HR.out]
  rfl
theorem sq_range {a : Int} (h0 : -4194304 ≤ a) (h1 : a ≤ 4194304) : 0 ≤ a * a ∧ a * a ≤ 17592186044416 := by
  have e : ((a.natAbs * a.natAbs : Nat) : Int) = a * a := Int.natAbs_mul_self
  have := Nat.mul_le_mul (show a.natAbs ≤ 4194304 by omega) (show a.natAbs ≤ 4194304 by omega)
  omega
theorem Bn.drew {w W : World} {m r : Mv} {E : Eg} (h : Bn w W m E r) : Bn w W.drew m E r := ⟨h.m.drew, h.e.drew, h.r.drew⟩
theorem rroot14_any (n r : Int) (u : World) (h0 : 0 ≤ n) (h1 : n ≤ 18446744073709551615) (h : ∀ z, IsRoot n z → r = z) :
    Calls Tryd.prog 24 #[.int .u64 n] u (Ret (.int .u64 r) u) := by
  refine (root_any n u h0 h1).mono ?_
  rintro e w' ⟨z, hz, rfl, _, rfl⟩
  exact Ret.mk (by rw [h z hz]) (Below.refl _ _)
theorem far_range {x y : Int} {m : Mv} (hx : -4194304 ≤ x - m.x ∧ x - m.x ≤ 4194304) (hy : -4194304 ≤ y - m.y ∧ y - m.y ≤ 4194304) : 0 ≤ far x y m ∧ far x y m ≤ 8388608 := by
  have a := sq_range hx.1 hx.2
  have b := sq_range hy.1 hy.2
  have h := rt_is (n := (x - m.x) * (x - m.x) + (y - m.y) * (y - m.y)) (by omega)
  refine ⟨h.pos, ?_⟩
  refine Int.le_of_not_gt fun c => ?_
  have := sq_mono (a := 8388608) (b := far x y m) (by omega) (by omega)
  have g := h.le
  unfold far at this
  omega
set_option maxRecDepth 100000 in
set_option maxHeartbeats 4000000 in
theorem rStep14_x (E : Eg) (m : Mv) (x y : Int) (w : World) (hT : RTab w) (hk : okM E x y m) (h : ¬ m.x = x) :
    Calls Tryd.prog 13 #[.agg (mvA m), .agg (egA E), .int .i64 x, .int .i64 y] w (Ret (.tuple #[.agg (mvA (dvS E x y m).1), .bool (dvS E x y m).2]) w) := by
  have hn : ¬ (m.x = x ∧ m.y = y) := by omega
  have HN := Lib.hid hn
  have HS : Hid (∀ d : Nat, IsHead (x - m.x) (y - m.y) d → wn x y m = 256 * (d : Int)) := fun d hd' => by unfold wn; rw [hd_of hd']
  have HF : Hid (∀ r, IsRoot ((x - m.x) * (x - m.x) + (y - m.y) * (y - m.y)) r → far x y m = r) := fun r hr => rt_of hr
  have HAN : Hid (an E x y m = tw m.a (wn x y m) E.t) := rfl
  have HAR := Lib.hid (an_range E x y m)
  have HK := Lib.hid hk
  have hx0 : -4194304 ≤ x - m.x ∧ x - m.x ≤ 4194304 ∧ -4194304 ≤ y - m.y ∧ y - m.y ≤ 4194304 ∧ 0 ≤ m.x ∧ m.x < 4194304 ∧ 0 ≤ m.y ∧ m.y < 4194304 ∧ 0 ≤ x ∧ x < 4194304 ∧ 0 ≤ y ∧ y < 4194304 := by
    obtain ⟨⟨_, _, _, _, a0, a1, b0, b1⟩, ⟨t0, t1, t2, t3⟩, ⟨m0, m1, m2, m3⟩, _, _⟩ := hk
    omega
  obtain ⟨d0, d1, d2, d3, c0, c1, c2, c3, t0, t1, t2, t3⟩ := hx0
  have HFB := Lib.hid (far_range (m := m) (x := x) (y := y) ⟨d0, d1⟩ ⟨d2, d3⟩)
  have hk0 := hk.1
  have k0 := hk0.1
  have k1 := hk0.2.1
  have v0 := hk0.2.2.2.2.1
  have v1 := hk0.2.2.2.2.2.1
  have v2 := hk0.2.2.2.2.2.2.1
  have v3 := hk0.2.2.2.2.2.2.2
  clear hk hn hk0
  have hq : (m.x == x) = false := by simpa using h
  clear h
  have B := Lib.hid (Bn.new0 w m E)
  have HT := Lib.hid hT
  clear hT
  obtain ⟨x0, x1, x2⟩ := B.out.m.mv
  obtain ⟨y0, y1, y2, y3⟩ := B.out.e.eg
  have sz := Lib.hid B.out.lt
  go_enter Tryd.func13, Tryd.ntmps13
  go_wp2_with fail
  generalize hw1 : ((w.alloc (.cells (mvA m) 26)).alloc (.cells (egA E) 28)).alloc (.cells #[.int .i64 0, .int .i64 0, .int .i64 0] 26) = w1 at *
  clear hw1
  have HTR := Lib.hid (HT.out.keep B.out.below)
  refine (rheading_any (x - m.x) (y - m.y) w1 (HTR.out) (by unfold FarT; omega) (by unfold FarT; omega)).mono ?_
  rintro e w3 ⟨d, hd', rfl, b3⟩
  have B3 := Lib.hid (B.out.keep b3)
  have dl := hd'.1
  have hW := HS.out d hd'
  clear b3 B HS hd' x0 x1 x2 y0 y1 y2 y3
  obtain ⟨x0, x1, x2⟩ := B3.out.m.mv
  obtain ⟨y0, y1, y2, y3⟩ := B3.out.e.eg
  go_wp2_with fail
  refine (rtoward_any m.a (256 * (d : Int)) E.t w3).mono ?_
  rw [← hW, ← HAN.out]
  have HW := Lib.hid hW
  clear hW
  rintro e w4 ⟨rfl, b4⟩
  have B4 := Lib.hid (B3.out.keep b4)
  have a0 := HAR.out.1
  have a1 := HAR.out.2
  clear b4 B3 x0 x1 x2 y0 y1 y2 y3 HAN
  have f2 := B4.out.m.free 2
  have x2 := B4.out.m.mv.2.2
  have B5 := Lib.hid (B4.out.setA (an E x y m))
  obtain ⟨z0, z1, z2⟩ := B5.out.m.mv
  go_wp2_with fail
  generalize w4.setCell ⟨w.heap.size, 2, none⟩ (.int .i64 (an E x y m)) = w5 at *
  clear f2 x2 B4 z0 z1 z2
  refine (roff14_any (an E x y m) (wn x y m) w5).mono ?_
  rintro e w6 ⟨rfl, rfl⟩
  by_cases h2 : 8192 < off (an E x y m) (wn x y m)
  · have HR := Lib.hid (dvS_turn HN.out h2)
    go_wp2_with (first | (refine wpList_load_at (loadVar_mv B5.out.m.blk) rfl rfl rfl ?_) | (refine wpList_store_blk (c' := mvA ⟨m.x, m.y, an E x y m⟩) Tryd.sizeMv (B5.out.r.blk) rfl rfl rfl rfl rfl rfl (mvA_one _) ?_))
    have B7 := Lib.hid (B5.out.setR ⟨m.x, m.y, an E x y m⟩)
    refine bodyPost_ret (results_mv1 Tryd.results13 _ rfl B7.out.r.blk) rfl (Ret.mk ?_ B7.out.below)
    rw [HR.out]
    rfl

  have HR1 := Lib.hid (fun h3 => dvS_end (E := E) HN.out h2 h3)
  have HR2 := Lib.hid (fun h3 => dvS_go (E := E) HN.out h2 h3)
  obtain ⟨x0, x1, x2⟩ := B5.out.m.mv
  obtain ⟨y0, y1, y2, y3⟩ := B5.out.e.eg
  have sq1 := sq_range d0 d1
  have sq2 := sq_range d2 d3
  go_wp2_with fail
  go_quiet (fail)
  have B6 := Lib.hid (B5.out.drewN nq)
  clear x0 x1 x2 y0 y1 y2 y3
  obtain ⟨y0, y1, y2, y3⟩ := B6.out.e.eg
  obtain ⟨x0, x1, x2⟩ := B6.out.m.mv
  generalize w5.drewN nq = w6 at *
  have hfr := HF.out
  have KR := Lib.hid (calls_re (V := w6) (f := 24) (args := #[.int .u64 ((x - m.x) * (x - m.x) + (y - m.y) * (y - m.y))]) (v := .int .u64 (far x y m)) (fun u => rroot14_any _ _ u (by omega) (by omega) hfr))
  have r0 := HFB.out.1
  have r1 := HFB.out.2
  clear HF hfr HFB x0 x1 x2 y1 y2 y3
  generalize far x y m = r at *
  go_wp2
  have z0 := cell_regrown y0
  clear y0
  refine wp_region_quiet_below (by kernel_rfl) (by kernel_rfl) ?_
  repeat (go_big_quiet_step (with_reducible exact KR.out _ _))
  refine wpQuiet_nil ?_
  intro _ hw'
  obtain ⟨⟨dq, osq⟩, hw''⟩ := hw'
  subst hw''
  have hb4 := below_regrown w6 dq osq
  have B7 := Lib.hid (B6.out.keep hb4)
  clear z0 hb4 B6 sq1 sq2
  generalize Go.Sort.grow (redrawn w6 dq) osq = w7 at *
  obtain ⟨x0, x1, x2⟩ := B7.out.m.mv
  obtain ⟨y0, y1, y2, y3⟩ := B7.out.e.eg
  by_cases h3 : r ≤ E.s
  · have HR := Lib.hid (HR1.out h3)
    go_wp2_with (first | (refine wpList_load_at (loadVar_mv B7.out.m.blk) rfl rfl rfl ?_) | (refine wpList_store_blk (c' := mvA ⟨x, y, an E x y m⟩) Tryd.sizeMv (B7.out.r.blk) rfl rfl rfl rfl rfl rfl (mvA_one _) ?_))
    have B8 := Lib.hid (B7.out.setR ⟨x, y, an E x y m⟩)
    refine bodyPost_ret (results_mv1 Tryd.results13 _ rfl B8.out.r.blk) rfl (Ret.mk ?_ B8.out.below)
    rw [HR.out]
    rfl

  · have HR := Lib.hid (HR2.out (by omega))
    clear HR1 HR2
    have p1 := part_in k0 (cs_range (an E x y m))
    have p2 := part_in k0 (sn_range (an E x y m))
    have HM0 : Hid (∀ u, Calls Tryd.prog 26 #[.int .i64 E.s, .int .i64 (cs (an E x y m))] u (Ret (.int .i64 (E.s * cs (an E x y m) / 65536)) u)) := fun u => times14_any _ _ u ⟨k0, k1⟩ (cs_range _)
    have HM1 : Hid (∀ u, Calls Tryd.prog 26 #[.int .i64 E.s, .int .i64 (sn (an E x y m))] u (Ret (.int .i64 (E.s * sn (an E x y m) / 65536)) u)) := fun u => times14_any _ _ u ⟨k0, k1⟩ (sn_range _)
    generalize E.s * cs (an E x y m) / 65536 = p at *
    generalize E.s * sn (an E x y m) / 65536 = q at *
    have HK0 : Hid (∀ u, Calls Tryd.prog 25 #[.int .i64 (m.x + p), .int .i64 E.w] u (fun e w' => e = .returned (.int .i64 (cl (m.x + p) E.w)) ∧ u = w')) := fun u => rclamp14_any _ _ u v0 v1
    have HK1 : Hid (∀ u, Calls Tryd.prog 25 #[.int .i64 (m.y + q), .int .i64 E.h] u (fun e w' => e = .returned (.int .i64 (cl (m.y + q) E.h)) ∧ u = w')) := fun u => rclamp14_any _ _ u v2 v3
    obtain ⟨p1a, p1b⟩ := p1
    obtain ⟨p2a, p2b⟩ := p2
    have g1 : IntKind.i64.wrap (m.x + p) = m.x + p := IntWalk.i64_in _ (by omega)
    have g2 : IntKind.i64.wrap (m.y + q) = m.y + q := IntWalk.i64_in _ (by omega)
    generalize cl (m.x + p) E.w = u0 at *
    generalize cl (m.y + q) E.h = u1 at *
    rw [← g1] at HK0
    rw [← g2] at HK1
    clear g1 g2
    have HTW : Hid (∀ u, Below w.heap.size w u → RTab u) := fun u hu => HT.out.keep hu
    clear HTR
    go_wp2_with fail
    have B0a := Lib.hid B7.out.drew
    refine wp_regionT (m := 13) (R := fun _ => True) (B := (fun w' : World => w'.cell? ⟨w.heap.size, 0, none⟩ = some (.int .i64 m.x) ∧ w'.cell? ⟨w.heap.size, 2, none⟩ = some (.int .i64 (an E x y m)) ∧ w'.cell? ⟨w.heap.size + 1, 0, none⟩ = some (.int .i64 E.s) ∧ w'.cell? ⟨w.heap.size + 1, 2, none⟩ = some (.int .i64 E.w))) (by kernel_rfl) ?_
    clear B7 x0 x1 x2 y0 y1 y2 y3
    generalize w7.drew = w0a at *
    have HBB : Hid ((fun w' : World => w'.cell? ⟨w.heap.size, 0, none⟩ = some (.int .i64 m.x) ∧ w'.cell? ⟨w.heap.size, 2, none⟩ = some (.int .i64 (an E x y m)) ∧ w'.cell? ⟨w.heap.size + 1, 0, none⟩ = some (.int .i64 E.s) ∧ w'.cell? ⟨w.heap.size + 1, 2, none⟩ = some (.int .i64 E.w)) w0a) := ⟨B0a.out.m.mv.1, B0a.out.m.mv.2.2, B0a.out.e.eg.1, B0a.out.e.eg.2.2.1⟩
    have HS : Hid (True ∧ (fun w' : World => w'.cell? ⟨w.heap.size, 0, none⟩ = some (.int .i64 m.x) ∧ w'.cell? ⟨w.heap.size, 2, none⟩ = some (.int .i64 (an E x y m)) ∧ w'.cell? ⟨w.heap.size + 1, 0, none⟩ = some (.int .i64 E.s) ∧ w'.cell? ⟨w.heap.size + 1, 2, none⟩ = some (.int .i64 E.w)) w0a) := ⟨trivial, HBB.out⟩
    simp only [List.size_toArray, List.length_cons, List.length_nil, Nat.reduceAdd, Array.replicate_succ, Array.replicate_zero, List.push_toArray, List.nil_append, List.cons_append]
    refine wpAnyT_take (i := 0) (v := ?_) rfl (by kernel_rfl) (by kernel_rfl) (by kernel_rfl) (by kernel_rfl) (by kernel_rfl) (by kernel_rfl) (fun _ _ _ h => h) (Or.inl ⟨by rfl, ?_⟩) HS.out ?_
    rotate_left
    · rintro w' ⟨-, hb0, hb1, hb2, hb3⟩
      go_simp
      with_reducible rfl
    simp only [Act.put, List.getElem_toArray, List.getElem_cons_zero, List.getElem_cons_succ, List.setIfInBounds_toArray, List.set_cons_zero, List.set_cons_succ]
    refine wpAnyT_take (i := 1) (v := ?_) rfl (by kernel_rfl) (by kernel_rfl) (by kernel_rfl) (by kernel_rfl) (by kernel_rfl) (by kernel_rfl) (fun _ _ _ h => h) (Or.inl ⟨by rfl, ?_⟩) HS.out ?_
    rotate_left
    · rintro w' ⟨-, hb0, hb1, hb2, hb3⟩
      go_simp
      with_reducible rfl
    simp only [Act.put, List.getElem_toArray, List.getElem_cons_zero, List.getElem_cons_succ, List.setIfInBounds_toArray, List.set_cons_zero, List.set_cons_succ]
    refine wpAnyT_take (i := 2) (v := ?_) rfl (by kernel_rfl) (by kernel_rfl) (by kernel_rfl) (by kernel_rfl) (by kernel_rfl) (by kernel_rfl) (fun _ _ _ h => h) (Or.inl ⟨by rfl, ?_⟩) HS.out ?_
    rotate_left
    · rintro w' ⟨-, hb0, hb1, hb2, hb3⟩
      go_simp
      with_reducible rfl
    simp only [Act.put, List.getElem_toArray, List.getElem_cons_zero, List.getElem_cons_succ, List.setIfInBounds_toArray, List.set_cons_zero, List.set_cons_succ]
    refine wpAnyT_take (i := 3) (v := ?_) rfl (by kernel_rfl) (by kernel_rfl) (by kernel_rfl) (by kernel_rfl) (by kernel_rfl) (by kernel_rfl) (fun _ _ _ h => h) (Or.inl ⟨by rfl, ?_⟩) HS.out ?_
    rotate_left
    · rintro w' ⟨-, hb0, hb1, hb2, hb3⟩
      go_simp
      with_reducible rfl
    simp only [Act.put, List.getElem_toArray, List.getElem_cons_zero, List.getElem_cons_succ, List.setIfInBounds_toArray, List.set_cons_zero, List.set_cons_succ]
    refine wpAnyT_take (i := 4) (v := ?_) rfl (by kernel_rfl) (by kernel_rfl) (by kernel_rfl) (by kernel_rfl) (by kernel_rfl) (by kernel_rfl) (fun _ _ _ h => h) (Or.inl ⟨by rfl, ?_⟩) HS.out ?_
    rotate_left
    · rintro w' ⟨-, hb0, hb1, hb2, hb3⟩
      go_simp
      with_reducible rfl
    simp only [Act.put, List.getElem_toArray, List.getElem_cons_zero, List.getElem_cons_succ, List.setIfInBounds_toArray, List.set_cons_zero, List.set_cons_succ]
    refine wpAnyT_take (i := 5) (v := ?_) rfl (by kernel_rfl) (by kernel_rfl) (by kernel_rfl) (by kernel_rfl) (by kernel_rfl) (by kernel_rfl) (fun _ _ _ h => h) (Or.inl ⟨by rfl, ?_⟩) HS.out ?_
    rotate_left
    · rintro w' ⟨-, hb0, hb1, hb2, hb3⟩
      go_simp
      with_reducible rfl
    simp only [Act.put, List.getElem_toArray, List.getElem_cons_zero, List.getElem_cons_succ, List.setIfInBounds_toArray, List.set_cons_zero, List.set_cons_succ]
    refine wpAnyT_take (i := 9) (v := ?_) rfl (by kernel_rfl) (by kernel_rfl) (by kernel_rfl) (by kernel_rfl) (by kernel_rfl) (by kernel_rfl) (fun _ _ _ h => h) (Or.inl ⟨by rfl, ?_⟩) HS.out ?_
    rotate_left
    · rintro w' ⟨-, hb0, hb1, hb2, hb3⟩
      go_simp
      with_reducible rfl
    simp only [Act.put, List.getElem_toArray, List.getElem_cons_zero, List.getElem_cons_succ, List.setIfInBounds_toArray, List.set_cons_zero, List.set_cons_succ]
    refine wpAnyT_take (i := 10) (v := ?_) rfl (by kernel_rfl) (by kernel_rfl) (by kernel_rfl) (by kernel_rfl) (by kernel_rfl) (by kernel_rfl) (fun _ _ _ h => h) (Or.inl ⟨by rfl, ?_⟩) HS.out ?_
    rotate_left
    · rintro w' ⟨-, hb0, hb1, hb2, hb3⟩
      go_simp
      with_reducible rfl
    simp only [Act.put, List.getElem_toArray, List.getElem_cons_zero, List.getElem_cons_succ, List.setIfInBounds_toArray, List.set_cons_zero, List.set_cons_succ]
    refine wpAnyT_one (i := 6) (by kernel_rfl) rfl (fun K' hK => ?_)
    rw [if_pos (by rfl)]
    simp only [List.getElem_toArray, List.getElem_cons_zero, List.getElem_cons_succ, List.setIfInBounds_toArray, List.set_cons_zero, List.set_cons_succ] at hK ⊢
    have HK' := Lib.hid hK
    clear hK
    go_simp
    refine (rcos_any (an E x y m) w0a (HTW.out _ B0a.out.below)).mono ?_
    rintro e w0b ⟨rfl, bb⟩
    have B0b := Lib.hid (B0a.out.keep bb)
    clear bb B0a HBB HS
    have HBB : Hid ((fun w' : World => w'.cell? ⟨w.heap.size, 0, none⟩ = some (.int .i64 m.x) ∧ w'.cell? ⟨w.heap.size, 2, none⟩ = some (.int .i64 (an E x y m)) ∧ w'.cell? ⟨w.heap.size + 1, 0, none⟩ = some (.int .i64 E.s) ∧ w'.cell? ⟨w.heap.size + 1, 2, none⟩ = some (.int .i64 E.w)) w0b) := ⟨B0b.out.m.mv.1, B0b.out.m.mv.2.2, B0b.out.e.eg.1, B0b.out.e.eg.2.2.1⟩
    refine HK'.out _ _ trivial (fun _ => HBB.out) ?_
    clear HK'
    refine wpAnyT_one (i := 7) (by kernel_rfl) rfl (fun K' hK => ?_)
    rw [if_pos (by rfl)]
    simp only [List.getElem_toArray, List.getElem_cons_zero, List.getElem_cons_succ, List.setIfInBounds_toArray, List.set_cons_zero, List.set_cons_succ] at hK ⊢
    have HK' := Lib.hid hK
    clear hK
    go_simp
    refine (HM0.out w0b).mono ?_
    rintro e w0c ⟨rfl, bb⟩
    have B0c := Lib.hid (B0b.out.keep bb)
    clear bb B0b HBB
    have HBB : Hid ((fun w' : World => w'.cell? ⟨w.heap.size, 0, none⟩ = some (.int .i64 m.x) ∧ w'.cell? ⟨w.heap.size, 2, none⟩ = some (.int .i64 (an E x y m)) ∧ w'.cell? ⟨w.heap.size + 1, 0, none⟩ = some (.int .i64 E.s) ∧ w'.cell? ⟨w.heap.size + 1, 2, none⟩ = some (.int .i64 E.w)) w0c) := ⟨B0c.out.m.mv.1, B0c.out.m.mv.2.2, B0c.out.e.eg.1, B0c.out.e.eg.2.2.1⟩
    refine HK'.out _ _ trivial (fun _ => HBB.out) ?_
    clear HK'
    refine wpAnyT_one (i := 8) (by kernel_rfl) rfl (fun K' hK => ?_)
    rw [if_pos (by rfl)]
    simp only [List.getElem_toArray, List.getElem_cons_zero, List.getElem_cons_succ, List.setIfInBounds_toArray, List.set_cons_zero, List.set_cons_succ] at hK ⊢
    have HK' := Lib.hid hK
    clear hK
    go_simp
    refine HK'.out _ _ trivial (fun _ => HBB.out) ?_
    clear HK'
    refine wpAnyT_one (i := 11) (by kernel_rfl) rfl (fun K' hK => ?_)
    rw [if_pos (by rfl)]
    simp only [List.getElem_toArray, List.getElem_cons_zero, List.getElem_cons_succ, List.setIfInBounds_toArray, List.set_cons_zero, List.set_cons_succ] at hK ⊢
    have HK' := Lib.hid hK
    clear hK
    go_simp
    refine (HK0.out w0c).mono ?_
    rintro e w' ⟨rfl, rfl⟩
    refine HK'.out _ _ trivial (fun _ => HBB.out) ?_
    clear HK'
    refine wpAnyT_one (i := 12) (by kernel_rfl) rfl (fun K' hK => ?_)
    rw [if_pos (by rfl)]
    simp only [List.getElem_toArray, List.getElem_cons_zero, List.getElem_cons_succ, List.setIfInBounds_toArray, List.set_cons_zero, List.set_cons_succ] at hK ⊢
    have HK' := Lib.hid hK
    clear hK
    go_simp
    refine HK'.out _ _ trivial (fun _ => HBB.out) ?_
    clear HK'
    refine wpAnyT_one (i := 13) (by kernel_rfl) rfl (fun K' hK => ?_)
    rw [if_pos (by rfl)]
    simp only [List.getElem_toArray, List.getElem_cons_zero, List.getElem_cons_succ, List.setIfInBounds_toArray, List.set_cons_zero, List.set_cons_succ] at hK ⊢
    have HK' := Lib.hid hK
    clear hK
    have eq := B0c.out.m.mv.1
    have fq := B0c.out.m.free 0
    go_simp
    have B8 := Lib.hid (B0c.out.setX u0)
    refine HK'.out _ _ trivial (fun hh => absurd hh (by decide)) ?_
    clear HK' eq fq HBB B0c
    refine wpAnyT_done (by kernel_rfl) ?_ _
    generalize w0c.setCell ⟨w.heap.size, 0, none⟩ (.int .i64 u0) = w8 at *
    obtain ⟨x0, x1, x2⟩ := B8.out.m.mv
    obtain ⟨y0, y1, y2, y3⟩ := B8.out.e.eg

    go_wp2_with fail
    have B1a := Lib.hid B8.out.drew
    refine wp_regionT (m := 13) (R := fun _ => True) (B := (fun w' : World => w'.cell? ⟨w.heap.size, 1, none⟩ = some (.int .i64 m.y) ∧ w'.cell? ⟨w.heap.size, 2, none⟩ = some (.int .i64 (an E x y m)) ∧ w'.cell? ⟨w.heap.size + 1, 0, none⟩ = some (.int .i64 E.s) ∧ w'.cell? ⟨w.heap.size + 1, 3, none⟩ = some (.int .i64 E.h))) (by kernel_rfl) ?_
    clear B8 x0 x1 x2 y0 y1 y2 y3
    generalize w8.drew = w1a at *
    have HBB : Hid ((fun w' : World => w'.cell? ⟨w.heap.size, 1, none⟩ = some (.int .i64 m.y) ∧ w'.cell? ⟨w.heap.size, 2, none⟩ = some (.int .i64 (an E x y m)) ∧ w'.cell? ⟨w.heap.size + 1, 0, none⟩ = some (.int .i64 E.s) ∧ w'.cell? ⟨w.heap.size + 1, 3, none⟩ = some (.int .i64 E.h)) w1a) := ⟨B1a.out.m.mv.2.1, B1a.out.m.mv.2.2, B1a.out.e.eg.1, B1a.out.e.eg.2.2.2⟩
    have HS : Hid (True ∧ (fun w' : World => w'.cell? ⟨w.heap.size, 1, none⟩ = some (.int .i64 m.y) ∧ w'.cell? ⟨w.heap.size, 2, none⟩ = some (.int .i64 (an E x y m)) ∧ w'.cell? ⟨w.heap.size + 1, 0, none⟩ = some (.int .i64 E.s) ∧ w'.cell? ⟨w.heap.size + 1, 3, none⟩ = some (.int .i64 E.h)) w1a) := ⟨trivial, HBB.out⟩
    simp only [List.size_toArray, List.length_cons, List.length_nil, Nat.reduceAdd, Array.replicate_succ, Array.replicate_zero, List.push_toArray, List.nil_append, List.cons_append]
    refine wpAnyT_take (i := 0) (v := ?_) rfl (by kernel_rfl) (by kernel_rfl) (by kernel_rfl) (by kernel_rfl) (by kernel_rfl) (by kernel_rfl) (fun _ _ _ h => h) (Or.inl ⟨by rfl, ?_⟩) HS.out ?_
    rotate_left
    · rintro w' ⟨-, hb0, hb1, hb2, hb3⟩
      go_simp
      with_reducible rfl
    simp only [Act.put, List.getElem_toArray, List.getElem_cons_zero, List.getElem_cons_succ, List.setIfInBounds_toArray, List.set_cons_zero, List.set_cons_succ]
    refine wpAnyT_take (i := 1) (v := ?_) rfl (by kernel_rfl) (by kernel_rfl) (by kernel_rfl) (by kernel_rfl) (by kernel_rfl) (by kernel_rfl) (fun _ _ _ h => h) (Or.inl ⟨by rfl, ?_⟩) HS.out ?_
    rotate_left
    · rintro w' ⟨-, hb0, hb1, hb2, hb3⟩
      go_simp
      with_reducible rfl
    simp only [Act.put, List.getElem_toArray, List.getElem_cons_zero, List.getElem_cons_succ, List.setIfInBounds_toArray, List.set_cons_zero, List.set_cons_succ]
    refine wpAnyT_take (i := 2) (v := ?_) rfl (by kernel_rfl) (by kernel_rfl) (by kernel_rfl) (by kernel_rfl) (by kernel_rfl) (by kernel_rfl) (fun _ _ _ h => h) (Or.inl ⟨by rfl, ?_⟩) HS.out ?_
    rotate_left
    · rintro w' ⟨-, hb0, hb1, hb2, hb3⟩
      go_simp
      with_reducible rfl
    simp only [Act.put, List.getElem_toArray, List.getElem_cons_zero, List.getElem_cons_succ, List.setIfInBounds_toArray, List.set_cons_zero, List.set_cons_succ]
    refine wpAnyT_take (i := 3) (v := ?_) rfl (by kernel_rfl) (by kernel_rfl) (by kernel_rfl) (by kernel_rfl) (by kernel_rfl) (by kernel_rfl) (fun _ _ _ h => h) (Or.inl ⟨by rfl, ?_⟩) HS.out ?_
    rotate_left
    · rintro w' ⟨-, hb0, hb1, hb2, hb3⟩
      go_simp
      with_reducible rfl
    simp only [Act.put, List.getElem_toArray, List.getElem_cons_zero, List.getElem_cons_succ, List.setIfInBounds_toArray, List.set_cons_zero, List.set_cons_succ]
    refine wpAnyT_take (i := 4) (v := ?_) rfl (by kernel_rfl) (by kernel_rfl) (by kernel_rfl) (by kernel_rfl) (by kernel_rfl) (by kernel_rfl) (fun _ _ _ h => h) (Or.inl ⟨by rfl, ?_⟩) HS.out ?_
    rotate_left
    · rintro w' ⟨-, hb0, hb1, hb2, hb3⟩
      go_simp
      with_reducible rfl
    simp only [Act.put, List.getElem_toArray, List.getElem_cons_zero, List.getElem_cons_succ, List.setIfInBounds_toArray, List.set_cons_zero, List.set_cons_succ]
    refine wpAnyT_take (i := 5) (v := ?_) rfl (by kernel_rfl) (by kernel_rfl) (by kernel_rfl) (by kernel_rfl) (by kernel_rfl) (by kernel_rfl) (fun _ _ _ h => h) (Or.inl ⟨by rfl, ?_⟩) HS.out ?_
    rotate_left
    · rintro w' ⟨-, hb0, hb1, hb2, hb3⟩
      go_simp
      with_reducible rfl
    simp only [Act.put, List.getElem_toArray, List.getElem_cons_zero, List.getElem_cons_succ, List.setIfInBounds_toArray, List.set_cons_zero, List.set_cons_succ]
    refine wpAnyT_take (i := 9) (v := ?_) rfl (by kernel_rfl) (by kernel_rfl) (by kernel_rfl) (by kernel_rfl) (by kernel_rfl) (by kernel_rfl) (fun _ _ _ h => h) (Or.inl ⟨by rfl, ?_⟩) HS.out ?_
    rotate_left
    · rintro w' ⟨-, hb0, hb1, hb2, hb3⟩
      go_simp
      with_reducible rfl
    simp only [Act.put, List.getElem_toArray, List.getElem_cons_zero, List.getElem_cons_succ, List.setIfInBounds_toArray, List.set_cons_zero, List.set_cons_succ]
    refine wpAnyT_take (i := 10) (v := ?_) rfl (by kernel_rfl) (by kernel_rfl) (by kernel_rfl) (by kernel_rfl) (by kernel_rfl) (by kernel_rfl) (fun _ _ _ h => h) (Or.inl ⟨by rfl, ?_⟩) HS.out ?_
    rotate_left
    · rintro w' ⟨-, hb0, hb1, hb2, hb3⟩
      go_simp
      with_reducible rfl
    simp only [Act.put, List.getElem_toArray, List.getElem_cons_zero, List.getElem_cons_succ, List.setIfInBounds_toArray, List.set_cons_zero, List.set_cons_succ]
    refine wpAnyT_one (i := 6) (by kernel_rfl) rfl (fun K' hK => ?_)
    rw [if_pos (by rfl)]
    simp only [List.getElem_toArray, List.getElem_cons_zero, List.getElem_cons_succ, List.setIfInBounds_toArray, List.set_cons_zero, List.set_cons_succ] at hK ⊢
    have HK' := Lib.hid hK
    clear hK
    go_simp
    refine (rsin_any (an E x y m) w1a (HTW.out _ B1a.out.below)).mono ?_
    rintro e w1b ⟨rfl, bb⟩
    have B1b := Lib.hid (B1a.out.keep bb)
    clear bb B1a HBB HS
    have HBB : Hid ((fun w' : World => w'.cell? ⟨w.heap.size, 1, none⟩ = some (.int .i64 m.y) ∧ w'.cell? ⟨w.heap.size, 2, none⟩ = some (.int .i64 (an E x y m)) ∧ w'.cell? ⟨w.heap.size + 1, 0, none⟩ = some (.int .i64 E.s) ∧ w'.cell? ⟨w.heap.size + 1, 3, none⟩ = some (.int .i64 E.h)) w1b) := ⟨B1b.out.m.mv.2.1, B1b.out.m.mv.2.2, B1b.out.e.eg.1, B1b.out.e.eg.2.2.2⟩
    refine HK'.out _ _ trivial (fun _ => HBB.out) ?_
    clear HK'
    refine wpAnyT_one (i := 7) (by kernel_rfl) rfl (fun K' hK => ?_)
    rw [if_pos (by rfl)]
    simp only [List.getElem_toArray, List.getElem_cons_zero, List.getElem_cons_succ, List.setIfInBounds_toArray, List.set_cons_zero, List.set_cons_succ] at hK ⊢
    have HK' := Lib.hid hK
    clear hK
    go_simp
    refine (HM1.out w1b).mono ?_
    rintro e w1c ⟨rfl, bb⟩
    have B1c := Lib.hid (B1b.out.keep bb)
    clear bb B1b HBB
    have HBB : Hid ((fun w' : World => w'.cell? ⟨w.heap.size, 1, none⟩ = some (.int .i64 m.y) ∧ w'.cell? ⟨w.heap.size, 2, none⟩ = some (.int .i64 (an E x y m)) ∧ w'.cell? ⟨w.heap.size + 1, 0, none⟩ = some (.int .i64 E.s) ∧ w'.cell? ⟨w.heap.size + 1, 3, none⟩ = some (.int .i64 E.h)) w1c) := ⟨B1c.out.m.mv.2.1, B1c.out.m.mv.2.2, B1c.out.e.eg.1, B1c.out.e.eg.2.2.2⟩
    refine HK'.out _ _ trivial (fun _ => HBB.out) ?_
    clear HK'
    refine wpAnyT_one (i := 8) (by kernel_rfl) rfl (fun K' hK => ?_)
    rw [if_pos (by rfl)]
    simp only [List.getElem_toArray, List.getElem_cons_zero, List.getElem_cons_succ, List.setIfInBounds_toArray, List.set_cons_zero, List.set_cons_succ] at hK ⊢
    have HK' := Lib.hid hK
    clear hK
    go_simp
    refine HK'.out _ _ trivial (fun _ => HBB.out) ?_
    clear HK'
    refine wpAnyT_one (i := 11) (by kernel_rfl) rfl (fun K' hK => ?_)
    rw [if_pos (by rfl)]
    simp only [List.getElem_toArray, List.getElem_cons_zero, List.getElem_cons_succ, List.setIfInBounds_toArray, List.set_cons_zero, List.set_cons_succ] at hK ⊢
    have HK' := Lib.hid hK
    clear hK
    go_simp
    refine (HK1.out w1c).mono ?_
    rintro e w' ⟨rfl, rfl⟩
    refine HK'.out _ _ trivial (fun _ => HBB.out) ?_
    clear HK'
    refine wpAnyT_one (i := 12) (by kernel_rfl) rfl (fun K' hK => ?_)
    rw [if_pos (by rfl)]
    simp only [List.getElem_toArray, List.getElem_cons_zero, List.getElem_cons_succ, List.setIfInBounds_toArray, List.set_cons_zero, List.set_cons_succ] at hK ⊢
    have HK' := Lib.hid hK
    clear hK
    go_simp
    refine HK'.out _ _ trivial (fun _ => HBB.out) ?_
    clear HK'
    refine wpAnyT_one (i := 13) (by kernel_rfl) rfl (fun K' hK => ?_)
    rw [if_pos (by rfl)]
    simp only [List.getElem_toArray, List.getElem_cons_zero, List.getElem_cons_succ, List.setIfInBounds_toArray, List.set_cons_zero, List.set_cons_succ] at hK ⊢
    have HK' := Lib.hid hK
    clear hK
    have eq := B1c.out.m.mv.2.1
    have fq := B1c.out.m.free 1
    go_simp
    have B9 := Lib.hid (B1c.out.setY u1)
    refine HK'.out _ _ trivial (fun hh => absurd hh (by decide)) ?_
    clear HK' eq fq HBB B1c
    refine wpAnyT_done (by kernel_rfl) ?_ _
    generalize w1c.setCell ⟨w.heap.size, 1, none⟩ (.int .i64 u1) = w9 at *
    obtain ⟨x0, x1, x2⟩ := B9.out.m.mv
    obtain ⟨y0, y1, y2, y3⟩ := B9.out.e.eg

    go_wp2_with (first | (refine wpList_load_at (loadVar_mv B9.out.m.blk) rfl rfl rfl ?_) | (refine wpList_store_blk (c' := mvA ⟨u0, u1, an E x y m⟩) Tryd.sizeMv (B9.out.r.blk) rfl rfl rfl rfl rfl rfl (mvA_one _) ?_))
    have B10 := Lib.hid (B9.out.setR ⟨u0, u1, an E x y m⟩)
    refine bodyPost_ret (results_mv1 Tryd.results13 _ rfl B10.out.r.blk) rfl (Ret.mk ?_ B10.out.below)
    rw [HR.out]
    rfl

set_option maxRecDepth 100000 in
set_option maxHeartbeats 4000000 in
theorem rStep14_y (E : Eg) (m : Mv) (x y : Int) (w : World) (hT : RTab w) (hk : okM E x y m) (h : m.x = x) (h2 : ¬ m.y = y) :
    Calls Tryd.prog 13 #[.agg (mvA m), .agg (egA E), .int .i64 x, .int .i64 y] w (Ret (.tuple #[.agg (mvA (dvS E x y m).1), .bool (dvS E x y m).2]) w) := by
  have hn : ¬ (m.x = x ∧ m.y = y) := by omega
  have HN := Lib.hid hn
  have HS : Hid (∀ d : Nat, IsHead (x - m.x) (y - m.y) d → wn x y m = 256 * (d : Int)) := fun d hd' => by unfold wn; rw [hd_of hd']
  have HF : Hid (∀ r, IsRoot ((x - m.x) * (x - m.x) + (y - m.y) * (y - m.y)) r → far x y m = r) := fun r hr => rt_of hr
  have HAN : Hid (an E x y m = tw m.a (wn x y m) E.t) := rfl
  have HAR := Lib.hid (an_range E x y m)
  have HK := Lib.hid hk
  have hx0 : -4194304 ≤ x - m.x ∧ x - m.x ≤ 4194304 ∧ -4194304 ≤ y - m.y ∧ y - m.y ≤ 4194304 ∧ 0 ≤ m.x ∧ m.x < 4194304 ∧ 0 ≤ m.y ∧ m.y < 4194304 ∧ 0 ≤ x ∧ x < 4194304 ∧ 0 ≤ y ∧ y < 4194304 := by
    obtain ⟨⟨_, _, _, _, a0, a1, b0, b1⟩, ⟨t0, t1, t2, t3⟩, ⟨m0, m1, m2, m3⟩, _, _⟩ := hk
    omega
  obtain ⟨d0, d1, d2, d3, c0, c1, c2, c3, t0, t1, t2, t3⟩ := hx0
  have HFB := Lib.hid (far_range (m := m) (x := x) (y := y) ⟨d0, d1⟩ ⟨d2, d3⟩)
  have hk0 := hk.1
  have k0 := hk0.1
  have k1 := hk0.2.1
  have v0 := hk0.2.2.2.2.1
  have v1 := hk0.2.2.2.2.2.1
  have v2 := hk0.2.2.2.2.2.2.1
  have v3 := hk0.2.2.2.2.2.2.2
  clear hk hn hk0
  have hq : (m.x == x) = true := by simpa using h
  have hq2 : (m.y == y) = false := by simpa using h2
  clear h h2
  have B := Lib.hid (Bn.new0 w m E)
  have HT := Lib.hid hT
  clear hT
  obtain ⟨x0, x1, x2⟩ := B.out.m.mv
  obtain ⟨y0, y1, y2, y3⟩ := B.out.e.eg
  have sz := Lib.hid B.out.lt
  go_enter Tryd.func13, Tryd.ntmps13
  go_wp2_with fail
  generalize hw1 : ((w.alloc (.cells (mvA m) 26)).alloc (.cells (egA E) 28)).alloc (.cells #[.int .i64 0, .int .i64 0, .int .i64 0] 26) = w1 at *
  clear hw1
  have HTR := Lib.hid (HT.out.keep B.out.below)
  refine (rheading_any (x - m.x) (y - m.y) w1 (HTR.out) (by unfold FarT; omega) (by unfold FarT; omega)).mono ?_
  rintro e w3 ⟨d, hd', rfl, b3⟩
  have B3 := Lib.hid (B.out.keep b3)
  have dl := hd'.1
  have hW := HS.out d hd'
  clear b3 B HS hd' x0 x1 x2 y0 y1 y2 y3
  obtain ⟨x0, x1, x2⟩ := B3.out.m.mv
  obtain ⟨y0, y1, y2, y3⟩ := B3.out.e.eg
  go_wp2_with fail
  refine (rtoward_any m.a (256 * (d : Int)) E.t w3).mono ?_
  rw [← hW, ← HAN.out]
  have HW := Lib.hid hW
  clear hW
  rintro e w4 ⟨rfl, b4⟩
  have B4 := Lib.hid (B3.out.keep b4)
  have a0 := HAR.out.1
  have a1 := HAR.out.2
  clear b4 B3 x0 x1 x2 y0 y1 y2 y3 HAN
  have f2 := B4.out.m.free 2
  have x2 := B4.out.m.mv.2.2
  have B5 := Lib.hid (B4.out.setA (an E x y m))
  obtain ⟨z0, z1, z2⟩ := B5.out.m.mv
  go_wp2_with fail
  generalize w4.setCell ⟨w.heap.size, 2, none⟩ (.int .i64 (an E x y m)) = w5 at *
  clear f2 x2 B4 z0 z1 z2
  refine (roff14_any (an E x y m) (wn x y m) w5).mono ?_
  rintro e w6 ⟨rfl, rfl⟩
  by_cases h2 : 8192 < off (an E x y m) (wn x y m)
  · have HR := Lib.hid (dvS_turn HN.out h2)
    go_wp2_with (first | (refine wpList_load_at (loadVar_mv B5.out.m.blk) rfl rfl rfl ?_) | (refine wpList_store_blk (c' := mvA ⟨m.x, m.y, an E x y m⟩) Tryd.sizeMv (B5.out.r.blk) rfl rfl rfl rfl rfl rfl (mvA_one _) ?_))
    have B7 := Lib.hid (B5.out.setR ⟨m.x, m.y, an E x y m⟩)
    refine bodyPost_ret (results_mv1 Tryd.results13 _ rfl B7.out.r.blk) rfl (Ret.mk ?_ B7.out.below)
    rw [HR.out]
    rfl

  have HR1 := Lib.hid (fun h3 => dvS_end (E := E) HN.out h2 h3)
  have HR2 := Lib.hid (fun h3 => dvS_go (E := E) HN.out h2 h3)
  obtain ⟨x0, x1, x2⟩ := B5.out.m.mv
  obtain ⟨y0, y1, y2, y3⟩ := B5.out.e.eg
  have sq1 := sq_range d0 d1
  have sq2 := sq_range d2 d3
  go_wp2_with fail
  go_quiet (fail)
  have B6 := Lib.hid (B5.out.drewN nq)
  clear x0 x1 x2 y0 y1 y2 y3
  obtain ⟨y0, y1, y2, y3⟩ := B6.out.e.eg
  obtain ⟨x0, x1, x2⟩ := B6.out.m.mv
  generalize w5.drewN nq = w6 at *
  have hfr := HF.out
  have KR := Lib.hid (calls_re (V := w6) (f := 24) (args := #[.int .u64 ((x - m.x) * (x - m.x) + (y - m.y) * (y - m.y))]) (v := .int .u64 (far x y m)) (fun u => rroot14_any _ _ u (by omega) (by omega) hfr))
  have r0 := HFB.out.1
  have r1 := HFB.out.2
  clear HF hfr HFB x0 x1 x2 y1 y2 y3
  generalize far x y m = r at *
  go_wp2
  have z0 := cell_regrown y0
  clear y0
  refine wp_region_quiet_below (by kernel_rfl) (by kernel_rfl) ?_
  repeat (go_big_quiet_step (with_reducible exact KR.out _ _))
  refine wpQuiet_nil ?_
  intro _ hw'
  obtain ⟨⟨dq, osq⟩, hw''⟩ := hw'
  subst hw''
  have hb4 := below_regrown w6 dq osq
  have B7 := Lib.hid (B6.out.keep hb4)
  clear z0 hb4 B6 sq1 sq2
  generalize Go.Sort.grow (redrawn w6 dq) osq = w7 at *
  obtain ⟨x0, x1, x2⟩ := B7.out.m.mv
  obtain ⟨y0, y1, y2, y3⟩ := B7.out.e.eg
  by_cases h3 : r ≤ E.s
  · have HR := Lib.hid (HR1.out h3)
    go_wp2_with (first | (refine wpList_load_at (loadVar_mv B7.out.m.blk) rfl rfl rfl ?_) | (refine wpList_store_blk (c' := mvA ⟨x, y, an E x y m⟩) Tryd.sizeMv (B7.out.r.blk) rfl rfl rfl rfl rfl rfl (mvA_one _) ?_))
    have B8 := Lib.hid (B7.out.setR ⟨x, y, an E x y m⟩)
    refine bodyPost_ret (results_mv1 Tryd.results13 _ rfl B8.out.r.blk) rfl (Ret.mk ?_ B8.out.below)
    rw [HR.out]
    rfl

  · have HR := Lib.hid (HR2.out (by omega))
    clear HR1 HR2
    have p1 := part_in k0 (cs_range (an E x y m))
    have p2 := part_in k0 (sn_range (an E x y m))
    have HM0 : Hid (∀ u, Calls Tryd.prog 26 #[.int .i64 E.s, .int .i64 (cs (an E x y m))] u (Ret (.int .i64 (E.s * cs (an E x y m) / 65536)) u)) := fun u => times14_any _ _ u ⟨k0, k1⟩ (cs_range _)
    have HM1 : Hid (∀ u, Calls Tryd.prog 26 #[.int .i64 E.s, .int .i64 (sn (an E x y m))] u (Ret (.int .i64 (E.s * sn (an E x y m) / 65536)) u)) := fun u => times14_any _ _ u ⟨k0, k1⟩ (sn_range _)
    generalize E.s * cs (an E x y m) / 65536 = p at *
    generalize E.s * sn (an E x y m) / 65536 = q at *
    have HK0 : Hid (∀ u, Calls Tryd.prog 25 #[.int .i64 (m.x + p), .int .i64 E.w] u (fun e w' => e = .returned (.int .i64 (cl (m.x + p) E.w)) ∧ u = w')) := fun u => rclamp14_any _ _ u v0 v1
    have HK1 : Hid (∀ u, Calls Tryd.prog 25 #[.int .i64 (m.y + q), .int .i64 E.h] u (fun e w' => e = .returned (.int .i64 (cl (m.y + q) E.h)) ∧ u = w')) := fun u => rclamp14_any _ _ u v2 v3
    obtain ⟨p1a, p1b⟩ := p1
    obtain ⟨p2a, p2b⟩ := p2
    have g1 : IntKind.i64.wrap (m.x + p) = m.x + p := IntWalk.i64_in _ (by omega)
    have g2 : IntKind.i64.wrap (m.y + q) = m.y + q := IntWalk.i64_in _ (by omega)
    generalize cl (m.x + p) E.w = u0 at *
    generalize cl (m.y + q) E.h = u1 at *
    rw [← g1] at HK0
    rw [← g2] at HK1
    clear g1 g2
    have HTW : Hid (∀ u, Below w.heap.size w u → RTab u) := fun u hu => HT.out.keep hu
    clear HTR
    go_wp2_with fail
    have B0a := Lib.hid B7.out.drew
    refine wp_regionT (m := 13) (R := fun _ => True) (B := (fun w' : World => w'.cell? ⟨w.heap.size, 0, none⟩ = some (.int .i64 m.x) ∧ w'.cell? ⟨w.heap.size, 2, none⟩ = some (.int .i64 (an E x y m)) ∧ w'.cell? ⟨w.heap.size + 1, 0, none⟩ = some (.int .i64 E.s) ∧ w'.cell? ⟨w.heap.size + 1, 2, none⟩ = some (.int .i64 E.w))) (by kernel_rfl) ?_
    clear B7 x0 x1 x2 y0 y1 y2 y3
    generalize w7.drew = w0a at *
    have HBB : Hid ((fun w' : World => w'.cell? ⟨w.heap.size, 0, none⟩ = some (.int .i64 m.x) ∧ w'.cell? ⟨w.heap.size, 2, none⟩ = some (.int .i64 (an E x y m)) ∧ w'.cell? ⟨w.heap.size + 1, 0, none⟩ = some (.int .i64 E.s) ∧ w'.cell? ⟨w.heap.size + 1, 2, none⟩ = some (.int .i64 E.w)) w0a) := ⟨B0a.out.m.mv.1, B0a.out.m.mv.2.2, B0a.out.e.eg.1, B0a.out.e.eg.2.2.1⟩
    have HS : Hid (True ∧ (fun w' : World => w'.cell? ⟨w.heap.size, 0, none⟩ = some (.int .i64 m.x) ∧ w'.cell? ⟨w.heap.size, 2, none⟩ = some (.int .i64 (an E x y m)) ∧ w'.cell? ⟨w.heap.size + 1, 0, none⟩ = some (.int .i64 E.s) ∧ w'.cell? ⟨w.heap.size + 1, 2, none⟩ = some (.int .i64 E.w)) w0a) := ⟨trivial, HBB.out⟩
    simp only [List.size_toArray, List.length_cons, List.length_nil, Nat.reduceAdd, Array.replicate_succ, Array.replicate_zero, List.push_toArray, List.nil_append, List.cons_append]
    refine wpAnyT_take (i := 0) (v := ?_) rfl (by kernel_rfl) (by kernel_rfl) (by kernel_rfl) (by kernel_rfl) (by kernel_rfl) (by kernel_rfl) (fun _ _ _ h => h) (Or.inl ⟨by rfl, ?_⟩) HS.out ?_
    rotate_left
    · rintro w' ⟨-, hb0, hb1, hb2, hb3⟩
      go_simp
      with_reducible rfl
    simp only [Act.put, List.getElem_toArray, List.getElem_cons_zero, List.getElem_cons_succ, List.setIfInBounds_toArray, List.set_cons_zero, List.set_cons_succ]
    refine wpAnyT_take (i := 1) (v := ?_) rfl (by kernel_rfl) (by kernel_rfl) (by kernel_rfl) (by kernel_rfl) (by kernel_rfl) (by kernel_rfl) (fun _ _ _ h => h) (Or.inl ⟨by rfl, ?_⟩) HS.out ?_
    rotate_left
    · rintro w' ⟨-, hb0, hb1, hb2, hb3⟩
      go_simp
      with_reducible rfl
    simp only [Act.put, List.getElem_toArray, List.getElem_cons_zero, List.getElem_cons_succ, List.setIfInBounds_toArray, List.set_cons_zero, List.set_cons_succ]
    refine wpAnyT_take (i := 2) (v := ?_) rfl (by kernel_rfl) (by kernel_rfl) (by kernel_rfl) (by kernel_rfl) (by kernel_rfl) (by kernel_rfl) (fun _ _ _ h => h) (Or.inl ⟨by rfl, ?_⟩) HS.out ?_
    rotate_left
    · rintro w' ⟨-, hb0, hb1, hb2, hb3⟩
      go_simp
      with_reducible rfl
    simp only [Act.put, List.getElem_toArray, List.getElem_cons_zero, List.getElem_cons_succ, List.setIfInBounds_toArray, List.set_cons_zero, List.set_cons_succ]
    refine wpAnyT_take (i := 3) (v := ?_) rfl (by kernel_rfl) (by kernel_rfl) (by kernel_rfl) (by kernel_rfl) (by kernel_rfl) (by kernel_rfl) (fun _ _ _ h => h) (Or.inl ⟨by rfl, ?_⟩) HS.out ?_
    rotate_left
    · rintro w' ⟨-, hb0, hb1, hb2, hb3⟩
      go_simp
      with_reducible rfl
    simp only [Act.put, List.getElem_toArray, List.getElem_cons_zero, List.getElem_cons_succ, List.setIfInBounds_toArray, List.set_cons_zero, List.set_cons_succ]
    refine wpAnyT_take (i := 4) (v := ?_) rfl (by kernel_rfl) (by kernel_rfl) (by kernel_rfl) (by kernel_rfl) (by kernel_rfl) (by kernel_rfl) (fun _ _ _ h => h) (Or.inl ⟨by rfl, ?_⟩) HS.out ?_
    rotate_left
    · rintro w' ⟨-, hb0, hb1, hb2, hb3⟩
      go_simp
      with_reducible rfl
    simp only [Act.put, List.getElem_toArray, List.getElem_cons_zero, List.getElem_cons_succ, List.setIfInBounds_toArray, List.set_cons_zero, List.set_cons_succ]
    refine wpAnyT_take (i := 5) (v := ?_) rfl (by kernel_rfl) (by kernel_rfl) (by kernel_rfl) (by kernel_rfl) (by kernel_rfl) (by kernel_rfl) (fun _ _ _ h => h) (Or.inl ⟨by rfl, ?_⟩) HS.out ?_
    rotate_left
    · rintro w' ⟨-, hb0, hb1, hb2, hb3⟩
      go_simp
      with_reducible rfl
    simp only [Act.put, List.getElem_toArray, List.getElem_cons_zero, List.getElem_cons_succ, List.setIfInBounds_toArray, List.set_cons_zero, List.set_cons_succ]
    refine wpAnyT_take (i := 9) (v := ?_) rfl (by kernel_rfl) (by kernel_rfl) (by kernel_rfl) (by kernel_rfl) (by kernel_rfl) (by kernel_rfl) (fun _ _ _ h => h) (Or.inl ⟨by rfl, ?_⟩) HS.out ?_
    rotate_left
    · rintro w' ⟨-, hb0, hb1, hb2, hb3⟩
      go_simp
      with_reducible rfl
    simp only [Act.put, List.getElem_toArray, List.getElem_cons_zero, List.getElem_cons_succ, List.setIfInBounds_toArray, List.set_cons_zero, List.set_cons_succ]
    refine wpAnyT_take (i := 10) (v := ?_) rfl (by kernel_rfl) (by kernel_rfl) (by kernel_rfl) (by kernel_rfl) (by kernel_rfl) (by kernel_rfl) (fun _ _ _ h => h) (Or.inl ⟨by rfl, ?_⟩) HS.out ?_
    rotate_left
    · rintro w' ⟨-, hb0, hb1, hb2, hb3⟩
      go_simp
      with_reducible rfl
    simp only [Act.put, List.getElem_toArray, List.getElem_cons_zero, List.getElem_cons_succ, List.setIfInBounds_toArray, List.set_cons_zero, List.set_cons_succ]
    refine wpAnyT_one (i := 6) (by kernel_rfl) rfl (fun K' hK => ?_)
    rw [if_pos (by rfl)]
    simp only [List.getElem_toArray, List.getElem_cons_zero, List.getElem_cons_succ, List.setIfInBounds_toArray, List.set_cons_zero, List.set_cons_succ] at hK ⊢
    have HK' := Lib.hid hK
    clear hK
    go_simp
    refine (rcos_any (an E x y m) w0a (HTW.out _ B0a.out.below)).mono ?_
    rintro e w0b ⟨rfl, bb⟩
    have B0b := Lib.hid (B0a.out.keep bb)
    clear bb B0a HBB HS
    have HBB : Hid ((fun w' : World => w'.cell? ⟨w.heap.size, 0, none⟩ = some (.int .i64 m.x) ∧ w'.cell? ⟨w.heap.size, 2, none⟩ = some (.int .i64 (an E x y m)) ∧ w'.cell? ⟨w.heap.size + 1, 0, none⟩ = some (.int .i64 E.s) ∧ w'.cell? ⟨w.heap.size + 1, 2, none⟩ = some (.int .i64 E.w)) w0b) := ⟨B0b.out.m.mv.1, B0b.out.m.mv.2.2, B0b.out.e.eg.1, B0b.out.e.eg.2.2.1⟩
    refine HK'.out _ _ trivial (fun _ => HBB.out) ?_
    clear HK'
    refine wpAnyT_one (i := 7) (by kernel_rfl) rfl (fun K' hK => ?_)
    rw [if_pos (by rfl)]
    simp only [List.getElem_toArray, List.getElem_cons_zero, List.getElem_cons_succ, List.setIfInBounds_toArray, List.set_cons_zero, List.set_cons_succ] at hK ⊢
    have HK' := Lib.hid hK
    clear hK
    go_simp
    refine (HM0.out w0b).mono ?_
    rintro e w0c ⟨rfl, bb⟩
    have B0c := Lib.hid (B0b.out.keep bb)
    clear bb B0b HBB
    have HBB : Hid ((fun w' : World => w'.cell? ⟨w.heap.size, 0, none⟩ = some (.int .i64 m.x) ∧ w'.cell? ⟨w.heap.size, 2, none⟩ = some (.int .i64 (an E x y m)) ∧ w'.cell? ⟨w.heap.size + 1, 0, none⟩ = some (.int .i64 E.s) ∧ w'.cell? ⟨w.heap.size + 1, 2, none⟩ = some (.int .i64 E.w)) w0c) := ⟨B0c.out.m.mv.1, B0c.out.m.mv.2.2, B0c.out.e.eg.1, B0c.out.e.eg.2.2.1⟩
    refine HK'.out _ _ trivial (fun _ => HBB.out) ?_
    clear HK'
    refine wpAnyT_one (i := 8) (by kernel_rfl) rfl (fun K' hK => ?_)
    rw [if_pos (by rfl)]
    simp only [List.getElem_toArray, List.getElem_cons_zero, List.getElem_cons_succ, List.setIfInBounds_toArray, List.set_cons_zero, List.set_cons_succ] at hK ⊢
    have HK' := Lib.hid hK
    clear hK
    go_simp
    refine HK'.out _ _ trivial (fun _ => HBB.out) ?_
    clear HK'
    refine wpAnyT_one (i := 11) (by kernel_rfl) rfl (fun K' hK => ?_)
    rw [if_pos (by rfl)]
    simp only [List.getElem_toArray, List.getElem_cons_zero, List.getElem_cons_succ, List.setIfInBounds_toArray, List.set_cons_zero, List.set_cons_succ] at hK ⊢
    have HK' := Lib.hid hK
    clear hK
    go_simp
    refine (HK0.out w0c).mono ?_
    rintro e w' ⟨rfl, rfl⟩
    refine HK'.out _ _ trivial (fun _ => HBB.out) ?_
    clear HK'
    refine wpAnyT_one (i := 12) (by kernel_rfl) rfl (fun K' hK => ?_)
    rw [if_pos (by rfl)]
    simp only [List.getElem_toArray, List.getElem_cons_zero, List.getElem_cons_succ, List.setIfInBounds_toArray, List.set_cons_zero, List.set_cons_succ] at hK ⊢
    have HK' := Lib.hid hK
    clear hK
    go_simp
    refine HK'.out _ _ trivial (fun _ => HBB.out) ?_
    clear HK'
    refine wpAnyT_one (i := 13) (by kernel_rfl) rfl (fun K' hK => ?_)
    rw [if_pos (by rfl)]
    simp only [List.getElem_toArray, List.getElem_cons_zero, List.getElem_cons_succ, List.setIfInBounds_toArray, List.set_cons_zero, List.set_cons_succ] at hK ⊢
    have HK' := Lib.hid hK
    clear hK
    have eq := B0c.out.m.mv.1
    have fq := B0c.out.m.free 0
    go_simp
    have B8 := Lib.hid (B0c.out.setX u0)
    refine HK'.out _ _ trivial (fun hh => absurd hh (by decide)) ?_
    clear HK' eq fq HBB B0c
    refine wpAnyT_done (by kernel_rfl) ?_ _
    generalize w0c.setCell ⟨w.heap.size, 0, none⟩ (.int .i64 u0) = w8 at *
    obtain ⟨x0, x1, x2⟩ := B8.out.m.mv
    obtain ⟨y0, y1, y2, y3⟩ := B8.out.e.eg

    go_wp2_with fail
    have B1a := Lib.hid B8.out.drew
    refine wp_regionT (m := 13) (R := fun _ => True) (B := (fun w' : World => w'.cell? ⟨w.heap.size, 1, none⟩ = some (.int .i64 m.y) ∧ w'.cell? ⟨w.heap.size, 2, none⟩ = some (.int .i64 (an E x y m)) ∧ w'.cell? ⟨w.heap.size + 1, 0, none⟩ = some (.int .i64 E.s) ∧ w'.cell? ⟨w.heap.size + 1, 3, none⟩ = some (.int .i64 E.h))) (by kernel_rfl) ?_
    clear B8 x0 x1 x2 y0 y1 y2 y3
    generalize w8.drew = w1a at *
    have HBB : Hid ((fun w' : World => w'.cell? ⟨w.heap.size, 1, none⟩ = some (.int .i64 m.y) ∧ w'.cell? ⟨w.heap.size, 2, none⟩ = some (.int .i64 (an E x y m)) ∧ w'.cell? ⟨w.heap.size + 1, 0, none⟩ = some (.int .i64 E.s) ∧ w'.cell? ⟨w.heap.size + 1, 3, none⟩ = some (.int .i64 E.h)) w1a) := ⟨B1a.out.m.mv.2.1, B1a.out.m.mv.2.2, B1a.out.e.eg.1, B1a.out.e.eg.2.2.2⟩
    have HS : Hid (True ∧ (fun w' : World => w'.cell? ⟨w.heap.size, 1, none⟩ = some (.int .i64 m.y) ∧ w'.cell? ⟨w.heap.size, 2, none⟩ = some (.int .i64 (an E x y m)) ∧ w'.cell? ⟨w.heap.size + 1, 0, none⟩ = some (.int .i64 E.s) ∧ w'.cell? ⟨w.heap.size + 1, 3, none⟩ = some (.int .i64 E.h)) w1a) := ⟨trivial, HBB.out⟩
    simp only [List.size_toArray, List.length_cons, List.length_nil, Nat.reduceAdd, Array.replicate_succ, Array.replicate_zero, List.push_toArray, List.nil_append, List.cons_append]
    refine wpAnyT_take (i := 0) (v := ?_) rfl (by kernel_rfl) (by kernel_rfl) (by kernel_rfl) (by kernel_rfl) (by kernel_rfl) (by kernel_rfl) (fun _ _ _ h => h) (Or.inl ⟨by rfl, ?_⟩) HS.out ?_
    rotate_left
    · rintro w' ⟨-, hb0, hb1, hb2, hb3⟩
      go_simp
      with_reducible rfl
    simp only [Act.put, List.getElem_toArray, List.getElem_cons_zero, List.getElem_cons_succ, List.setIfInBounds_toArray, List.set_cons_zero, List.set_cons_succ]
    refine wpAnyT_take (i := 1) (v := ?_) rfl (by kernel_rfl) (by kernel_rfl) (by kernel_rfl) (by kernel_rfl) (by kernel_rfl) (by kernel_rfl) (fun _ _ _ h => h) (Or.inl ⟨by rfl, ?_⟩) HS.out ?_
    rotate_left
    · rintro w' ⟨-, hb0, hb1, hb2, hb3⟩
      go_simp
      with_reducible rfl
    simp only [Act.put, List.getElem_toArray, List.getElem_cons_zero, List.getElem_cons_succ, List.setIfInBounds_toArray, List.set_cons_zero, List.set_cons_succ]
    refine wpAnyT_take (i := 2) (v := ?_) rfl (by kernel_rfl) (by kernel_rfl) (by kernel_rfl) (by kernel_rfl) (by kernel_rfl) (by kernel_rfl) (fun _ _ _ h => h) (Or.inl ⟨by rfl, ?_⟩) HS.out ?_
    rotate_left
    · rintro w' ⟨-, hb0, hb1, hb2, hb3⟩
      go_simp
      with_reducible rfl
    simp only [Act.put, List.getElem_toArray, List.getElem_cons_zero, List.getElem_cons_succ, List.setIfInBounds_toArray, List.set_cons_zero, List.set_cons_succ]
    refine wpAnyT_take (i := 3) (v := ?_) rfl (by kernel_rfl) (by kernel_rfl) (by kernel_rfl) (by kernel_rfl) (by kernel_rfl) (by kernel_rfl) (fun _ _ _ h => h) (Or.inl ⟨by rfl, ?_⟩) HS.out ?_
    rotate_left
    · rintro w' ⟨-, hb0, hb1, hb2, hb3⟩
      go_simp
      with_reducible rfl
    simp only [Act.put, List.getElem_toArray, List.getElem_cons_zero, List.getElem_cons_succ, List.setIfInBounds_toArray, List.set_cons_zero, List.set_cons_succ]
    refine wpAnyT_take (i := 4) (v := ?_) rfl (by kernel_rfl) (by kernel_rfl) (by kernel_rfl) (by kernel_rfl) (by kernel_rfl) (by kernel_rfl) (fun _ _ _ h => h) (Or.inl ⟨by rfl, ?_⟩) HS.out ?_
    rotate_left
    · rintro w' ⟨-, hb0, hb1, hb2, hb3⟩
      go_simp
      with_reducible rfl
    simp only [Act.put, List.getElem_toArray, List.getElem_cons_zero, List.getElem_cons_succ, List.setIfInBounds_toArray, List.set_cons_zero, List.set_cons_succ]
    refine wpAnyT_take (i := 5) (v := ?_) rfl (by kernel_rfl) (by kernel_rfl) (by kernel_rfl) (by kernel_rfl) (by kernel_rfl) (by kernel_rfl) (fun _ _ _ h => h) (Or.inl ⟨by rfl, ?_⟩) HS.out ?_
    rotate_left
    · rintro w' ⟨-, hb0, hb1, hb2, hb3⟩
      go_simp
      with_reducible rfl
    simp only [Act.put, List.getElem_toArray, List.getElem_cons_zero, List.getElem_cons_succ, List.setIfInBounds_toArray, List.set_cons_zero, List.set_cons_succ]
    refine wpAnyT_take (i := 9) (v := ?_) rfl (by kernel_rfl) (by kernel_rfl) (by kernel_rfl) (by kernel_rfl) (by kernel_rfl) (by kernel_rfl) (fun _ _ _ h => h) (Or.inl ⟨by rfl, ?_⟩) HS.out ?_
    rotate_left
    · rintro w' ⟨-, hb0, hb1, hb2, hb3⟩
      go_simp
      with_reducible rfl
    simp only [Act.put, List.getElem_toArray, List.getElem_cons_zero, List.getElem_cons_succ, List.setIfInBounds_toArray, List.set_cons_zero, List.set_cons_succ]
    refine wpAnyT_take (i := 10) (v := ?_) rfl (by kernel_rfl) (by kernel_rfl) (by kernel_rfl) (by kernel_rfl) (by kernel_rfl) (by kernel_rfl) (fun _ _ _ h => h) (Or.inl ⟨by rfl, ?_⟩) HS.out ?_
    rotate_left
    · rintro w' ⟨-, hb0, hb1, hb2, hb3⟩
      go_simp
      with_reducible rfl
    simp only [Act.put, List.getElem_toArray, List.getElem_cons_zero, List.getElem_cons_succ, List.setIfInBounds_toArray, List.set_cons_zero, List.set_cons_succ]
    refine wpAnyT_one (i := 6) (by kernel_rfl) rfl (fun K' hK => ?_)
    rw [if_pos (by rfl)]
    simp only [List.getElem_toArray, List.getElem_cons_zero, List.getElem_cons_succ, List.setIfInBounds_toArray, List.set_cons_zero, List.set_cons_succ] at hK ⊢
    have HK' := Lib.hid hK
    clear hK
    go_simp
    refine (rsin_any (an E x y m) w1a (HTW.out _ B1a.out.below)).mono ?_
    rintro e w1b ⟨rfl, bb⟩
    have B1b := Lib.hid (B1a.out.keep bb)
    clear bb B1a HBB HS
    have HBB : Hid ((fun w' : World => w'.cell? ⟨w.heap.size, 1, none⟩ = some (.int .i64 m.y) ∧ w'.cell? ⟨w.heap.size, 2, none⟩ = some (.int .i64 (an E x y m)) ∧ w'.cell? ⟨w.heap.size + 1, 0, none⟩ = some (.int .i64 E.s) ∧ w'.cell? ⟨w.heap.size + 1, 3, none⟩ = some (.int .i64 E.h)) w1b) := ⟨B1b.out.m.mv.2.1, B1b.out.m.mv.2.2, B1b.out.e.eg.1, B1b.out.e.eg.2.2.2⟩
    refine HK'.out _ _ trivial (fun _ => HBB.out) ?_
    clear HK'
    refine wpAnyT_one (i := 7) (by kernel_rfl) rfl (fun K' hK => ?_)
    rw [if_pos (by rfl)]
    simp only [List.getElem_toArray, List.getElem_cons_zero, List.getElem_cons_succ, List.setIfInBounds_toArray, List.set_cons_zero, List.set_cons_succ] at hK ⊢
    have HK' := Lib.hid hK
    clear hK
    go_simp
    refine (HM1.out w1b).mono ?_
    rintro e w1c ⟨rfl, bb⟩
    have B1c := Lib.hid (B1b.out.keep bb)
    clear bb B1b HBB
    have HBB : Hid ((fun w' : World => w'.cell? ⟨w.heap.size, 1, none⟩ = some (.int .i64 m.y) ∧ w'.cell? ⟨w.heap.size, 2, none⟩ = some (.int .i64 (an E x y m)) ∧ w'.cell? ⟨w.heap.size + 1, 0, none⟩ = some (.int .i64 E.s) ∧ w'.cell? ⟨w.heap.size + 1, 3, none⟩ = some (.int .i64 E.h)) w1c) := ⟨B1c.out.m.mv.2.1, B1c.out.m.mv.2.2, B1c.out.e.eg.1, B1c.out.e.eg.2.2.2⟩
    refine HK'.out _ _ trivial (fun _ => HBB.out) ?_
    clear HK'
    refine wpAnyT_one (i := 8) (by kernel_rfl) rfl (fun K' hK => ?_)
    rw [if_pos (by rfl)]
    simp only [List.getElem_toArray, List.getElem_cons_zero, List.getElem_cons_succ, List.setIfInBounds_toArray, List.set_cons_zero, List.set_cons_succ] at hK ⊢
    have HK' := Lib.hid hK
    clear hK
    go_simp
    refine HK'.out _ _ trivial (fun _ => HBB.out) ?_
    clear HK'
    refine wpAnyT_one (i := 11) (by kernel_rfl) rfl (fun K' hK => ?_)
    rw [if_pos (by rfl)]
    simp only [List.getElem_toArray, List.getElem_cons_zero, List.getElem_cons_succ, List.setIfInBounds_toArray, List.set_cons_zero, List.set_cons_succ] at hK ⊢
    have HK' := Lib.hid hK
    clear hK
    go_simp
    refine (HK1.out w1c).mono ?_
    rintro e w' ⟨rfl, rfl⟩
    refine HK'.out _ _ trivial (fun _ => HBB.out) ?_
    clear HK'
    refine wpAnyT_one (i := 12) (by kernel_rfl) rfl (fun K' hK => ?_)
    rw [if_pos (by rfl)]
    simp only [List.getElem_toArray, List.getElem_cons_zero, List.getElem_cons_succ, List.setIfInBounds_toArray, List.set_cons_zero, List.set_cons_succ] at hK ⊢
    have HK' := Lib.hid hK
    clear hK
    go_simp
    refine HK'.out _ _ trivial (fun _ => HBB.out) ?_
    clear HK'
    refine wpAnyT_one (i := 13) (by kernel_rfl) rfl (fun K' hK => ?_)
    rw [if_pos (by rfl)]
    simp only [List.getElem_toArray, List.getElem_cons_zero, List.getElem_cons_succ, List.setIfInBounds_toArray, List.set_cons_zero, List.set_cons_succ] at hK ⊢
    have HK' := Lib.hid hK
    clear hK
    have eq := B1c.out.m.mv.2.1
    have fq := B1c.out.m.free 1
    go_simp
    have B9 := Lib.hid (B1c.out.setY u1)
    refine HK'.out _ _ trivial (fun hh => absurd hh (by decide)) ?_
    clear HK' eq fq HBB B1c
    refine wpAnyT_done (by kernel_rfl) ?_ _
    generalize w1c.setCell ⟨w.heap.size, 1, none⟩ (.int .i64 u1) = w9 at *
    obtain ⟨x0, x1, x2⟩ := B9.out.m.mv
    obtain ⟨y0, y1, y2, y3⟩ := B9.out.e.eg

    go_wp2_with (first | (refine wpList_load_at (loadVar_mv B9.out.m.blk) rfl rfl rfl ?_) | (refine wpList_store_blk (c' := mvA ⟨u0, u1, an E x y m⟩) Tryd.sizeMv (B9.out.r.blk) rfl rfl rfl rfl rfl rfl (mvA_one _) ?_))
    have B10 := Lib.hid (B9.out.setR ⟨u0, u1, an E x y m⟩)
    refine bodyPost_ret (results_mv1 Tryd.results13 _ rfl B10.out.r.blk) rfl (Ret.mk ?_ B10.out.below)
    rw [HR.out]
    rfl

theorem rStep14_any (E : Eg) (m : Mv) (x y : Int) (w : World) (hT : RTab w) (hk : okM E x y m) :
    Calls Tryd.prog 13 #[.agg (mvA m), .agg (egA E), .int .i64 x, .int .i64 y] w (Ret (.tuple #[.agg (mvA (dvS E x y m).1), .bool (dvS E x y m).2]) w) := by
  by_cases h1 : m.x = x
  · by_cases h2 : m.y = y
    · exact rStep14_at E m x y w hT hk ⟨h1, h2⟩
    · exact rStep14_y E m x y w hT hk h1 h2
  · exact rStep14_x E m x y w hT hk h1

end Go.Proofs.YtckeplbmkjoiaaaDoor
