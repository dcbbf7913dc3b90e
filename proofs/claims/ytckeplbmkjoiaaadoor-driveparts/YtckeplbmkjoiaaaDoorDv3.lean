/- Stage 14: a step; the program's. -/
import Derived.Test.YtckeplbmkjoiaaaDoorDv2
namespace Go.Proofs.YtckeplbmkjoiaaaDoor
open Go.RowKit
set_option linter.unusedVariables false

set_option maxRecDepth 100000 in
set_option maxHeartbeats 4000000 in
theorem step14_at (E : Eg) (m : Mv) (x y : Int) (w : World) (hT : Tab w) (hk : okM E x y m) (h : m.x = x ∧ m.y = y) :
    Calls Tryd.prog 20 #[.agg (mvA m), .agg (egA E), .int .i64 x, .int .i64 y] w (Ret (.tuple #[.agg (mvA (dvS E x y m).1), .bool (dvS E x y m).2]) w) := by
  have HR := Lib.hid (dvS_at (E := E) h)
  have e1 : x - m.x = 0 := by omega
  have e2 : y - m.y = 0 := by omega
  have hx0 : -4194304 ≤ x - m.x ∧ x - m.x ≤ 4194304 ∧ -4194304 ≤ y - m.y ∧ y - m.y ≤ 4194304 ∧ 0 ≤ m.x ∧ m.x < 4194304 ∧ 0 ≤ m.y ∧ m.y < 4194304 ∧ 0 ≤ x ∧ x < 4194304 ∧ 0 ≤ y ∧ y < 4194304 := by
    obtain ⟨⟨_, _, _, _, a0, a1, b0, b1⟩, ⟨t0, t1, t2, t3⟩, ⟨m0, m1, m2, m3⟩, _, _⟩ := hk
    omega
  obtain ⟨d0, d1, d2, d3, c0, c1, c2, c3, t0, t1, t2, t3⟩ := hx0
  clear h hk
  have B := Lib.hid (Bn.new0 w m E)
  have HT := Lib.hid hT
  clear hT
  obtain ⟨x0, x1, x2⟩ := B.out.m.mv
  obtain ⟨y0, y1, y2, y3⟩ := B.out.e.eg
  have sz := Lib.hid B.out.lt
  go_enter Tryd.func20, Tryd.ntmps20
  go_wp2
  generalize hw1 : ((w.alloc (.cells (mvA m) 26)).alloc (.cells (egA E) 28)).alloc (.cells #[.int .i64 0, .int .i64 0, .int .i64 0] 26) = w1 at *
  clear hw1
  go_quiet (fail)
  have B0 := Lib.hid (B.out.drewN nq)
  clear x0 x1 x2 y0 y1 y2 y3 B sz
  generalize w1.drewN nq = w2 at *
  go_wp2_with (first | (refine wpList_load_at (loadVar_mv B0.out.m.blk) rfl rfl rfl ?_) | (refine wpList_store_blk (c' := mvA m) Tryd.sizeMv (B0.out.r.blk) rfl rfl rfl rfl rfl rfl (mvA_one _) ?_))
  have B2 := Lib.hid (B0.out.setR m)
  refine bodyPost_ret (results_mv1 Tryd.results20 _ rfl B2.out.r.blk) rfl (Ret.mk ?_ B2.out.below)
  rw [HR.out]
  rfl
set_option maxRecDepth 100000 in
set_option maxHeartbeats 4000000 in
theorem step14_x (E : Eg) (m : Mv) (x y : Int) (w : World) (hT : Tab w) (hk : okM E x y m) (h : x - m.x ≠ 0) :
    Calls Tryd.prog 20 #[.agg (mvA m), .agg (egA E), .int .i64 x, .int .i64 y] w (Ret (.tuple #[.agg (mvA (dvS E x y m).1), .bool (dvS E x y m).2]) w) := by
  have hn : ¬ (m.x = x ∧ m.y = y) := by omega
  have HN := Lib.hid hn
  have HS : Hid (∀ d : Nat, IsHead (x - m.x) (y - m.y) d → wn x y m = (d : Int) * 256) := fun d hd' => by unfold wn; rw [hd_of hd', Int.mul_comm]
  have HF : Hid (∀ r, IsRoot ((x - m.x) * (x - m.x) + (y - m.y) * (y - m.y)) r → far x y m = r) := fun r hr => rt_of hr
  have HAN : Hid (an E x y m = tw m.a (wn x y m) E.t) := rfl
  have HAR := Lib.hid (an_range E x y m)
  have HK := Lib.hid hk
  have m0 := hk.2.2.2.1
  have m1 := hk.2.2.2.2
  have hx0 : -4194304 ≤ x - m.x ∧ x - m.x ≤ 4194304 ∧ -4194304 ≤ y - m.y ∧ y - m.y ≤ 4194304 ∧ 0 ≤ m.x ∧ m.x < 4194304 ∧ 0 ≤ m.y ∧ m.y < 4194304 ∧ 0 ≤ x ∧ x < 4194304 ∧ 0 ≤ y ∧ y < 4194304 := by
    obtain ⟨⟨_, _, _, _, a0, a1, b0, b1⟩, ⟨t0, t1, t2, t3⟩, ⟨m0, m1, m2, m3⟩, _, _⟩ := hk
    omega
  obtain ⟨d0, d1, d2, d3, c0, c1, c2, c3, t0, t1, t2, t3⟩ := hx0
  clear hk hn
  have hb : (x - m.x == 0) = false := by simpa using h
  clear h
  have B := Lib.hid (Bn.new0 w m E)
  have HT := Lib.hid hT
  clear hT
  obtain ⟨x0, x1, x2⟩ := B.out.m.mv
  obtain ⟨y0, y1, y2, y3⟩ := B.out.e.eg
  have sz := Lib.hid B.out.lt
  go_enter Tryd.func20, Tryd.ntmps20
  go_wp2
  generalize hw1 : ((w.alloc (.cells (mvA m) 26)).alloc (.cells (egA E) 28)).alloc (.cells #[.int .i64 0, .int .i64 0, .int .i64 0] 26) = w1 at *
  clear hw1
  go_quiet (fail)
  have B0 := Lib.hid (B.out.drewN nq)
  clear x0 x1 x2 y0 y1 y2 y3 B sz
  generalize w1.drewN nq = w2 at *
  go_wp2_with fail
  refine (heading_in (x - m.x) (y - m.y) w2 (HT.out.keep B0.out.below) (by unfold FarT; omega) (by unfold FarT; omega)).mono ?_
  rintro e w3 ⟨d, hd', rfl, b3⟩
  have B3 := Lib.hid (B0.out.keep b3)
  have dl := hd'.1
  have hW := HS.out d hd'
  clear b3 B0 HS hd'
  obtain ⟨x0, x1, x2⟩ := B3.out.m.mv
  obtain ⟨y0, y1, y2, y3⟩ := B3.out.e.eg
  go_wp2_with fail
  refine (toward_any m.a ((d : Int) * 256) E.t w3 (by omega) (by omega) (by omega) (by omega)).mono ?_
  rw [← hW, ← HAN.out]
  have HW := Lib.hid hW
  clear hW
  rintro e w4 ⟨rfl, b4⟩
  have B4 := Lib.hid (B3.out.keep b4)
  have a0 := HAR.out.1
  have a1 := HAR.out.2
  clear b4 B3 x0 x1 x2 y0 y1 y2 y3 HAN
  have f2 := B4.out.m.free 2
  have x2 := B4.out.m.mv.2.2
  have B5 := Lib.hid (B4.out.setA (an E x y m))
  obtain ⟨z0, z1, z2⟩ := B5.out.m.mv
  go_wp2_with fail
  generalize w4.setCell ⟨w.heap.size, 2, none⟩ (.int .i64 (an E x y m)) = w5 at *
  clear f2 x2 B4 z0 z1 z2
  refine (off14_any (an E x y m) ((d : Int) * 256) w5 (by omega) (by omega) (by omega) (by omega)).mono ?_
  rw [← HW.out]
  rintro e w6 ⟨rfl, b6⟩
  have B6 := Lib.hid (B5.out.keep b6)
  clear b6 B5
  by_cases h2 : 8192 < off (an E x y m) (wn x y m)
  · have HR := Lib.hid (dvS_turn HN.out h2)
    go_wp2_with (first | (refine wpList_load_at (loadVar_mv B6.out.m.blk) rfl rfl rfl ?_) | (refine wpList_store_blk (c' := mvA ⟨m.x, m.y, an E x y m⟩) Tryd.sizeMv (B6.out.r.blk) rfl rfl rfl rfl rfl rfl (mvA_one _) ?_))
    have B7 := Lib.hid (B6.out.setR ⟨m.x, m.y, an E x y m⟩)
    refine bodyPost_ret (results_mv1 Tryd.results20 _ rfl B7.out.r.blk) rfl (Ret.mk ?_ B7.out.below)
    rw [HR.out]
    rfl

  have HR1 := Lib.hid (fun h3 => dvS_end (E := E) HN.out h2 h3)
  have HR2 := Lib.hid (fun h3 => dvS_go (E := E) HN.out h2 h3)
  go_wp2_with fail
  refine (length_in (x - m.x) (y - m.y) w6 (by unfold Near2; omega)).mono ?_
  rintro e w7 ⟨r, hr, rfl, r1, rfl⟩
  have hf := HF.out r hr
  clear HF hr
  have y0 := B6.out.e.eg.1
  by_cases h3 : r ≤ E.s
  · have HR := Lib.hid (HR1.out (by rw [hf]; exact h3))
    obtain ⟨x0, x1, x2⟩ := B6.out.m.mv
    have f0 := B6.out.m.free 0
    have f1 := B6.out.m.free 1
    have B7 := Lib.hid ((B6.out.setX x).setY y)
    go_wp2_with (first | (refine wpList_load_at (loadVar_mv B7.out.m.blk) rfl rfl rfl ?_) | (refine wpList_store_blk (c' := mvA ⟨x, y, an E x y m⟩) Tryd.sizeMv (B7.out.r.blk) rfl rfl rfl rfl rfl rfl (mvA_one _) ?_))
    have B8 := Lib.hid (B7.out.setR ⟨x, y, an E x y m⟩)
    refine bodyPost_ret (results_mv1 Tryd.results20 _ rfl B8.out.r.blk) rfl (Ret.mk ?_ B8.out.below)
    rw [HR.out]
    rfl

  · have HR := Lib.hid (HR2.out (by omega))
    clear HR1 HR2
    go_wp2_with (first | (refine wpList_load_at (loadVar_mv B6.out.m.blk) rfl rfl rfl ?_) | (refine wpList_load_at (loadVar_eg B6.out.e.blk) rfl rfl rfl ?_))
    refine (goOn14_any E ⟨m.x, m.y, an E x y m⟩ w6 (HT.out.keep B6.out.below) HK.out.1 (by dsimp only; omega) ⟨a0, a1⟩).mono ?_
    rintro e w8 ⟨rfl, b8⟩
    have B8 := Lib.hid (B6.out.keep b8)
    clear b8 B6
    go_wp2_with (refine wpList_store_blk (c' := mvA (goM E ⟨m.x, m.y, an E x y m⟩)) Tryd.sizeMv (B8.out.r.blk) rfl rfl rfl rfl rfl rfl (mvA_one _) ?_)
    have B9 := Lib.hid (B8.out.setR (goM E ⟨m.x, m.y, an E x y m⟩))
    refine bodyPost_ret (results_mv1 Tryd.results20 _ rfl B9.out.r.blk) rfl (Ret.mk ?_ B9.out.below)
    rw [HR.out]
    rfl

set_option maxRecDepth 100000 in
set_option maxHeartbeats 4000000 in
theorem step14_y (E : Eg) (m : Mv) (x y : Int) (w : World) (hT : Tab w) (hk : okM E x y m) (h : x - m.x = 0) (h2 : y - m.y ≠ 0) :
    Calls Tryd.prog 20 #[.agg (mvA m), .agg (egA E), .int .i64 x, .int .i64 y] w (Ret (.tuple #[.agg (mvA (dvS E x y m).1), .bool (dvS E x y m).2]) w) := by
  have hn : ¬ (m.x = x ∧ m.y = y) := by omega
  have HN := Lib.hid hn
  have HS : Hid (∀ d : Nat, IsHead (x - m.x) (y - m.y) d → wn x y m = (d : Int) * 256) := fun d hd' => by unfold wn; rw [hd_of hd', Int.mul_comm]
  have HF : Hid (∀ r, IsRoot ((x - m.x) * (x - m.x) + (y - m.y) * (y - m.y)) r → far x y m = r) := fun r hr => rt_of hr
  have HAN : Hid (an E x y m = tw m.a (wn x y m) E.t) := rfl
  have HAR := Lib.hid (an_range E x y m)
  have HK := Lib.hid hk
  have m0 := hk.2.2.2.1
  have m1 := hk.2.2.2.2
  have hx0 : -4194304 ≤ x - m.x ∧ x - m.x ≤ 4194304 ∧ -4194304 ≤ y - m.y ∧ y - m.y ≤ 4194304 ∧ 0 ≤ m.x ∧ m.x < 4194304 ∧ 0 ≤ m.y ∧ m.y < 4194304 ∧ 0 ≤ x ∧ x < 4194304 ∧ 0 ≤ y ∧ y < 4194304 := by
    obtain ⟨⟨_, _, _, _, a0, a1, b0, b1⟩, ⟨t0, t1, t2, t3⟩, ⟨m0, m1, m2, m3⟩, _, _⟩ := hk
    omega
  obtain ⟨d0, d1, d2, d3, c0, c1, c2, c3, t0, t1, t2, t3⟩ := hx0
  clear hk hn
  have hb : (x - m.x == 0) = true := by simpa using h
  have hb2 : (y - m.y == 0) = false := by simpa using h2
  clear h h2
  have B := Lib.hid (Bn.new0 w m E)
  have HT := Lib.hid hT
  clear hT
  obtain ⟨x0, x1, x2⟩ := B.out.m.mv
  obtain ⟨y0, y1, y2, y3⟩ := B.out.e.eg
  have sz := Lib.hid B.out.lt
  go_enter Tryd.func20, Tryd.ntmps20
  go_wp2
  generalize hw1 : ((w.alloc (.cells (mvA m) 26)).alloc (.cells (egA E) 28)).alloc (.cells #[.int .i64 0, .int .i64 0, .int .i64 0] 26) = w1 at *
  clear hw1
  go_quiet (fail)
  have B0 := Lib.hid (B.out.drewN nq)
  clear x0 x1 x2 y0 y1 y2 y3 B sz
  generalize w1.drewN nq = w2 at *
  go_wp2_with fail
  refine (heading_in (x - m.x) (y - m.y) w2 (HT.out.keep B0.out.below) (by unfold FarT; omega) (by unfold FarT; omega)).mono ?_
  rintro e w3 ⟨d, hd', rfl, b3⟩
  have B3 := Lib.hid (B0.out.keep b3)
  have dl := hd'.1
  have hW := HS.out d hd'
  clear b3 B0 HS hd'
  obtain ⟨x0, x1, x2⟩ := B3.out.m.mv
  obtain ⟨y0, y1, y2, y3⟩ := B3.out.e.eg
  go_wp2_with fail
  refine (toward_any m.a ((d : Int) * 256) E.t w3 (by omega) (by omega) (by omega) (by omega)).mono ?_
  rw [← hW, ← HAN.out]
  have HW := Lib.hid hW
  clear hW
  rintro e w4 ⟨rfl, b4⟩
  have B4 := Lib.hid (B3.out.keep b4)
  have a0 := HAR.out.1
  have a1 := HAR.out.2
  clear b4 B3 x0 x1 x2 y0 y1 y2 y3 HAN
  have f2 := B4.out.m.free 2
  have x2 := B4.out.m.mv.2.2
  have B5 := Lib.hid (B4.out.setA (an E x y m))
  obtain ⟨z0, z1, z2⟩ := B5.out.m.mv
  go_wp2_with fail
  generalize w4.setCell ⟨w.heap.size, 2, none⟩ (.int .i64 (an E x y m)) = w5 at *
  clear f2 x2 B4 z0 z1 z2
  refine (off14_any (an E x y m) ((d : Int) * 256) w5 (by omega) (by omega) (by omega) (by omega)).mono ?_
  rw [← HW.out]
  rintro e w6 ⟨rfl, b6⟩
  have B6 := Lib.hid (B5.out.keep b6)
  clear b6 B5
  by_cases h2 : 8192 < off (an E x y m) (wn x y m)
  · have HR := Lib.hid (dvS_turn HN.out h2)
    go_wp2_with (first | (refine wpList_load_at (loadVar_mv B6.out.m.blk) rfl rfl rfl ?_) | (refine wpList_store_blk (c' := mvA ⟨m.x, m.y, an E x y m⟩) Tryd.sizeMv (B6.out.r.blk) rfl rfl rfl rfl rfl rfl (mvA_one _) ?_))
    have B7 := Lib.hid (B6.out.setR ⟨m.x, m.y, an E x y m⟩)
    refine bodyPost_ret (results_mv1 Tryd.results20 _ rfl B7.out.r.blk) rfl (Ret.mk ?_ B7.out.below)
    rw [HR.out]
    rfl

  have HR1 := Lib.hid (fun h3 => dvS_end (E := E) HN.out h2 h3)
  have HR2 := Lib.hid (fun h3 => dvS_go (E := E) HN.out h2 h3)
  go_wp2_with fail
  refine (length_in (x - m.x) (y - m.y) w6 (by unfold Near2; omega)).mono ?_
  rintro e w7 ⟨r, hr, rfl, r1, rfl⟩
  have hf := HF.out r hr
  clear HF hr
  have y0 := B6.out.e.eg.1
  by_cases h3 : r ≤ E.s
  · have HR := Lib.hid (HR1.out (by rw [hf]; exact h3))
    obtain ⟨x0, x1, x2⟩ := B6.out.m.mv
    have f0 := B6.out.m.free 0
    have f1 := B6.out.m.free 1
    have B7 := Lib.hid ((B6.out.setX x).setY y)
    go_wp2_with (first | (refine wpList_load_at (loadVar_mv B7.out.m.blk) rfl rfl rfl ?_) | (refine wpList_store_blk (c' := mvA ⟨x, y, an E x y m⟩) Tryd.sizeMv (B7.out.r.blk) rfl rfl rfl rfl rfl rfl (mvA_one _) ?_))
    have B8 := Lib.hid (B7.out.setR ⟨x, y, an E x y m⟩)
    refine bodyPost_ret (results_mv1 Tryd.results20 _ rfl B8.out.r.blk) rfl (Ret.mk ?_ B8.out.below)
    rw [HR.out]
    rfl

  · have HR := Lib.hid (HR2.out (by omega))
    clear HR1 HR2
    go_wp2_with (first | (refine wpList_load_at (loadVar_mv B6.out.m.blk) rfl rfl rfl ?_) | (refine wpList_load_at (loadVar_eg B6.out.e.blk) rfl rfl rfl ?_))
    refine (goOn14_any E ⟨m.x, m.y, an E x y m⟩ w6 (HT.out.keep B6.out.below) HK.out.1 (by dsimp only; omega) ⟨a0, a1⟩).mono ?_
    rintro e w8 ⟨rfl, b8⟩
    have B8 := Lib.hid (B6.out.keep b8)
    clear b8 B6
    go_wp2_with (refine wpList_store_blk (c' := mvA (goM E ⟨m.x, m.y, an E x y m⟩)) Tryd.sizeMv (B8.out.r.blk) rfl rfl rfl rfl rfl rfl (mvA_one _) ?_)
    have B9 := Lib.hid (B8.out.setR (goM E ⟨m.x, m.y, an E x y m⟩))
    refine bodyPost_ret (results_mv1 Tryd.results20 _ rfl B9.out.r.blk) rfl (Ret.mk ?_ B9.out.below)
    rw [HR.out]
    rfl

theorem step14_any (E : Eg) (m : Mv) (x y : Int) (w : World) (hT : Tab w) (hk : okM E x y m) :
    Calls Tryd.prog 20 #[.agg (mvA m), .agg (egA E), .int .i64 x, .int .i64 y] w (Ret (.tuple #[.agg (mvA (dvS E x y m).1), .bool (dvS E x y m).2]) w) := by
  by_cases h1 : x - m.x = 0
  · by_cases h2 : y - m.y = 0
    · exact step14_at E m x y w hT hk (by omega)
    · exact step14_y E m x y w hT hk h1 h2
  · exact step14_x E m x y w hT hk h1

end Go.Proofs.YtckeplbmkjoiaaaDoor
