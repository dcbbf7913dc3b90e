/- Stage 14: a move ahead; the program's. -/
import Derived.Test.YtckeplbmkjoiaaaDoorDv1
namespace Go.Proofs.YtckeplbmkjoiaaaDoor
open Go.RowKit
set_option linter.unusedVariables false

/-- A move ahead. -/
def goM (E : Eg) (m : Mv) : Mv := ⟨cl (m.x + E.s * cs m.a / 65536) E.w, cl (m.y + E.s * sn m.a / 65536) E.h, m.a⟩
set_option maxHeartbeats 1000000 in
theorem goOn14_any (E : Eg) (m : Mv) (w : World) (hT : Tab w) (he : okE E) (hx : -16777216 ≤ m.x ∧ m.x ≤ 16777216 ∧ -16777216 ≤ m.y ∧ m.y ≤ 16777216) (ha : 0 ≤ m.a ∧ m.a < 65536) :
    Calls Tryd.prog 35 #[.agg (mvA m), .agg (egA E)] w (Ret (.agg (mvA (goM E m))) w) := by
  have B := Lib.hid (Bn.new0 w m E)
  have T1 := Lib.hid (hT.keep B.out.below)
  have p1 := part_in he.1 (cs_range m.a)
  have p2 := part_in he.1 (sn_range m.a)
  have s1 := he.2.1
  have HV : ∀ u, Tab u → Calls Tryd.prog 48 #[.int .i64 m.a, .int .i64 E.s] u (Ret (.tuple #[.int .i64 (E.s * cs m.a / 65536), .int .i64 (E.s * sn m.a / 65536), .int .i64 0]) u) :=
    fun u hu => vec_in _ _ u hu (by omega) (by omega) (by have := he.1; unfold FarT; omega)
  have HG : Hid (goM E m = ⟨cl (m.x + E.s * cs m.a / 65536) E.w, cl (m.y + E.s * sn m.a / 65536) E.h, m.a⟩) := rfl
  generalize goM E m = G at *
  generalize E.s * cs m.a / 65536 = p at *
  generalize E.s * sn m.a / 65536 = q at *
  have HV := Lib.hid HV
  have a0 := he.2.2.2.2.1
  have a1 := he.2.2.2.2.2.1
  have b0 := he.2.2.2.2.2.2.1
  have b1 := he.2.2.2.2.2.2.2
  clear he ha hT
  obtain ⟨x0, x1, x2⟩ := B.out.m.mv
  obtain ⟨y0, y1, y2, y3⟩ := B.out.e.eg
  go_enter Tryd.func35, Tryd.ntmps35
  go_wp2_with fail
  generalize ((w.alloc (.cells (mvA m) 26)).alloc (.cells (egA E) 28)).alloc (.cells #[.int .i64 0, .int .i64 0, .int .i64 0] 26) = w1 at *
  refine (HV.out w1 T1.out).mono ?_
  rintro e w2 ⟨rfl, b2⟩
  have B2 := Lib.hid (B.out.keep b2)
  clear b2 B x0 x1 x2 y0 y1 y2 y3 HV T1
  obtain ⟨x0, x1, x2⟩ := B2.out.m.mv
  obtain ⟨y0, y1, y2, y3⟩ := B2.out.e.eg
  go_wp2_with fail
  refine (clamp14_any _ _ _ a0 a1).mono ?_
  rintro e w3 ⟨rfl, rfl⟩
  generalize cl (m.x + p) E.w = u at *
  have f0 := B2.out.m.free 0
  have B3 := Lib.hid (B2.out.setX u)
  obtain ⟨z0, z1, z2⟩ := B3.out.m.mv
  obtain ⟨_, _, _, u3⟩ := B3.out.e.eg
  go_wp2_with fail
  refine (clamp14_any _ _ _ b0 b1).mono ?_
  rintro e w3 ⟨rfl, rfl⟩
  generalize cl (m.y + q) E.h = v at *
  have f1 := B3.out.m.free 1
  have B4 := Lib.hid (B3.out.setY v)
  go_wp2_with (first | (refine wpList_load_at (loadVar_mv B4.out.m.blk) rfl rfl rfl ?_) | (refine wpList_store_blk (c' := mvA ⟨u, v, m.a⟩) Tryd.sizeMv (B4.out.r.blk) rfl rfl rfl rfl rfl rfl (mvA_one _) ?_))
  have B5 := Lib.hid (B4.out.setR ⟨u, v, m.a⟩)
  refine bodyPost_ret (results_mv Tryd.results35 _ rfl B5.out.r.blk) rfl (Ret.mk ?_ B5.out.below)
  rw [HG.out]
end Go.Proofs.YtckeplbmkjoiaaaDoor
