/- Stage 14: the law's engine and examples. -/
import Derived.Test.YtckeplbmkjoiaaaDoorDv5
import Derived.Test.YtckeplbmkjoiaaaDoorDvEx
namespace Go.Proofs.YtckeplbmkjoiaaaDoor
open Go.RowKit
set_option linter.unusedVariables false

theorem wfI14 {a : Int} (h : (Lit.int .i64 a).wf = true) : -9223372036854775808 ≤ a ∧ a ≤ 9223372036854775807 := by
  simpa [Lit.wf, IntKind.min, IntKind.max, IntKind.signed, IntKind.bits] using h
theorem results_eg {fn : Func} {p : Tmp} (h : fn.results = #[.cell p 28]) (tmps : Array Value) {w : World} {g : Nat} {E : Eg} (hp : tmps.getD p undef = .pointer (some ⟨g, 0, none⟩)) (hb : w.heap[g]? = some (.cells (egA E) 28 (0, 0))) :
    (results fn tmps).run Tryd.prog w = .ok (.agg (egA E)) w :=
  results_cell_row h tmps w g _ _ (0, 0) _ hp hb Tryd.underlying28 rfl Tryd.sizeEg
set_option maxHeartbeats 1000000 in
theorem engine14x_any (t : Int) (w : World) : Calls Tryd.prog 18 #[.int .i64 t] w (Ret (.agg (egA ⟨65536, t, 4, 4⟩)) w) := by
  go_enter Tryd.func18, Tryd.ntmps18
  go_wp2_with fail
  exact bodyPost_ret (results_eg Tryd.results18 _ rfl (alloc_blk w (egA ⟨65536, t, 4, 4⟩) _)) rfl (Ret.mk rfl (below_box _))
set_option maxRecDepth 100000 in
set_option maxHeartbeats 4000000 in
theorem awake14_any (w : World) (hT : Tab w) : Calls Tryd.prog 10 #[] w (Ret (.bool true) w) := by
  have HT := Lib.hid hT
  clear hT
  have e1 := Lib.hid ex_one
  have e2 := Lib.hid ex_many
  have e3 := Lib.hid ex_turn
  go_enter Tryd.func10, Tryd.ntmps10
  go_wp2_with fail
  refine (engine14x_any 32768 w).mono ?_
  rintro e w1 ⟨rfl, b1⟩
  have C1 := Lib.hid b1
  clear b1
  go_wp2_with fail
  refine (Step14_ok exF ⟨0, 0, 0⟩ 196608 0 w1 (HT.out.keep C1.out) ex_okF).mono ?_
  rw [e1.out]
  rintro e w2 ⟨rfl, b2⟩
  have C2 := Lib.hid (C1.out.trans (b2.mono C1.out.size))
  have A2 := Lib.hid (Kx.mMade C2.out ⟨65536, 0, 0⟩)
  clear b2 C1
  go_wp2_with (refine wpList_store_blk (c' := mvA ⟨65536, 0, 0⟩) Tryd.sizeMv (alloc_blk _ _ _) rfl rfl rfl rfl rfl rfl (mvA_one _) ?_)
  generalize (w2.alloc (.cells #[.int .i64 0, .int .i64 0, .int .i64 0] 26)).setRow w2.heap.size (mvA ⟨65536, 0, 0⟩) = w3 at *
  generalize w2.heap.size = ga at *
  have C3 := Lib.hid A2.out.below
  clear C2
  refine (engine14x_any 32768 w3).mono ?_
  rintro e w4 ⟨rfl, b4⟩
  have C4 := Lib.hid (C3.out.trans (b4.mono C3.out.size))
  have A4 := Lib.hid (A2.out.keep b4)
  clear b4 A2 C3
  go_wp2_with fail
  refine (Steps14_ok exF ⟨0, 0, 0⟩ 196608 0 9 w4 (HT.out.keep C4.out) ex_okF (by decide)).mono ?_
  rw [e2.out]
  rintro e w5 ⟨rfl, b5⟩
  have C5 := Lib.hid (C4.out.trans (b5.mono C4.out.size))
  have A5 := Lib.hid (A4.out.keep b5)
  have A6 := Lib.hid (A5.out.mBeside ⟨196608, 0, 0⟩)
  have B6 := Lib.hid (Kx.mMade C5.out ⟨196608, 0, 0⟩)
  clear b5 A4 C4 A5
  go_wp2_with (refine wpList_store_blk (c' := mvA ⟨196608, 0, 0⟩) Tryd.sizeMv (alloc_blk _ _ _) rfl rfl rfl rfl rfl rfl (mvA_one _) ?_)
  generalize (w5.alloc (.cells #[.int .i64 0, .int .i64 0, .int .i64 0] 26)).setRow w5.heap.size (mvA ⟨196608, 0, 0⟩) = w6 at *
  generalize w5.heap.size = gb at *
  have C6 := Lib.hid B6.out.below
  clear C5
  refine (engine14x_any 4096 w6).mono ?_
  rintro e w7 ⟨rfl, b7⟩
  have C7 := Lib.hid (C6.out.trans (b7.mono C6.out.size))
  have A7 := Lib.hid (A6.out.keep b7)
  have B7 := Lib.hid (B6.out.keep b7)
  clear b7 A6 B6 C6
  go_wp2_with fail
  refine (Step14_ok exS ⟨0, 0, 0⟩ 0 196608 w7 (HT.out.keep C7.out) ex_okS).mono ?_
  rw [e3.out]
  rintro e w8 ⟨rfl, b8⟩
  have C8 := Lib.hid (C7.out.trans (b8.mono C7.out.size))
  have A8 := Lib.hid (A7.out.keep b8)
  have B8 := Lib.hid (B7.out.keep b8)
  have A9 := Lib.hid (A8.out.mBeside ⟨0, 0, 4096⟩)
  have B9 := Lib.hid (B8.out.mBeside ⟨0, 0, 4096⟩)
  have D9 := Lib.hid (Kx.mMade C8.out ⟨0, 0, 4096⟩)
  clear b8 A7 B7 C7 A8 B8
  go_upto_region 4 with (refine wpList_store_blk (c' := mvA ⟨0, 0, 4096⟩) Tryd.sizeMv (alloc_blk _ _ _) rfl rfl rfl rfl rfl rfl (mvA_one _) ?_)
  generalize (w8.alloc (.cells #[.int .i64 0, .int .i64 0, .int .i64 0] 26)).setRow w8.heap.size (mvA ⟨0, 0, 4096⟩) = w9 at *
  generalize w8.heap.size = gc at *
  clear C8
  go_wp2_with (first | (refine wpList_load_at (loadVar_mv A9.out.blk) rfl rfl rfl ?_) | (refine wpList_load_g (loadVar_mv B9.out.blk) rfl rfl (by rfl) ?_) | (refine wpList_load_g (loadVar_mv D9.out.blk) rfl rfl (by rfl) ?_) | (refine wpList_cmp (fun u => (run_eql ⟨65536, 0, 0⟩ ⟨65536, 0, 0⟩ u).trans (by rw [eqM_self])) rfl rfl rfl rfl ?_; simp only [Act.put, List.setIfInBounds_toArray, List.set_cons_zero, List.set_cons_succ]) | (refine wpList_cmp_g (fun u => (run_eql ⟨196608, 0, 0⟩ ⟨196608, 0, 0⟩ u).trans (by rw [eqM_self])) rfl rfl rfl (by rfl) ?_; simp only [Act.put, List.setIfInBounds_toArray, List.set_cons_zero, List.set_cons_succ]) | (refine wpList_cmp_g (fun u => (run_eql ⟨0, 0, 4096⟩ ⟨0, 0, 4096⟩ u).trans (by rw [eqM_self])) rfl rfl rfl (by rfl) ?_; simp only [Act.put, List.setIfInBounds_toArray, List.set_cons_zero, List.set_cons_succ]))
  go_ret
  exact Ret.mk rfl D9.out.below

end Go.Proofs.YtckeplbmkjoiaaaDoor
