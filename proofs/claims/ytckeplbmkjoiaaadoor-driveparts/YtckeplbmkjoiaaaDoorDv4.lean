/- Stage 14: Step; the program's. -/
import Derived.Test.YtckeplbmkjoiaaaDoorDv3
namespace Go.Proofs.YtckeplbmkjoiaaaDoor
open Go.RowKit
set_option linter.unusedVariables false

/-- A mover's box that is made and filled. -/
theorem Kx.mMade {w X : World} (hb : Below w.heap.size w X) (n : Mv) : Kx w X.heap.size ((X.alloc (.cells #[.int .i64 0, .int .i64 0, .int .i64 0] 26)).setRow X.heap.size (mvA n)) 26 (mvA n) := (Kx.next hb 26 _).row _
theorem Kx.mBeside {w X : World} {g : Nat} {t : TypeId} {cs : Array Value} (h : Kx w g X t cs) (n : Mv) : Kx w g ((X.alloc (.cells #[.int .i64 0, .int .i64 0, .int .i64 0] 26)).setRow X.heap.size (mvA n)) t cs :=
  (h.alloc _).farRow (by have := h.lt; omega) (by have := h.below.size; omega) _
theorem Bn.mBeside {w X : World} {m r : Mv} {E : Eg} (h : Bn w X m E r) (n : Mv) : Bn w ((X.alloc (.cells #[.int .i64 0, .int .i64 0, .int .i64 0] 26)).setRow X.heap.size (mvA n)) m E r := ⟨h.m.mBeside n, h.e.mBeside n, h.r.mBeside n⟩

set_option maxRecDepth 100000 in
set_option maxHeartbeats 4000000 in
theorem Step14_bad (E : Eg) (m : Mv) (x y : Int) (w : World) (hT : Tab w) (hk : ¬ okM E x y m) :
    Calls Tryd.prog 11 #[.agg (mvA m), .agg (egA E), .int .i64 x, .int .i64 y] w (Ret (.tuple #[.agg (mvA mv0), .bool false, .int .i64 1]) w) := by
  have B := Lib.hid (Bn.new0 w m E)
  have HT := Lib.hid hT
  have HK := Lib.hid hk
  clear hT hk
  go_enter Tryd.func11, Tryd.ntmps11
  go_wp2_with (first | (refine wpList_load_at (loadVar_mv B.out.m.blk) rfl rfl rfl ?_) | (refine wpList_load_at (loadVar_eg B.out.e.blk) rfl rfl rfl ?_))
  generalize ((w.alloc (.cells (mvA m) 26)).alloc (.cells (egA E) 28)).alloc (.cells #[.int .i64 0, .int .i64 0, .int .i64 0] 26) = w1 at *
  refine (may14_any E m x y w1).mono ?_
  rw [decide_eq_false HK.out]
  rintro e w2 ⟨rfl, b2⟩
  have B2 := Lib.hid (B.out.keep b2)
  clear b2 B
  go_wp2_with (refine wpList_store_blk (c' := mvA mv0) Tryd.sizeMv (B2.out.r.blk) rfl rfl rfl rfl rfl rfl (mvA_one _) ?_)
  have B3 := Lib.hid (B2.out.setR mv0)
  refine bodyPost_ret (results_mv2 Tryd.results11 _ rfl B3.out.r.blk) rfl (Ret.mk rfl B3.out.below)
set_option maxRecDepth 100000 in
set_option maxHeartbeats 4000000 in
theorem Step14_ok (E : Eg) (m : Mv) (x y : Int) (w : World) (hT : Tab w) (hk : okM E x y m) :
    Calls Tryd.prog 11 #[.agg (mvA m), .agg (egA E), .int .i64 x, .int .i64 y] w (Ret (.tuple #[.agg (mvA (dvS E x y m).1), .bool (dvS E x y m).2, .int .i64 0]) w) := by
  have B := Lib.hid (Bn.new0 w m E)
  have HT := Lib.hid hT
  have HK := Lib.hid hk
  clear hT hk
  go_enter Tryd.func11, Tryd.ntmps11
  go_wp2_with (first | (refine wpList_load_at (loadVar_mv B.out.m.blk) rfl rfl rfl ?_) | (refine wpList_load_at (loadVar_eg B.out.e.blk) rfl rfl rfl ?_))
  generalize ((w.alloc (.cells (mvA m) 26)).alloc (.cells (egA E) 28)).alloc (.cells #[.int .i64 0, .int .i64 0, .int .i64 0] 26) = w1 at *
  refine (may14_any E m x y w1).mono ?_
  rw [decide_eq_true HK.out]
  rintro e w2 ⟨rfl, b2⟩
  have B2 := Lib.hid (B.out.keep b2)
  clear b2 B
  go_wp2_with (first | (refine wpList_load_at (loadVar_mv B2.out.m.blk) rfl rfl rfl ?_) | (refine wpList_load_at (loadVar_eg B2.out.e.blk) rfl rfl rfl ?_))
  refine (step14_any E m x y w2 (HT.out.keep B2.out.below) HK.out).mono ?_
  rintro e w3 ⟨rfl, b3⟩
  have B3 := Lib.hid (B2.out.keep b3)
  clear b3 B2
  have B4 := Lib.hid (B3.out.mBeside (dvS E x y m).1)
  have N4 := Lib.hid (Kx.mMade B3.out.below (dvS E x y m).1)
  generalize dvS E x y m = R at *
  go_wp2_with (first | (refine wpList_store_blk (c' := mvA R.1) Tryd.sizeMv (alloc_blk _ _ _) rfl rfl rfl rfl rfl rfl (mvA_one _) ?_) | (refine wpList_load_at (loadVar_mv N4.out.blk) rfl rfl rfl ?_) | (refine wpList_store_blk (c' := mvA R.1) Tryd.sizeMv (B4.out.r.blk) rfl rfl rfl rfl rfl rfl (mvA_one _) ?_))
  have B5 := Lib.hid (B4.out.setR R.1)
  refine bodyPost_ret (results_mv2 Tryd.results11 _ rfl B5.out.r.blk) rfl (Ret.mk rfl B5.out.below)

end Go.Proofs.YtckeplbmkjoiaaaDoor
