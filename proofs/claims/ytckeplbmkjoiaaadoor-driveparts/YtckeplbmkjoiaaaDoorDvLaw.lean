/- Stage 14: a Going in memory. -/
import Derived.Test.YtckeplbmkjoiaaaDoorDv7
import Derived.Test.YtckeplbmkjoiaaaDoorDvOpen
namespace Go.Proofs.YtckeplbmkjoiaaaDoor
open Go.RowKit
set_option linter.unusedVariables false

theorem cells_in {w X : World} {g : Nat} {t : TypeId} {cs : Array Value} (h : Kx w g X t cs) (o : Nat) (l : List Value) (hl : ∀ j v, l[j]? = some v → cs[o + j]? = some v) :
    ∀ j v, l[j]? = some v → X.cell? ((⟨g, o, none⟩ : Addr).add j) = some v := by
  intro j v hj
  have e : (⟨g, o, none⟩ : Addr).add j = ⟨g, o + j, none⟩ := by unfold Addr.add; split <;> simp_all
  rw [e]
  exact h.cell (o + j) (hl j v hj)
theorem Kx.goMv {w X : World} {g : Nat} {t : TypeId} {m : Mv} {E : Eg} {x y n : Int} (h : Kx w g X t (goA m E x y n)) :
    (loadVar 26 ⟨g, 0, none⟩).run Tryd.prog X = .ok (.agg (mvA m)) X :=
  run_loadVar_at X ⟨g, 0, none⟩ 26 (mvA m).toList _ Tryd.underlying26 rfl Tryd.sizeMv (cells_in h 0 _ fun j v hj => by
    match j with
    | 0 | 1 | 2 => simpa [mvA, goA] using hj
    | j + 3 => simp [mvA] at hj)
theorem Kx.goEg {w X : World} {g : Nat} {t : TypeId} {m : Mv} {E : Eg} {x y n : Int} (h : Kx w g X t (goA m E x y n)) :
    (loadVar 28 ⟨g, 3, none⟩).run Tryd.prog X = .ok (.agg (egA E)) X :=
  run_loadVar_at X ⟨g, 3, none⟩ 28 (egA E).toList _ Tryd.underlying28 rfl Tryd.sizeEg (cells_in h 3 _ fun j v hj => by
    match j with
    | 0 | 1 | 2 | 3 => simpa [egA, goA] using hj
    | j + 4 => simp [egA] at hj)
theorem Kx.goC {w X : World} {g : Nat} {t : TypeId} {m : Mv} {E : Eg} {x y n : Int} (h : Kx w g X t (goA m E x y n)) :
    X.cell? ⟨g, 7, none⟩ = some (.int .i64 x) ∧ X.cell? ⟨g, 8, none⟩ = some (.int .i64 y) ∧ X.cell? ⟨g, 9, none⟩ = some (.int .i64 n) ∧ X.cell? ⟨g, 3, none⟩ = some (.int .i64 E.s) ∧ X.cell? ⟨g, 4, none⟩ = some (.int .i64 E.t) ∧ X.cell? ⟨g, 5, none⟩ = some (.int .i64 E.w) ∧ X.cell? ⟨g, 6, none⟩ = some (.int .i64 E.h) :=
  ⟨h.cell 7 rfl, h.cell 8 rfl, h.cell 9 rfl, h.cell 3 rfl, h.cell 4 rfl, h.cell 5 rfl, h.cell 6 rfl⟩
/-- A box that is made behind a Going's. -/
theorem next_blk (w : World) (o : Obj) : ((w.alloc o).alloc (.cells #[.int .i64 0, .int .i64 0, .int .i64 0] 26)).heap[w.heap.size + 1]? = some (.cells #[.int .i64 0, .int .i64 0, .int .i64 0] 26 (0, 0)) := by
  have := alloc_blk (w.alloc o) #[.int .i64 0, .int .i64 0, .int .i64 0] 26
  rwa [size_alloc14] at this
/-- A Going's box and, behind it, a mover's. -/
structure Bg (w W : World) (m : Mv) (E : Eg) (x y n : Int) (c : Mv) : Prop where
  g : Kx w w.heap.size W 30 (goA m E x y n)
  m : Kx w (w.heap.size + 1) W 26 (mvA c)
theorem Bg.new (w : World) (m : Mv) (E : Eg) (x y n : Int) (c : Mv) : Bg w (((w.alloc (.cells (goA m E x y n) 30)).alloc (.cells #[.int .i64 0, .int .i64 0, .int .i64 0] 26)).setRow (w.heap.size + 1) (mvA c)) m E x y n c := by
  refine ⟨((Kx.new w _ _).alloc _).farRow (by omega) (by omega) _, ?_⟩
  have := Kx.mMade (below_box (w := w) (.cells (goA m E x y n) 30)) c
  rwa [size_alloc14] at this
theorem Bg.keep {w W V : World} {m c : Mv} {E : Eg} {x y n : Int} (h : Bg w W m E x y n c) (hb : Below W.heap.size W V) : Bg w V m E x y n c := ⟨h.g.keep hb, h.m.keep hb⟩
theorem Bg.beside {w W : World} {m c : Mv} {E : Eg} {x y n : Int} (h : Bg w W m E x y n c) (r : Mv) : Bg w ((W.alloc (.cells #[.int .i64 0, .int .i64 0, .int .i64 0] 26)).setRow W.heap.size (mvA r)) m E x y n c := ⟨h.g.mBeside r, h.m.mBeside r⟩
theorem Bg.setM {w W : World} {m c : Mv} {E : Eg} {x y n : Int} (h : Bg w W m E x y n c) (r : Mv) : Bg w (W.setRow (w.heap.size + 1) (mvA r)) m E x y n r := ⟨h.g.farRow (by omega) (by omega) _, h.m.row _⟩
theorem Bg.below {w W : World} {m c : Mv} {E : Eg} {x y n : Int} (h : Bg w W m E x y n c) : Below w.heap.size w W := h.g.below
end Go.Proofs.YtckeplbmkjoiaaaDoor
