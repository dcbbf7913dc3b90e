/- What each law of stage 13 begins with. -/
import Derived.Test.YtcipedijjemghaaDoorRtA
namespace Go.Proofs.YtcipedijjemghaaDoor
open Go.RowKit Go.Sort Go.Shelf
set_option linter.unusedVariables false
set_option linter.unusedSimpArgs false

theorem Lin.cut {w : World} {A : Option Addr} {n ca : Nat} {O : Nat → Bool} (h : Lin w A n ca O) : Lin w A (cut13 n) ca O := ⟨h.bo.take (cut13_le n).1, Nat.le_trans (cut13_le n).1 h.nc, h.cm, h.tb⟩
/-- The boxes of an Asked and of the land that is looked at. -/
structure Bx2 (w : World) (x y : Nat) (X : World) (W H : Int) (A : Option Addr) (n m c : Nat) (f t k b : Int) : Prop where
  x : Kx w x X 35 #[.int .i64 W, .int .i64 H, .slice A n c, .int .i64 f, .int .i64 t, .int .i64 k, .int .i64 b]
  y : Kx w y X 24 #[.int .i64 W, .int .i64 H, .slice A m c]
theorem Bx2.keep {w X Y : World} {x y : Nat} {W H : Int} {A : Option Addr} {n m c : Nat} {f t k b : Int} (h : Bx2 w x y X W H A n m c f t k b) (hb : RowKit.Below X.heap.size X Y) : Bx2 w x y Y W H A n m c f t k b := ⟨h.x.keep hb, h.y.keep hb⟩
/-- All the cells at once. -/
structure Bc2 (x y : Nat) (X : World) (W H : Int) (A : Option Addr) (m c : Nat) (f t k b : Int) : Prop where
  y0 : X.cell? ⟨y, 0, none⟩ = some (.int .i64 W)
  y1 : X.cell? ⟨y, 1, none⟩ = some (.int .i64 H)
  y2 : X.cell? ⟨y, 2, none⟩ = some (.slice A m c)
  x3 : X.cell? ⟨x, 3, none⟩ = some (.int .i64 f)
  x4 : X.cell? ⟨x, 4, none⟩ = some (.int .i64 t)
  x5 : X.cell? ⟨x, 5, none⟩ = some (.int .i64 k)
  x6 : X.cell? ⟨x, 6, none⟩ = some (.int .i64 b)
theorem Bx2.c {w X : World} {x y : Nat} {W H : Int} {A : Option Addr} {n m c : Nat} {f t k b : Int} (h : Bx2 w x y X W H A n m c f t k b) : Bc2 x y X W H A m c f t k b :=
  ⟨h.y.cell 0 rfl, h.y.cell 1 rfl, h.y.cell 2 rfl, h.x.cell 3 rfl, h.x.cell 4 rfl, h.x.cell 5 rfl, h.x.cell 6 rfl⟩
end Go.Proofs.YtcipedijjemghaaDoor
