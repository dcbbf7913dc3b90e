/- How each law of layer 7 that takes a Cell begins. -/
import Derived.Test.YtoikahdffpadoaaLGrStart
import Derived.Deep.RegionHeld3
import Derived.Deep.DeepCutAuto
namespace Go.Proofs.Ytoikahdffpadoaa
open Go.RowKit
set_option linter.unusedVariables false

/-- No such map. -/
theorem open_bad (W H T c i j : Int) (A : Option Addr) (n k : Nat) (w : World) (hn : n ≤ maxLen) (hv : ¬ Val W H T n) :
    Calls Try.prog 11 #[.agg #[.int .i64 W, .int .i64 H, .int .i64 T, .slice A n k], .int .i64 c, .int .i64 i, .int .i64 j] w (Ret (.tuple #[.bool false, .int .i64 1]) w) := by
  by_cases hc : Cls c
  · exact open_err W H T c i j 1 A n k w hc rfl (fun u => slope_err W H T i j 1 A n k u (by decide) (fun u => cell_bad W H T i j A n k u hn hv))
  · exact open_class W H T c i j A n k w hc

/-- The Cell's box. -/
structure B7 (w X : World) (a0 a1 a2 a3 a4 a5 a6 : Value) : Prop where
  c0 : X.cell? ⟨w.heap.size, 0, none⟩ = some a0
  c1 : X.cell? ⟨w.heap.size, 1, none⟩ = some a1
  c2 : X.cell? ⟨w.heap.size, 2, none⟩ = some a2
  c3 : X.cell? ⟨w.heap.size, 3, none⟩ = some a3
  c4 : X.cell? ⟨w.heap.size, 4, none⟩ = some a4
  c5 : X.cell? ⟨w.heap.size, 5, none⟩ = some a5
  c6 : X.cell? ⟨w.heap.size, 6, none⟩ = some a6
  below : Below w.heap.size w X
theorem B7.keep {w X Y : World} {a0 a1 a2 a3 a4 a5 a6 : Value} (h : B7 w X a0 a1 a2 a3 a4 a5 a6) (hb : Below X.heap.size X Y) : B7 w Y a0 a1 a2 a3 a4 a5 a6 :=
  ⟨kc hb h.c0, kc hb h.c1, kc hb h.c2, kc hb h.c3, kc hb h.c4, kc hb h.c5, kc hb h.c6, h.below.trans (hb.mono h.below.size)⟩
theorem B7.drew {w X : World} {a0 a1 a2 a3 a4 a5 a6 : Value} (h : B7 w X a0 a1 a2 a3 a4 a5 a6) : B7 w X.drew a0 a1 a2 a3 a4 a5 a6 := h.keep (Below.refl _ _).drew
theorem B7.new (w : World) (a0 a1 a2 a3 a4 a5 a6 : Value) (t : TypeId) : B7 w (w.alloc (.cells #[a0, a1, a2, a3, a4, a5, a6] t)) a0 a1 a2 a3 a4 a5 a6 :=
  ⟨by rw [cell_new _ _ _ _ _ rfl]; rfl, by rw [cell_new _ _ _ _ _ rfl]; rfl, by rw [cell_new _ _ _ _ _ rfl]; rfl, by rw [cell_new _ _ _ _ _ rfl]; rfl, by rw [cell_new _ _ _ _ _ rfl]; rfl, by rw [cell_new _ _ _ _ _ rfl]; rfl, by rw [cell_new _ _ _ _ _ rfl]; rfl,
    (Below.refl _ _).alloc (Nat.le_refl _) _⟩
/-- The map's box laid behind the call. -/
theorem Start.behind {w X : World} {W H T : Int} {A : Option Addr} {n m c : Nat} {p : Nat → Nat} (hb : Bs w A n p) (hm : m ≤ n) (hB : Below w.heap.size w X) :
    Start w (X.alloc (.cells #[.int .i64 W, .int .i64 H, .int .i64 T, .slice A m c] 25)) X.heap.size W H T A m c p :=
  ⟨Bx.next hB _ _ _ _ _, ((hb.keep hB).take hm).alloc _⟩
/-- The map's box laid ahead of the call. -/
theorem Start.ahead {w X : World} {g : Nat} {W H T : Int} {A : Option Addr} {n m c : Nat} {p : Nat → Nat} {a b e d : Value} (hb : Bs w A n p) (hm : m ≤ n) (hX : Bx w g X a b e d) :
    Start w ((((X.setCell ⟨g, 0, none⟩ (.int .i64 W)).setCell ⟨g, 1, none⟩ (.int .i64 H)).setCell ⟨g, 2, none⟩ (.int .i64 T)).setCell ⟨g, 3, none⟩ (.slice A m c)) g W H T A m c p := by
  refine ⟨hX.put _ _ _ _, fun h0 => ?_⟩
  obtain ⟨g0, o, rfl, hg, _⟩ := hb (by omega)
  have := hX.ge
  exact ((hb.keep hX.below).take hm).put (fun x e => by injection e with e; subst e; show g0 ≠ g; omega) _ _ _ _ h0

end Go.Proofs.Ytoikahdffpadoaa
