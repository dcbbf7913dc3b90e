/- How each law of layer 8 begins: few, and its result stored; the box of a Way. -/
import Derived.Test.YtljedkceicahaaaAwake8
namespace Go.Proofs.Ytljedkceicahaaa
open Go.RowKit
set_option linter.unusedVariables false

instance (W H T : Int) (n : Nat) : Decidable (Val W H T n) := decidable_of_iff (Sides W H T ∧ (n : Int) = (W + 1) * (H + 1)) ⟨fun h => ⟨h.1, h.2⟩, fun h => ⟨h.s, h.e⟩⟩

theorem bs_after {w w1 : World} {A : Option Addr} {n m : Nat} {p : Nat → Nat} (h : Bs w A n p) (hm : m ≤ n) (hb : Below w.heap.size w w1) (a b c d : Value) : Bs (put4 w1 w.heap.size a b c d) A m p := by
  intro h0
  obtain ⟨g, o, rfl, hg, _⟩ := h (by omega)
  exact ((h.keep hb).take hm).put (fun x e => by injection e with e; subst e; show g ≠ _; omega) a b c d h0

/-- What each law begins with: the map's box, its bytes. -/
structure Start (w Y : World) (g : Nat) (W H T : Int) (A : Option Addr) (N c : Nat) (p : Nat → Nat) : Prop where
  bx : Bx w g Y (.int .i64 W) (.int .i64 H) (.int .i64 T) (.slice A N c)
  bs : Bs Y A N p
theorem Start.keep {w Y Z : World} {g : Nat} {W H T : Int} {A : Option Addr} {N c : Nat} {p : Nat → Nat} (h : Start w Y g W H T A N c p) (hb : Below Y.heap.size Y Z) : Start w Z g W H T A N c p := ⟨h.bx.keep hb, h.bs.keep hb⟩
theorem Start.first {w w1 : World} {W H T : Int} {A : Option Addr} {n c : Nat} {p : Nat → Nat} (hb : Bs w A n p)
    (b1 : Below (w.alloc (.cells #[.int .i64 W, .int .i64 H, .int .i64 T, .slice A n c] 24)).heap.size (w.alloc (.cells #[.int .i64 W, .int .i64 H, .int .i64 T, .slice A n c] 24)) w1) :
    Start w ((((w1.setCell ⟨w.heap.size, 0, none⟩ (.int .i64 W)).setCell ⟨w.heap.size, 1, none⟩ (.int .i64 H)).setCell ⟨w.heap.size, 2, none⟩ (.int .i64 T)).setCell ⟨w.heap.size, 3, none⟩ (.slice A (fewN n) c)) w.heap.size W H T A (fewN n) c p :=
  ⟨((Bx.new w (.int .i64 W) (.int .i64 H) (.int .i64 T) (.slice A n c) 24).keep b1).put _ _ _ _, bs_after hb (fewN_le n).1 (below_box b1) _ _ _ _⟩
/-- Sides are numbers from 0 on. -/
theorem Val.nat {W H T : Int} {n : Nat} (h : Val W H T n) : ∃ wd ht : Nat, W = (wd : Int) ∧ H = (ht : Int) := by
  obtain ⟨h1, h2, h3, h4, _, _⟩ := h.s
  exact ⟨W.toNat, H.toNat, by omega, by omega⟩

/-- The Way's box. -/
structure B10 (w X : World) (a0 a1 a2 a3 a4 a5 a6 a7 a8 a9 : Value) : Prop where
  c0 : X.cell? ⟨w.heap.size, 0, none⟩ = some a0
  c1 : X.cell? ⟨w.heap.size, 1, none⟩ = some a1
  c2 : X.cell? ⟨w.heap.size, 2, none⟩ = some a2
  c3 : X.cell? ⟨w.heap.size, 3, none⟩ = some a3
  c4 : X.cell? ⟨w.heap.size, 4, none⟩ = some a4
  c5 : X.cell? ⟨w.heap.size, 5, none⟩ = some a5
  c6 : X.cell? ⟨w.heap.size, 6, none⟩ = some a6
  c7 : X.cell? ⟨w.heap.size, 7, none⟩ = some a7
  c8 : X.cell? ⟨w.heap.size, 8, none⟩ = some a8
  c9 : X.cell? ⟨w.heap.size, 9, none⟩ = some a9
  below : Below w.heap.size w X
theorem B10.keep {w X Y : World} {a0 a1 a2 a3 a4 a5 a6 a7 a8 a9 : Value} (h : B10 w X a0 a1 a2 a3 a4 a5 a6 a7 a8 a9) (hb : Below X.heap.size X Y) : B10 w Y a0 a1 a2 a3 a4 a5 a6 a7 a8 a9 :=
  ⟨kc hb h.c0, kc hb h.c1, kc hb h.c2, kc hb h.c3, kc hb h.c4, kc hb h.c5, kc hb h.c6, kc hb h.c7, kc hb h.c8, kc hb h.c9, h.below.trans (hb.mono h.below.size)⟩
theorem B10.drew {w X : World} {a0 a1 a2 a3 a4 a5 a6 a7 a8 a9 : Value} (h : B10 w X a0 a1 a2 a3 a4 a5 a6 a7 a8 a9) : B10 w X.drew a0 a1 a2 a3 a4 a5 a6 a7 a8 a9 := h.keep (Below.refl _ _).drew
theorem B10.new (w : World) (a0 a1 a2 a3 a4 a5 a6 a7 a8 a9 : Value) (t : TypeId) : B10 w (w.alloc (.cells #[a0, a1, a2, a3, a4, a5, a6, a7, a8, a9] t)) a0 a1 a2 a3 a4 a5 a6 a7 a8 a9 :=
  ⟨by rw [cell_new _ _ _ _ _ rfl]; rfl, by rw [cell_new _ _ _ _ _ rfl]; rfl, by rw [cell_new _ _ _ _ _ rfl]; rfl, by rw [cell_new _ _ _ _ _ rfl]; rfl, by rw [cell_new _ _ _ _ _ rfl]; rfl, by rw [cell_new _ _ _ _ _ rfl]; rfl, by rw [cell_new _ _ _ _ _ rfl]; rfl, by rw [cell_new _ _ _ _ _ rfl]; rfl, by rw [cell_new _ _ _ _ _ rfl]; rfl, by rw [cell_new _ _ _ _ _ rfl]; rfl,
    (Below.refl _ _).alloc (Nat.le_refl _) _⟩
theorem Start.behind {w X : World} {W H T : Int} {A : Option Addr} {n m c : Nat} {p : Nat → Nat} (hb : Bs w A n p) (hm : m ≤ n) (hB : Below w.heap.size w X) :
    Start w (X.alloc (.cells #[.int .i64 W, .int .i64 H, .int .i64 T, .slice A m c] 24)) X.heap.size W H T A m c p :=
  ⟨Bx.next hB _ _ _ _ _, ((hb.keep hB).take hm).alloc _⟩

end Go.Proofs.Ytljedkceicahaaa
