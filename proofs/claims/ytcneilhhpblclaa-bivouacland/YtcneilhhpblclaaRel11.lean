/- Contracts of package relief, eleventh part: Decode. -/
import Derived.Test.YtcneilhhpblclaaRel10
import Derived.Deep.RegionHeld3
import Derived.Deep.DeepCutAuto
namespace Go.Proofs.Ytcneilhhpblclaa
open Go.RowKit
set_option linter.unusedVariables false

/-- The address behind the head. -/
def behind (A : Option Addr) (c : Nat) : Option Addr := if c = 3 then A else A.map (·.add 3)
theorem behind_bs {w : World} {A : Option Addr} {n c : Nat} {p : Nat → Nat} (hb : Bs w A n p) (hn : 3 ≤ n) (hc : n ≤ c) : Bs w (behind A c) (n - 3) (fun i => p (3 + i)) := by
  intro h0
  obtain ⟨g, o, rfl, hg, hcell⟩ := hb (by omega)
  refine ⟨g, o + 3, ?_, hg, fun i hi => ?_⟩
  · unfold behind
    rw [if_neg (by omega)]
    rfl
  · rw [Nat.add_assoc]
    exact hcell (3 + i) (by omega)

/-- A map of the call's own comes back, beside OK. -/
def RetMap (a b c : Int) (N : Nat) (q : Nat → Nat) (w : World) (e : Ending) (w' : World) : Prop :=
  ∃ A K, e = .returned (.tuple #[.agg #[.int .i64 a, .int .i64 b, .int .i64 c, .slice A N K], .int .i64 0]) ∧ N ≤ K ∧ K ≤ maxLen ∧ Ob w' w.heap.size A N q ∧ Below w.heap.size w w'
theorem Ob.put {w : World} {B n : Nat} {A : Option Addr} {p : Nat → Nat} (h : Ob w B A n p) {g : Nat} (hg : g < B) (a b c d : Value) : Ob (put4 w g a b c d) B A n p := by
  intro hn
  obtain ⟨g0, e, hB, h0, hc, hf⟩ := h hn
  have hne : g ≠ g0 := by omega
  unfold put4
  refine ⟨g0, e, hB, by simpa using h0, fun i hi => ?_, fun i => by simpa [World.frozen?_setCell] using hf i⟩
  exact cell_far (cell_far (cell_far (cell_far (hc i hi) (.inl hne)) (.inl hne)) (.inl hne)) (.inl hne)
theorem Ob.one {w : World} {B n : Nat} {A : Option Addr} {p : Nat → Nat} (h : Ob w B A n p) {g j : Nat} (hg : g < B) (a : Value) : Ob (w.setCell ⟨g, j, none⟩ a) B A n p := by
  intro hn
  obtain ⟨g0, e, hB, h0, hc, hf⟩ := h hn
  have hne : g ≠ g0 := by omega
  refine ⟨g0, e, hB, by simpa using h0, fun i hi => cell_far (hc i hi) (.inl hne), fun i => by simpa [World.frozen?_setCell] using hf i⟩
/-- The last of the four written anew. -/
theorem Bx.last {w X : World} {g : Nat} {a b c d : Value} (h : Bx w g X a b c d) (d' : Value) : Bx w g (X.setCell ⟨g, 3, none⟩ d') a b c d' :=
  ⟨h.ge, cell_far h.c0 (by omega), cell_far h.c1 (by omega), cell_far h.c2 (by omega), cell_set h.c3,
    by simpa [World.frozen?_setCell] using h.f0, by simpa [World.frozen?_setCell] using h.f1, by simpa [World.frozen?_setCell] using h.f2, by simpa [World.frozen?_setCell] using h.f3, h.below.setCell (p := ⟨g, 3, none⟩) h.ge _⟩
/-- Another block written does not touch the box. -/
theorem Bx.far {w X : World} {g j i : Nat} {a b c d : Value} (h : Bx w g X a b c d) (hne : j ≠ g) (hj : w.heap.size ≤ j) (u : Value) : Bx w g (X.setCell ⟨j, i, none⟩ u) a b c d :=
  ⟨h.ge, cell_far h.c0 (.inl hne), cell_far h.c1 (.inl hne), cell_far h.c2 (.inl hne), cell_far h.c3 (.inl hne),
    by simpa [World.frozen?_setCell] using h.f0, by simpa [World.frozen?_setCell] using h.f1, by simpa [World.frozen?_setCell] using h.f2, by simpa [World.frozen?_setCell] using h.f3, h.below.setCell (p := ⟨j, i, none⟩) hj _⟩

end Go.Proofs.Ytcneilhhpblclaa
