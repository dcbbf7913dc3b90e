/- A slice of spots that came in, as the walk is told of it. -/
import Derived.Test.YtkghjaodnkjmoaaNr4
import Derived.Deep.Slices
import Derived.ProofKit
import Derived.OpenShut
import Derived.Lib.SmallJoins
namespace Go.Proofs.Ytkghjaodnkjmoaa
open Go.ChangeShapes Go.WideShapes Go.ChangeAt Go.RowKit Go.Joins Go.Deep
set_option linter.unusedVariables false

theorem cellsSpot12 : Try.prog.cellsOf 46 = 2 := by kernel_rfl
theorem cellsI12 : Try.prog.cellsOf 2 = 1 := by kernel_rfl
set_option maxRecDepth 100000 in
theorem spot_open {H : Type} {enc : TypeId × Value → H} {w : World} {base : Nat} {spare : Nat → Bool} {held : Bool} {fuel : Nat} {cs : List Value} {x : DataW H × List MemPlace}
    (hf : DataW.trod enc Try.prog w base spare held fuel 46 cs = some x) : ∃ y : Int × Int, cs = [.int .i64 y.1, .int .i64 y.2] := by
  obtain ⟨xs, n, _, _, hlen, hxl, hg⟩ := DataW.trod_struct Try.underlying46 hf
  match cs, hlen.trans cellsSpot12 with
  | [c0, c1], _ =>
    match xs, hxl with
    | [y0, y1], _ =>
      have g0 := hg 0 _ rfl
      have g1 := hg 1 _ rfl
      simp [cellsI12] at g0 g1
      obtain ⟨a0, e0, _, _⟩ := DataW.trod_int Try.underlying2 g0
      obtain ⟨a1, e1, _, _⟩ := DataW.trod_int Try.underlying2 g1
      simp at e0 e1
      subst e0 e1
      exact ⟨(a0, a1), rfl⟩
set_option maxRecDepth 100000 in
theorem spots_open {H : Type} {enc : TypeId × Value → H} {w : World} {base : Nat} {spare : Nat → Bool} {held : Bool} {fuel : Nat} {v : Value} {x : DataW H × List MemPlace}
    (hf : DataW.trod enc Try.prog w base spare held fuel 22 [v] = some x) :
    ∃ A n c X Y, v = .slice A n c ∧ Ps X Y w A n ∧ n ≤ c ∧ c ≤ maxLen ∧ (A = none → c = 0) := by
  rcases open_slice Try.underlying22 hf with ⟨hcs, _⟩ | ⟨a, l, c, m, n, D, Pl, hcs, hb, hl, hm, hme, _, hel⟩
  · injection hcs with hcs
    exact ⟨none, 0, 0, fun _ => 0, fun _ => 0, hcs, fun h => absurd h (by omega), Nat.le_refl _, by simp [maxLen], fun _ => rfl⟩
  · injection hcs with hcs
    obtain ⟨b, off, spot⟩ := a
    have hlm : l ≤ m := by rw [hme]; split <;> omega
    have each : ∀ i, i < l → ∃ y : Int × Int, ∀ k, k < 2 → w.cell? (((⟨b, off, spot⟩ : Addr).add (i * 2)).add k) = ([.int .i64 y.1, .int .i64 y.2] : List Value)[k]? := by
      intro i hi
      obtain ⟨cs', h1, h2⟩ := hel i (by omega)
      obtain ⟨y, rfl⟩ := spot_open h2
      rw [cellsSpot12] at h1
      exact ⟨y, fun k hk => (World.cells?_some h1).2.2 k hk⟩
    obtain ⟨h, hh⟩ := choose_lt each
    refine ⟨some ⟨b, off, spot⟩, l, c, fun i => (h i).1, fun i => (h i).2, hcs, fun h0 => ?_, hl, hm, fun e => by cases e⟩
    have hc := hh 0 h0 0 (by omega)
    have hspot : spot = none := by simpa [Addr.add] using World.cell?_spot hc
    subst hspot
    have e : ∀ i k, ((⟨b, off, none⟩ : Addr).add i).add k = ⟨b, off + i + k, none⟩ := fun i k => by unfold Addr.add; (repeat' split) <;> simp_all
    refine ⟨b, off, rfl, by simpa [Addr.add] using World.block_lt_of_cell? w _ hc, fun i hi => ?_⟩
    have q0 := hh i hi 0 (by omega)
    have q1 := hh i hi 1 (by omega)
    rw [e] at q0 q1
    exact ⟨q0, q1⟩
end Go.Proofs.Ytkghjaodnkjmoaa
