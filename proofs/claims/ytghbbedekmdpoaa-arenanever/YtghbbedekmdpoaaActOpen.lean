/- A slice of acts that came in, as the walk is told of it. -/
import Derived.Test.YtghbbedekmdpoaaArOpen
namespace Go.Proofs.Ytghbbedekmdpoaa
open Go.ChangeShapes Go.WideShapes Go.ChangeAt Go.RowKit Go.Joins Go.Deep
set_option linter.unusedVariables false

/-- The acts lie at A: Free, ID, Last. -/
def Ac (w : World) (A : Option Addr) (n : Nat) (F : Nat → Bool) (I K : Nat → Int) : Prop :=
  0 < n → ∃ g o, A = some ⟨g, o, none⟩ ∧ g < w.heap.size ∧ ∀ i, i < n → w.cell? ⟨g, o + i * 3, none⟩ = some (.bool (F i)) ∧ w.cell? ⟨g, o + i * 3 + 1, none⟩ = some (.int .i64 (I i)) ∧ w.cell? ⟨g, o + i * 3 + 2, none⟩ = some (.int .i64 (K i))
theorem cellsAct11 : Try.prog.cellsOf 41 = 3 := by kernel_rfl
theorem act_open {H : Type} {enc : TypeId × Value → H} {w : World} {base : Nat} {spare : Nat → Bool} {held : Bool} {fuel : Nat} {cs : List Value} {x : DataW H × List MemPlace}
    (hf : DataW.trod enc Try.prog w base spare held fuel 41 cs = some x) : ∃ y : Bool × Int × Int, cs = [.bool y.1, .int .i64 y.2.1, .int .i64 y.2.2] := by
  obtain ⟨xs, n, _, _, hlen, hxl, hg⟩ := DataW.trod_struct Try.underlying41 hf
  match cs, hlen.trans cellsAct11 with
  | [c0, c1, c2], _ =>
    match xs, hxl with
    | [y0, y1, y2], _ =>
      have g0 := hg 0 _ rfl
      have g1 := hg 1 _ rfl
      have g2 := hg 2 _ rfl
      simp [cellsInt11, cellsBool11] at g0 g1 g2
      obtain ⟨a0, e0, _⟩ := DataW.trod_bool Try.underlying4 g0
      obtain ⟨a1, e1, _, _⟩ := DataW.trod_int Try.underlying3 g1
      obtain ⟨a2, e2, _, _⟩ := DataW.trod_int Try.underlying3 g2
      simp at e0 e1 e2
      subst e0 e1 e2
      exact ⟨(a0, a1, a2), rfl⟩
theorem acts_open {H : Type} {enc : TypeId × Value → H} {w : World} {base : Nat} {spare : Nat → Bool} {held : Bool} {fuel : Nat} {v : Value} {x : DataW H × List MemPlace}
    (hf : DataW.trod enc Try.prog w base spare held fuel 39 [v] = some x) :
    ∃ A n c F I K, v = .slice A n c ∧ Ac w A n F I K ∧ n ≤ c ∧ c ≤ maxLen := by
  rcases open_slice Try.underlying39 hf with ⟨hcs, _⟩ | ⟨a, l, c, m, n, D, Pl, hcs, hb, hl, hm, hme, _, hel⟩
  · injection hcs with hcs
    exact ⟨none, 0, 0, fun _ => false, fun _ => 0, fun _ => 0, hcs, fun h => absurd h (by omega), Nat.le_refl _, by simp [maxLen]⟩
  · injection hcs with hcs
    obtain ⟨b, off, spot⟩ := a
    have hlm : l ≤ m := by rw [hme]; split <;> omega
    have each : ∀ i, i < l → ∃ y : Bool × Int × Int, ∀ k, k < 3 → w.cell? (((⟨b, off, spot⟩ : Addr).add (i * 3)).add k) = ([.bool y.1, .int .i64 y.2.1, .int .i64 y.2.2] : List Value)[k]? := by
      intro i hi
      obtain ⟨cs', h1, h2⟩ := hel i (by omega)
      obtain ⟨y, rfl⟩ := act_open h2
      rw [cellsAct11] at h1
      exact ⟨y, fun k hk => (World.cells?_some h1).2.2 k hk⟩
    obtain ⟨h, hh⟩ := choose_lt each
    refine ⟨some ⟨b, off, spot⟩, l, c, fun i => (h i).1, fun i => (h i).2.1, fun i => (h i).2.2, hcs, fun h0 => ?_, hl, hm⟩
    have hc := hh 0 h0 0 (by omega)
    have hspot : spot = none := by simpa [Addr.add] using World.cell?_spot hc
    subst hspot
    have e : ∀ i k, ((⟨b, off, none⟩ : Addr).add i).add k = ⟨b, off + i + k, none⟩ := fun i k => by unfold Addr.add; (repeat' split) <;> simp_all
    refine ⟨b, off, rfl, by simpa [Addr.add] using World.block_lt_of_cell? w _ hc, fun i hi => ?_⟩
    have q0 := hh i hi 0 (by omega)
    have q1 := hh i hi 1 (by omega)
    have q2 := hh i hi 2 (by omega)
    rw [e] at q0 q1 q2
    exact ⟨q0, q1, q2⟩
end Go.Proofs.Ytghbbedekmdpoaa
