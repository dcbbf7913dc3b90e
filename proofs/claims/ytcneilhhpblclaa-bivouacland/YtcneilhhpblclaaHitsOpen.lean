/- A slice of hits that came in, as the walks are told of it. -/
import Derived.Test.YtcneilhhpblclaaBsOpen
import Derived.Test.YtcneilhhpblclaaCr3
import Derived.Deep.Slices
namespace Go.Proofs.Ytcneilhhpblclaa
open Go.ChangeShapes Go.WideShapes Go.ChangeAt Go.RowKit Go.Joins Go.Deep
set_option linter.unusedVariables false

instance : Inhabited Ht := ⟨⟨0, 0, 0, 0⟩⟩
theorem cellsHit : Try.prog.cellsOf 23 = 4 := by kernel_rfl
theorem cellsInt9 : Try.prog.cellsOf 3 = 1 := by kernel_rfl
theorem hit_open {H : Type} {enc : TypeId × Value → H} {w : World} {base : Nat} {spare : Nat → Bool} {held : Bool} {fuel : Nat} {cs : List Value} {x : DataW H × List MemPlace}
    (hf : DataW.trod enc Try.prog w base spare held fuel 23 cs = some x) : ∃ y : Ht, cs = [.int .i64 y.I, .int .i64 y.J, .int .i64 y.R, .int .i64 y.D] := by
  obtain ⟨xs, n, _, _, hlen, hxl, hg⟩ := DataW.trod_struct Try.underlying23 hf
  match cs, hlen.trans cellsHit with
  | [c0, c1, c2, c3], _ =>
    match xs, hxl with
    | [y0, y1, y2, y3], _ =>
      have g0 := hg 0 _ rfl
      have g1 := hg 1 _ rfl
      have g2 := hg 2 _ rfl
      have g3 := hg 3 _ rfl
      simp [cellsInt9] at g0 g1 g2 g3
      obtain ⟨a0, e0, _, _⟩ := DataW.trod_int Try.underlying3 g0
      obtain ⟨a1, e1, _, _⟩ := DataW.trod_int Try.underlying3 g1
      obtain ⟨a2, e2, _, _⟩ := DataW.trod_int Try.underlying3 g2
      obtain ⟨a3, e3, _, _⟩ := DataW.trod_int Try.underlying3 g3
      simp at e0 e1 e2 e3
      subst e0 e1 e2 e3
      exact ⟨⟨a0, a1, a2, a3⟩, rfl⟩

theorem hs_open {H : Type} {enc : TypeId × Value → H} {w : World} {base : Nat} {spare : Nat → Bool} {held : Bool} {fuel : Nat} {v : Value} {x : DataW H × List MemPlace}
    (hf : DataW.trod enc Try.prog w base spare held fuel 31 [v] = some x) :
    ∃ A n c h, v = .slice A n c ∧ Hs w A n h ∧ n ≤ c ∧ c ≤ maxLen := by
  rcases open_slice Try.underlying31 hf with ⟨hcs, _⟩ | ⟨a, l, c, m, n, D, Pl, hcs, hb, hl, hm, hme, _, hel⟩
  · injection hcs with hcs
    exact ⟨none, 0, 0, fun _ => ⟨0, 0, 0, 0⟩, hcs, fun h => absurd h (by omega), Nat.le_refl _, by simp [maxLen]⟩
  · injection hcs with hcs
    obtain ⟨b, off, spot⟩ := a
    have hlm : l ≤ m := by rw [hme]; split <;> omega
    have each : ∀ i, i < l → ∃ y : Ht, ∀ k, k < 4 → w.cell? (((⟨b, off, spot⟩ : Addr).add (i * 4)).add k) = ([.int .i64 y.I, .int .i64 y.J, .int .i64 y.R, .int .i64 y.D] : List Value)[k]? := by
      intro i hi
      obtain ⟨cs', h1, h2⟩ := hel i (by omega)
      obtain ⟨y, rfl⟩ := hit_open h2
      rw [cellsHit] at h1
      exact ⟨y, fun k hk => (World.cells?_some h1).2.2 k hk⟩
    obtain ⟨h, hh⟩ := choose_lt each
    refine ⟨some ⟨b, off, spot⟩, l, c, h, hcs, fun h0 => ?_, hl, hm⟩
    have hc := hh 0 h0 0 (by omega)
    have hspot : spot = none := by simpa [Addr.add] using World.cell?_spot hc
    subst hspot
    have e : ∀ i k, ((⟨b, off, none⟩ : Addr).add i).add k = ⟨b, off + i + k, none⟩ := fun i k => by unfold Addr.add; (repeat' split) <;> simp_all
    refine ⟨b, off, rfl, by simpa [Addr.add] using World.block_lt_of_cell? w _ hc, fun i hi => ?_⟩
    have q0 := hh i hi 0 (by omega)
    have q1 := hh i hi 1 (by omega)
    have q2 := hh i hi 2 (by omega)
    have q3 := hh i hi 3 (by omega)
    rw [e] at q0 q1 q2 q3
    exact ⟨q0, q1, q2, q3⟩

end Go.Proofs.Ytcneilhhpblclaa
