/- A Crowd that came in. -/
import Derived.Test.YtoibbnkpfplmbaaCw1
import Derived.Deep.Slices
import Derived.ProofKit
import Derived.OpenShut
import Derived.Lib.SmallJoins
namespace Go.Proofs.Ytoibbnkpfplmbaa
open Go.ChangeShapes Go.WideShapes Go.ChangeAt Go.RowKit Go.Joins Go.Deep
set_option linter.unusedVariables false

theorem cellsB15 : Try.prog.cellsOf 4 = 1 := by kernel_rfl
theorem cellsI15 : Try.prog.cellsOf 3 = 1 := by kernel_rfl
theorem cellsSB15 : Try.prog.cellsOf 22 = 1 := by kernel_rfl
theorem cellsSI15 : Try.prog.cellsOf 23 = 1 := by kernel_rfl
theorem cellsC15 : Try.prog.cellsOf 25 = 4 := by kernel_rfl
theorem bools_open15 {H : Type} {enc : TypeId × Value → H} {w : World} {base : Nat} {spare : Nat → Bool} {held : Bool} {fuel : Nat} {v : Value} {x : DataW H × List MemPlace}
    (hf : DataW.trod enc Try.prog w base spare held fuel 22 [v] = some x) :
    ∃ A n c O, v = .slice A n c ∧ Bo w A n O ∧ n ≤ c ∧ c ≤ maxLen := by
  rcases open_slice1 Try.underlying22 cellsB15 hf with ⟨hcs, _⟩ | ⟨a, l, c, m, n, V, D, Pl, hcs, hb, hl, hm, hme, _, hel⟩
  · injection hcs with hcs
    exact ⟨none, 0, 0, fun _ => false, hcs, fun h => absurd h (by omega), Nat.le_refl _, by simp [maxLen]⟩
  · injection hcs with hcs
    obtain ⟨b, off, spot⟩ := a
    have hlm : l ≤ m := by rw [hme]; split <;> omega
    have each : ∀ i, i < l → ∃ y : Bool, w.cell? ((⟨b, off, spot⟩ : Addr).add i) = some (.bool y) := by
      intro i hi
      obtain ⟨h1, h2⟩ := hel i (by omega)
      obtain ⟨y, e, _⟩ := DataW.trod_bool Try.underlying4 h2
      injection e with e
      exact ⟨y, by rw [h1, e]⟩
    obtain ⟨h, hh⟩ := choose_lt each
    refine ⟨some ⟨b, off, spot⟩, l, c, h, hcs, fun h0 => ?_, hl, hm⟩
    have hc := hh 0 h0
    have hspot : spot = none := by simpa [Addr.add] using World.cell?_spot hc
    subst hspot
    refine ⟨b, off, rfl, by simpa [Addr.add] using World.block_lt_of_cell? w _ hc, fun i hi => ?_⟩
    have e : (⟨b, off, none⟩ : Addr).add i = ⟨b, off + i, none⟩ := by unfold Addr.add; split <;> simp_all
    have := hh i hi
    rwa [e] at this
theorem ints_open15 {H : Type} {enc : TypeId × Value → H} {w : World} {base : Nat} {spare : Nat → Bool} {held : Bool} {fuel : Nat} {v : Value} {x : DataW H × List MemPlace}
    (hf : DataW.trod enc Try.prog w base spare held fuel 23 [v] = some x) :
    ∃ A n c p, v = .slice A n c ∧ Is w A n p ∧ n ≤ c ∧ c ≤ maxLen ∧ (A = none → c = 0) := by
  rcases open_slice1 Try.underlying23 cellsI15 hf with ⟨hcs, _⟩ | ⟨a, l, c, m, n, V, D, Pl, hcs, hb, hl, hm, hme, _, hel⟩
  · injection hcs with hcs
    exact ⟨none, 0, 0, fun _ => 0, hcs, fun h => absurd h (by omega), Nat.le_refl _, by simp [maxLen], fun _ => rfl⟩
  · injection hcs with hcs
    obtain ⟨b, off, spot⟩ := a
    have hlm : l ≤ m := by rw [hme]; split <;> omega
    have each : ∀ i, i < l → ∃ y : Int, w.cell? ((⟨b, off, spot⟩ : Addr).add i) = some (.int .i64 y) := by
      intro i hi
      obtain ⟨h1, h2⟩ := hel i (by omega)
      obtain ⟨y, e, _, _⟩ := DataW.trod_int Try.underlying3 h2
      injection e with e
      exact ⟨y, by rw [h1, e]⟩
    obtain ⟨h, hh⟩ := choose_lt each
    refine ⟨some ⟨b, off, spot⟩, l, c, h, hcs, fun h0 => ?_, hl, hm, fun e => by cases e⟩
    have hc := hh 0 h0
    have hspot : spot = none := by simpa [Addr.add] using World.cell?_spot hc
    subst hspot
    refine ⟨b, off, rfl, by simpa [Addr.add] using World.block_lt_of_cell? w _ hc, fun i hi => ?_⟩
    have e : (⟨b, off, none⟩ : Addr).add i = ⟨b, off + i, none⟩ := by unfold Addr.add; split <;> simp_all
    have := hh i hi
    rwa [e] at this
/-- A crowd as it lies. -/
structure Cin (w : World) (no oc n wc m ic : Nat) (oA wA iA : Option Addr) (O : Nat → Bool) (P Wi : Nat → Int) : Prop where
  o : Bo w oA no O
  p : Is w wA n P
  i : Is w iA m Wi
  ol : no ≤ oc
  om : oc ≤ maxLen
  pl : n ≤ wc
  pm : wc ≤ maxLen
  pn : wA = none → wc = 0
  il : m ≤ ic
  im : ic ≤ maxLen
theorem crowd_open {H : Type} {enc : TypeId × Value → H} {w : World} {base : Nat} {spare : Nat → Bool} {held : Bool} {r : Reach} {b0 : Nat} {v : Value} {d : DataW H} {p : List MemPlace}
    (hv : Value.okWide Try.prog w r b0 25 v) (h : DataW.Trod enc Try.prog w base spare held 25 v d p) :
    ∃ cells no oc n wc m ic oA wA iA O P Wi, v = .agg #[.int .i64 cells, .slice oA no oc, .slice wA n wc, .slice iA m ic] ∧ Cin w no oc n wc m ic oA wA iA O P Wi := by
  obtain ⟨cs, rfl, hsz⟩ := okWide_struct Try.underlying25 hv
  obtain ⟨l⟩ := cs
  match l, hsz.trans cellsC15 with
  | [c0, c1, c2, c3], _ =>
    obtain ⟨fuel, hf⟩ := h
    obtain ⟨xs, n, _, hx, _, hlen, hg⟩ := DataW.trod_struct Try.underlying25 hf
    match xs, hlen with
    | [y0, y1, y2, y3], _ =>
      have g0 := hg 0 _ rfl
      have g1 := hg 1 _ rfl
      have g2 := hg 2 _ rfl
      have g3 := hg 3 _ rfl
      simp [Value.cells, cellsI15, cellsSB15, cellsSI15] at g0 g1 g2 g3
      obtain ⟨a0, e0, _, _⟩ := DataW.trod_int Try.underlying3 g0
      obtain ⟨oA, no, oc, O, e1, hb, hl, hm⟩ := bools_open15 g1
      obtain ⟨wA, n2, wc, P, e2, hb2, hl2, hm2, hn2⟩ := ints_open15 g2
      obtain ⟨iA, m2, ic, Wi, e3, hb3, hl3, hm3, _⟩ := ints_open15 g3
      simp at e0
      subst e0 e1 e2 e3
      exact ⟨a0, no, oc, n2, wc, m2, ic, oA, wA, iA, O, P, Wi, rfl, hb, hb2, hb3, hl, hm, hl2, hm2, hn2, hl3, hm3⟩
end Go.Proofs.Ytoibbnkpfplmbaa
