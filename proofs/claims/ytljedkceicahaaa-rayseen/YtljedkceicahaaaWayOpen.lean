/- A Way that came in, as the walks are told of it. -/
import Derived.Test.YtljedkceicahaaaBsOpen
namespace Go.Proofs.Ytljedkceicahaaa
open Go.ChangeShapes Go.WideShapes Go.ChangeAt Go.RowKit Go.Joins
set_option linter.unusedVariables false

theorem cellsWay : Try.prog.cellsOf 26 = 10 := by kernel_rfl
theorem cellsMap : Try.prog.cellsOf 24 = 4 := by kernel_rfl
theorem cellsInt : Try.prog.cellsOf 3 = 1 := by kernel_rfl
theorem cellsBytes : Try.prog.cellsOf 22 = 1 := by kernel_rfl
theorem way_open {H : Type} {enc : TypeId × Value → H} {w : World} {base : Nat} {spare : Nat → Bool} {held : Bool} {r : Reach} {b0 : Nat} {v : Value} {d : DataW H} {p : List MemPlace}
    (hv : Value.okWide Try.prog w r b0 26 v) (h : DataW.Trod enc Try.prog w base spare held 26 v d p) :
    ∃ W H0 T A n c f i j k l g o, v = .agg #[.int .i64 W, .int .i64 H0, .int .i64 T, .slice A n c, .int .i64 i, .int .i64 j, .int .i64 k, .int .i64 l, .int .i64 g, .int .i64 o] ∧ Bs w A n f ∧ (∀ i, f i < 256) ∧ n ≤ c ∧ c ≤ maxLen
      ∧ (Lit.int .i64 i).wf = true ∧ (Lit.int .i64 j).wf = true ∧ (Lit.int .i64 k).wf = true ∧ (Lit.int .i64 l).wf = true ∧ (Lit.int .i64 g).wf = true ∧ (Lit.int .i64 o).wf = true := by
  obtain ⟨cs, rfl, hsz⟩ := okWide_struct Try.underlying26 hv
  obtain ⟨l⟩ := cs
  match l, hsz.trans cellsWay with
  | [c0, c1, c2, c3, c4, c5, c6, c7, c8, c9], _ =>
    obtain ⟨fuel, hf⟩ := h
    obtain ⟨xs, n, _, hx, _, hlen, hg⟩ := DataW.trod_struct Try.underlying26 hf
    match xs, hlen with
    | [y0, y1, y2, y3, y4, y5, y6], _ =>
      have g0 := hg 0 _ rfl
      have g1 := hg 1 _ rfl
      have g2 := hg 2 _ rfl
      have g3 := hg 3 _ rfl
      have g4 := hg 4 _ rfl
      have g5 := hg 5 _ rfl
      have g6 := hg 6 _ rfl
      simp [Value.cells, cellsMap, cellsInt] at g0 g1 g2 g3 g4 g5 g6
      obtain ⟨a4, e4, _, w4⟩ := DataW.trod_int Try.underlying3 g1
      obtain ⟨a5, e5, _, w5⟩ := DataW.trod_int Try.underlying3 g2
      obtain ⟨a6, e6, _, w6⟩ := DataW.trod_int Try.underlying3 g3
      obtain ⟨a7, e7, _, w7⟩ := DataW.trod_int Try.underlying3 g4
      obtain ⟨a8, e8, _, w8⟩ := DataW.trod_int Try.underlying3 g5
      obtain ⟨a9, e9, _, w9⟩ := DataW.trod_int Try.underlying3 g6
      obtain ⟨zs, n2, _, _, _, hl2, hg2⟩ := DataW.trod_struct Try.underlying24 g0
      match zs, hl2 with
      | [z0, z1, z2, z3], _ =>
        have k0 := hg2 0 _ rfl
        have k1 := hg2 1 _ rfl
        have k2 := hg2 2 _ rfl
        have k3 := hg2 3 _ rfl
        simp [cellsInt, cellsBytes] at k0 k1 k2 k3
        obtain ⟨a0, e0, _, _⟩ := DataW.trod_int Try.underlying3 k0
        obtain ⟨a1, e1, _, _⟩ := DataW.trod_int Try.underlying3 k1
        obtain ⟨a2, e2, _, _⟩ := DataW.trod_int Try.underlying3 k2
        obtain ⟨A, m, c, f, e3, hb, hp, hl, hm⟩ := bs_open k3
        simp at e0 e1 e2 e4 e5 e6 e7 e8 e9
        subst e0 e1 e2 e3 e4 e5 e6 e7 e8 e9
        exact ⟨_, _, _, _, _, _, f, _, _, _, _, _, _, rfl, hb, hp, hl, hm, w4, w5, w6, w7, w8, w9⟩

end Go.Proofs.Ytljedkceicahaaa
