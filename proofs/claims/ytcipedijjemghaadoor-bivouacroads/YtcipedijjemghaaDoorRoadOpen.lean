/- A Road that came in, as the walks are told of it. -/
import Derived.Test.YtcipedijjemghaaDoorBsOpen
import Derived.Test.YtcipedijjemghaaDoorRtOpen
namespace Go.Proofs.YtcipedijjemghaaDoor
open Go.ChangeShapes Go.WideShapes Go.ChangeAt Go.RowKit Go.Joins
set_option linter.unusedVariables false

theorem cellsRoad : Tryd.prog.cellsOf 47 = 7 := by kernel_rfl
theorem cellsMap : Tryd.prog.cellsOf 45 = 4 := by kernel_rfl
theorem cellsInt : Tryd.prog.cellsOf 3 = 1 := by kernel_rfl
theorem cellsBytes : Tryd.prog.cellsOf 43 = 1 := by kernel_rfl
theorem road_open {H : Type} {enc : TypeId × Value → H} {w : World} {base : Nat} {spare : Nat → Bool} {held : Bool} {r : Reach} {b0 : Nat} {v : Value} {d : DataW H} {p : List MemPlace}
    (hv : Value.okWide Tryd.prog w r b0 47 v) (h : DataW.Trod enc Tryd.prog w base spare held 47 v d p) :
    ∃ W H0 T A n c f cl i j, v = .agg #[.int .i64 W, .int .i64 H0, .int .i64 T, .slice A n c, .int .i64 cl, .int .i64 i, .int .i64 j] ∧ Bs w A n f ∧ (∀ i, f i < 256) ∧ n ≤ c ∧ c ≤ maxLen := by
  obtain ⟨cs, rfl, hsz⟩ := okWide_struct Tryd.underlying47 hv
  obtain ⟨l⟩ := cs
  match l, hsz.trans cellsRoad with
  | [c0, c1, c2, c3, c4, c5, c6], _ =>
    obtain ⟨fuel, hf⟩ := h
    obtain ⟨xs, n, _, hx, _, hlen, hg⟩ := DataW.trod_struct Tryd.underlying47 hf
    match xs, hlen with
    | [y0, y1, y2, y3], _ =>
      have g0 := hg 0 _ rfl
      have g1 := hg 1 _ rfl
      have g2 := hg 2 _ rfl
      have g3 := hg 3 _ rfl
      simp [Value.cells, cellsMap, cellsInt] at g0 g1 g2 g3
      obtain ⟨a4, e4, _, _⟩ := DataW.trod_int Tryd.underlying3 g1
      obtain ⟨a5, e5, _, _⟩ := DataW.trod_int Tryd.underlying3 g2
      obtain ⟨a6, e6, _, _⟩ := DataW.trod_int Tryd.underlying3 g3
      obtain ⟨zs, n2, _, _, _, hl2, hg2⟩ := DataW.trod_struct Tryd.underlying45 g0
      match zs, hl2 with
      | [z0, z1, z2, z3], _ =>
        have k0 := hg2 0 _ rfl
        have k1 := hg2 1 _ rfl
        have k2 := hg2 2 _ rfl
        have k3 := hg2 3 _ rfl
        simp [cellsInt, cellsBytes] at k0 k1 k2 k3
        obtain ⟨a0, e0, _, _⟩ := DataW.trod_int Tryd.underlying3 k0
        obtain ⟨a1, e1, _, _⟩ := DataW.trod_int Tryd.underlying3 k1
        obtain ⟨a2, e2, _, _⟩ := DataW.trod_int Tryd.underlying3 k2
        obtain ⟨A, m, c, f, e3, hb, hp, hl, hm⟩ := bs_open k3
        simp at e0 e1 e2 e4 e5 e6
        subst e0 e1 e2 e3 e4 e5 e6
        exact ⟨_, _, _, _, _, _, f, _, _, _, rfl, hb, hp, hl, hm⟩

end Go.Proofs.YtcipedijjemghaaDoor
