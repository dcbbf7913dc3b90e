/- What came in: a slice of bools, a Land, an Asked; what the rows' list of variables gives: the steps' cells. -/
import Derived.Test.YtcipedijjemghaaDoorRtA
import Derived.Test.YtcipedijjemghaaDoorBsOpen
import Derived.Deep.Slices
import Derived.Lib.LaidTab
import Derived.Stop.LaidErr
namespace Go.Proofs.YtcipedijjemghaaDoor
open Go.ChangeShapes Go.WideShapes Go.ChangeAt Go.RowKit Go.Joins Go.Deep
set_option linter.unusedVariables false

theorem cellsT13 : Tryd.prog.cellsOf 4 = 1 := by kernel_rfl
theorem cellsI13 : Tryd.prog.cellsOf 3 = 1 := by kernel_rfl
theorem cellsS13 : Tryd.prog.cellsOf 22 = 1 := by kernel_rfl
theorem cellsL13 : Tryd.prog.cellsOf 24 = 3 := by kernel_rfl
theorem cellsStep13 : Tryd.prog.cellsOf 79 = 3 := by kernel_rfl
theorem cellsSteps13 : Tryd.prog.cellsOf 80 = 24 := by kernel_rfl
theorem bools_open {H : Type} {enc : TypeId × Value → H} {w : World} {base : Nat} {spare : Nat → Bool} {held : Bool} {fuel : Nat} {v : Value} {x : DataW H × List MemPlace}
    (hf : DataW.trod enc Tryd.prog w base spare held fuel 22 [v] = some x) :
    ∃ A n c O, v = .slice A n c ∧ Bo w A n O ∧ n ≤ c ∧ c ≤ maxLen := by
  rcases open_slice1 Tryd.underlying22 cellsT13 hf with ⟨hcs, _⟩ | ⟨a, l, c, m, n, V, D, Pl, hcs, hb, hl, hm, hme, _, hel⟩
  · injection hcs with hcs
    exact ⟨none, 0, 0, fun _ => false, hcs, fun h => absurd h (by omega), Nat.le_refl _, by simp [maxLen]⟩
  · injection hcs with hcs
    obtain ⟨b, off, spot⟩ := a
    have hlm : l ≤ m := by rw [hme]; split <;> omega
    have each : ∀ i, i < l → ∃ y : Bool, w.cell? ((⟨b, off, spot⟩ : Addr).add i) = some (.bool y) := by
      intro i hi
      obtain ⟨h1, h2⟩ := hel i (by omega)
      obtain ⟨y, e, _⟩ := DataW.trod_bool Tryd.underlying4 h2
      injection e with e
      exact ⟨y, by rw [h1, e]⟩
    obtain ⟨h, hh⟩ := choose_lt each
    refine ⟨some ⟨b, off, spot⟩, l, c, h, hcs, fun h0 => ?_, hl, hm⟩
    have hc := hh 0 h0
    have hspot : spot = none := by simpa [Addr.add] using World.cell?_spot hc
    subst hspot
    refine ⟨b, off, rfl, by simpa [Addr.add] using World.block_lt_of_cell? w _ hc, fun i hi => ?_⟩
    have e : (⟨b, off, none⟩ : Addr).add i = ⟨b, off + i, none⟩ := by unfold Addr.add; split <;> simp_all
    have := hh i hi
    rwa [e] at this
theorem land_cells {H : Type} {enc : TypeId × Value → H} {w : World} {base : Nat} {spare : Nat → Bool} {held : Bool} {fuel : Nat} {c0 c1 c2 : Value} {x : DataW H × List MemPlace}
    (hf : DataW.trod enc Tryd.prog w base spare held fuel 24 [c0, c1, c2] = some x) : ∃ W0 H0 A n c O, c0 = .int .i64 W0 ∧ c1 = .int .i64 H0 ∧ c2 = .slice A n c ∧ Bo w A n O ∧ n ≤ c ∧ c ≤ maxLen := by
  obtain ⟨zs, n2, _, _, _, hl2, hg2⟩ := DataW.trod_struct Tryd.underlying24 hf
  match zs, hl2 with
  | [z0, z1, z2], _ =>
    have k0 := hg2 0 _ rfl
    have k1 := hg2 1 _ rfl
    have k2 := hg2 2 _ rfl
    simp [cellsI13, cellsS13] at k0 k1 k2
    obtain ⟨a0, e0, _, _⟩ := DataW.trod_int Tryd.underlying3 k0
    obtain ⟨a1, e1, _, _⟩ := DataW.trod_int Tryd.underlying3 k1
    obtain ⟨A, m, c, O, e2, hb, hl, hm⟩ := bools_open k2
    simp at e0 e1
    exact ⟨a0, a1, A, m, c, O, e0, e1, e2, hb, hl, hm⟩
theorem land_open13 {H : Type} {enc : TypeId × Value → H} {w : World} {base : Nat} {spare : Nat → Bool} {held : Bool} {r : Reach} {b0 : Nat} {v : Value} {d : DataW H} {p : List MemPlace}
    (hv : Value.okWide Tryd.prog w r b0 24 v) (h : DataW.Trod enc Tryd.prog w base spare held 24 v d p) :
    ∃ W H0 A n c O, v = .agg #[.int .i64 W, .int .i64 H0, .slice A n c] ∧ Bo w A n O ∧ n ≤ c ∧ c ≤ maxLen := by
  obtain ⟨cs, rfl, hsz⟩ := okWide_struct Tryd.underlying24 hv
  obtain ⟨l⟩ := cs
  match l, hsz.trans cellsL13 with
  | [c0, c1, c2], _ =>
    obtain ⟨fuel, hf⟩ := h
    obtain ⟨W0, H0, A, n, c, O, e0, e1, e2, hb, hl, hm⟩ := land_cells (by simpa [Value.cells] using hf)
    subst e0 e1 e2
    exact ⟨_, _, _, _, _, O, rfl, hb, hl, hm⟩

theorem cellsA13 : Tryd.prog.cellsOf 35 = 7 := by kernel_rfl
theorem asked_open {H : Type} {enc : TypeId × Value → H} {w : World} {base : Nat} {spare : Nat → Bool} {held : Bool} {r : Reach} {b0 : Nat} {v : Value} {d : DataW H} {p : List MemPlace}
    (hv : Value.okWide Tryd.prog w r b0 35 v) (h : DataW.Trod enc Tryd.prog w base spare held 35 v d p) :
    ∃ W H0 A n c O f t m b, v = .agg #[.int .i64 W, .int .i64 H0, .slice A n c, .int .i64 f, .int .i64 t, .int .i64 m, .int .i64 b] ∧ Bo w A n O ∧ n ≤ c ∧ c ≤ maxLen := by
  obtain ⟨cs, rfl, hsz⟩ := okWide_struct Tryd.underlying35 hv
  obtain ⟨l⟩ := cs
  match l, hsz.trans cellsA13 with
  | [c0, c1, c2, c3, c4, c5, c6], _ =>
    obtain ⟨fuel, hf⟩ := h
    obtain ⟨xs, n, _, hx, _, hlen, hg⟩ := DataW.trod_struct Tryd.underlying35 hf
    match xs, hlen with
    | [y0, y1, y2, y3, y4], _ =>
      have g0 := hg 0 _ rfl
      have g1 := hg 1 _ rfl
      have g2 := hg 2 _ rfl
      have g3 := hg 3 _ rfl
      have g4 := hg 4 _ rfl
      simp [Value.cells, cellsL13, cellsI13] at g0 g1 g2 g3 g4
      obtain ⟨a3, e3, _, _⟩ := DataW.trod_int Tryd.underlying3 g1
      obtain ⟨a4, e4, _, _⟩ := DataW.trod_int Tryd.underlying3 g2
      obtain ⟨a5, e5, _, _⟩ := DataW.trod_int Tryd.underlying3 g3
      obtain ⟨a6, e6, _, _⟩ := DataW.trod_int Tryd.underlying3 g4
      obtain ⟨W0, H0, A, n, c, O, e0, e1, e2, hb, hl, hm⟩ := land_cells g0
      simp at e3 e4 e5 e6
      subst e0 e1 e2 e3 e4 e5 e6
      exact ⟨_, _, _, _, _, O, _, _, _, _, rfl, hb, hl, hm⟩

/-! ### The steps -/
def stL : List (List Int) := [[1, 0, 2], [1, 1, 3], [0, 1, 2], [-1, 1, 3], [-1, 0, 2], [-1, -1, 3], [0, -1, 2], [1, -1, 3]]
theorem stA_at (i j : Nat) (hi : i < 8) (hj : j < 3) : stA[i * 3 + j]? = some (.int .i64 ((stL.getD i []).getD j 0)) := by
  have h1 : i = 0 ∨ i = 1 ∨ i = 2 ∨ i = 3 ∨ i = 4 ∨ i = 5 ∨ i = 6 ∨ i = 7 := by omega
  have h2 : j = 0 ∨ j = 1 ∨ j = 2 := by omega
  rcases h1 with rfl | rfl | rfl | rfl | rfl | rfl | rfl | rfl <;> rcases h2 with rfl | rfl | rfl <;> rfl
theorem gS13 : Tryd.prog.globalNamed "bivouac/route.steps" = some 0 := by kernel_rfl
theorem gST13 : (Tryd.prog.globals[0]?).map (·.type) = some 80 := by kernel_rfl
theorem laid_is {H : Type} : (Rows.laid_bivouac_route_steps : DataW H) = .agg (stL.map fun l => .agg (l.map fun z => .lit (.int .i64 z))) := rfl
theorem at_take1 {cs : List Value} {k : Nat} {v : Value} (h : (cs.drop k).take 1 = [v]) : cs[k]? = some v := by
  have := congrArg (·[0]?) h
  simpa [List.getElem?_take, List.getElem?_drop] using this
theorem steps_cells {H : Type} {enc : TypeId × Value → H} {w : World} {base : Nat} {sp : Nat → Bool} {held : Bool} {fuel : Nat} {cs : List Value} {p : List MemPlace}
    (h : DataW.trod enc Tryd.prog w base sp held fuel 80 cs = some (Rows.laid_bivouac_route_steps, p)) : ∀ i j, i < 8 → j < 3 → cs[i * 3 + j]? = some (.int .i64 ((stL.getD i []).getD j 0)) := by
  obtain ⟨xs, n, _, hx, hlen, hxl, hg⟩ := DataW.trod_array Tryd.underlying80 h
  rw [cellsStep13] at hg
  rw [laid_is] at hx
  have hx1 : xs.map (·.1) = stL.map fun l => (.agg (l.map fun z => .lit (.int .i64 z)) : DataW H) := by
    have := congrArg Prod.fst hx
    simp only [DataW.agg.injEq] at this
    exact this.symm
  intro i j hi hj
  have hs := hg i hi
  have hi8 : i < xs.length := by omega
  rw [List.getElem?_eq_getElem hi8] at hs
  have hxi : (xs[i]).1 = .agg ((stL.getD i []).map fun z => .lit (.int .i64 z)) := by
    have h2 := congrArg (·[i]?) hx1
    simp only [List.getElem?_map, List.getElem?_eq_getElem hi8, Option.map_some] at h2
    have h3 : stL[i]? = some (stL.getD i []) := by
      have : i < stL.length := hi
      simp [List.getD, this]
    rw [h3] at h2
    simpa using h2
  obtain ⟨ys, m, _, hy, _, hyl, hgy⟩ := DataW.trod_struct Tryd.underlying79 hs
  rw [hy] at hxi
  simp only [DataW.agg.injEq] at hxi
  match ys, hyl with
  | [y0, y1, y2], _ =>
    have k0 : DataW.trod enc Tryd.prog w base sp held m 3 ((((cs.drop (i * 3)).take 3).drop 0).take (Tryd.prog.cellsOf 3)) = some y0 := hgy 0 _ rfl
    have k1 : DataW.trod enc Tryd.prog w base sp held m 3 ((((cs.drop (i * 3)).take 3).drop 1).take (Tryd.prog.cellsOf 3)) = some y1 := hgy 1 _ rfl
    have k2 : DataW.trod enc Tryd.prog w base sp held m 3 ((((cs.drop (i * 3)).take 3).drop 2).take (Tryd.prog.cellsOf 3)) = some y2 := hgy 2 _ rfl
    rw [cellsI13] at k0 k1 k2
    obtain ⟨a0, e0, f0, _⟩ := DataW.trod_int Tryd.underlying3 k0
    obtain ⟨a1, e1, f1, _⟩ := DataW.trod_int Tryd.underlying3 k1
    obtain ⟨a2, e2, f2, _⟩ := DataW.trod_int Tryd.underlying3 k2
    subst f0 f1 f2
    have ee : ∀ q z, q < 3 → ((((cs.drop (i * 3)).take 3).drop q).take 1 = [Value.int .i64 z]) → cs[i * 3 + q]? = some (.int .i64 z) := by
      intro q z hq h
      have := at_take1 h
      rwa [List.getElem?_take_of_lt hq, List.getElem?_drop] at this
    generalize stL.getD i [] = L at *
    match L, hxi with
    | [b0, b1, b2], hxi =>
      simp at hxi
      obtain ⟨rfl, rfl, rfl⟩ := hxi
      have : j = 0 ∨ j = 1 ∨ j = 2 := by omega
      rcases this with rfl | rfl | rfl
      · exact ee 0 _ (by omega) e0
      · exact ee 1 _ (by omega) e1
      · exact ee 2 _ (by omega) e2
theorem tab_of13 {W : World} (h : laidMet Tryd.prog [("bivouac/route.steps", Rows.laid_bivouac_route_steps)] W) : Tst W := by
  obtain ⟨ps, ⟨g', t', cs, fuel, p, q, hg', ht', hvar, hd, _, _⟩, _⟩ := h
  obtain rfl := Option.some.inj (gS13.symm.trans hg')
  obtain rfl := Option.some.inj (gST13.symm.trans ht')
  have hc := steps_cells hd
  intro i hi
  have h1 := World.var?_cell gS13 hvar i
  rw [h1]
  have h2 := hc (i / 3) (i % 3) (by omega) (by omega)
  have h3 := stA_at (i / 3) (i % 3) (by omega) (by omega)
  rw [show i / 3 * 3 + i % 3 = i by omega] at h2 h3
  rw [h3, ← h2]
  simp
/-- A block that holds the steps. -/
def layStep : Obj → Obj
  | .cells _ t frozen => .cells stA t frozen
  | o => o
/-- A world for the witness. -/
noncomputable def laidWorld (os : Os) : World :=
  { World.holding Tryd.prog os ⟨#[], #[], []⟩ with heap := (World.holding Tryd.prog os ⟨#[], #[], []⟩).heap.modify 0 layStep }
end Go.Proofs.YtcipedijjemghaaDoor
