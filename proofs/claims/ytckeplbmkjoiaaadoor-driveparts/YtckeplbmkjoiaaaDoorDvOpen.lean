/- Stage 14: what came in: a Going. -/
import Derived.Test.YtckeplbmkjoiaaaDoorDv0
import Derived.ProofKit
import Derived.OpenShut
import Derived.Lib.SmallJoins
import Derived.Deep.Slices
namespace Go.Proofs.YtckeplbmkjoiaaaDoor
open Go.ChangeShapes Go.WideShapes Go.ChangeAt Go.RowKit Go.Joins Go.Deep
set_option linter.unusedVariables false

theorem cells14I : Tryd.prog.cellsOf 2 = 1 := by kernel_rfl
theorem cells14N : Tryd.prog.cellsOf 3 = 1 := by kernel_rfl
theorem cells14M : Tryd.prog.cellsOf 26 = 3 := by kernel_rfl
theorem cells14E : Tryd.prog.cellsOf 28 = 4 := by kernel_rfl
theorem cells14G : Tryd.prog.cellsOf 30 = 10 := by kernel_rfl
theorem mover_cells {H : Type} {enc : TypeId × Value → H} {w : World} {base : Nat} {spare : Nat → Bool} {held : Bool} {fuel : Nat} {c0 c1 c2 : Value} {x : DataW H × List MemPlace}
    (hf : DataW.trod enc Tryd.prog w base spare held fuel 26 [c0, c1, c2] = some x) : ∃ X Y A, c0 = .int .i64 X ∧ c1 = .int .i64 Y ∧ c2 = .int .i64 A := by
  obtain ⟨zs, n2, _, _, _, hl2, hg2⟩ := DataW.trod_struct Tryd.underlying26 hf
  match zs, hl2 with
  | [z0, z1, z2], _ =>
    have k0 := hg2 0 _ rfl
    have k1 := hg2 1 _ rfl
    have k2 := hg2 2 _ rfl
    simp [cells14I] at k0 k1 k2
    obtain ⟨a0, e0, _, _⟩ := DataW.trod_int Tryd.underlying2 k0
    obtain ⟨a1, e1, _, _⟩ := DataW.trod_int Tryd.underlying2 k1
    obtain ⟨a2, e2, _, _⟩ := DataW.trod_int Tryd.underlying2 k2
    simp at e0 e1 e2
    exact ⟨a0, a1, a2, e0, e1, e2⟩
theorem engine_cells {H : Type} {enc : TypeId × Value → H} {w : World} {base : Nat} {spare : Nat → Bool} {held : Bool} {fuel : Nat} {c0 c1 c2 c3 : Value} {x : DataW H × List MemPlace}
    (hf : DataW.trod enc Tryd.prog w base spare held fuel 28 [c0, c1, c2, c3] = some x) : ∃ S T W0 H0, c0 = .int .i64 S ∧ c1 = .int .i64 T ∧ c2 = .int .i64 W0 ∧ c3 = .int .i64 H0 := by
  obtain ⟨zs, n2, _, _, _, hl2, hg2⟩ := DataW.trod_struct Tryd.underlying28 hf
  match zs, hl2 with
  | [z0, z1, z2, z3], _ =>
    have k0 := hg2 0 _ rfl
    have k1 := hg2 1 _ rfl
    have k2 := hg2 2 _ rfl
    have k3 := hg2 3 _ rfl
    simp [cells14I, cells14N] at k0 k1 k2 k3
    obtain ⟨a0, e0, _, _⟩ := DataW.trod_int Tryd.underlying2 k0
    obtain ⟨a1, e1, _, _⟩ := DataW.trod_int Tryd.underlying2 k1
    obtain ⟨a2, e2, _, _⟩ := DataW.trod_int Tryd.underlying3 k2
    obtain ⟨a3, e3, _, _⟩ := DataW.trod_int Tryd.underlying3 k3
    simp at e0 e1 e2 e3
    exact ⟨a0, a1, a2, a3, e0, e1, e2, e3⟩
/-- A Going's cells. -/
def goA (m : Mv) (E : Eg) (x y n : Int) : Array Value := #[.int .i64 m.x, .int .i64 m.y, .int .i64 m.a, .int .i64 E.s, .int .i64 E.t, .int .i64 E.w, .int .i64 E.h, .int .i64 x, .int .i64 y, .int .i64 n]
theorem going_open {H : Type} {enc : TypeId × Value → H} {w : World} {base : Nat} {spare : Nat → Bool} {held : Bool} {r : Reach} {b0 : Nat} {v : Value} {d : DataW H} {p : List MemPlace}
    (hv : Value.okWide Tryd.prog w r b0 30 v) (h : DataW.Trod enc Tryd.prog w base spare held 30 v d p) :
    ∃ m E x y n, v = .agg (goA m E x y n) := by
  obtain ⟨cs, rfl, hsz⟩ := okWide_struct Tryd.underlying30 hv
  obtain ⟨l⟩ := cs
  match l, hsz.trans cells14G with
  | [c0, c1, c2, c3, c4, c5, c6, c7, c8, c9], _ =>
    obtain ⟨fuel, hf⟩ := h
    obtain ⟨xs, n, _, hx, _, hlen, hg⟩ := DataW.trod_struct Tryd.underlying30 hf
    match xs, hlen with
    | [y0, y1, y2, y3, y4], _ =>
      have g0 := hg 0 _ rfl
      have g1 := hg 1 _ rfl
      have g2 := hg 2 _ rfl
      have g3 := hg 3 _ rfl
      have g4 := hg 4 _ rfl
      simp [Value.cells, cells14M, cells14E, cells14I, cells14N] at g0 g1 g2 g3 g4
      obtain ⟨X, Y, A, e0, e1, e2⟩ := mover_cells g0
      obtain ⟨S, T, W0, H0, e3, e4, e5, e6⟩ := engine_cells g1
      obtain ⟨a7, e7, _, _⟩ := DataW.trod_int Tryd.underlying2 g2
      obtain ⟨a8, e8, _, _⟩ := DataW.trod_int Tryd.underlying2 g3
      obtain ⟨a9, e9, _, _⟩ := DataW.trod_int Tryd.underlying3 g4
      simp at e7 e8 e9
      subst e0 e1 e2 e3 e4 e5 e6 e7 e8 e9
      exact ⟨⟨X, Y, A⟩, ⟨S, T, W0, H0⟩, a7, a8, a9, rfl⟩
end Go.Proofs.YtckeplbmkjoiaaaDoor
