/- Contracts of package ground, fourth part: the iterator over a cell's neighbours. -/
import Derived.Test.YtcneilhhpblclaaGr4
namespace Go.Proofs.Ytcneilhhpblclaa
open Go.RowKit Go.Shelf
set_option linter.unusedVariables false
attribute [local go_sem] Oper.semAt_some

/-- A neighbour of x. -/
abbrev Nb (wd N x : Nat) := { m : Nat // Adj wd N x m }
/-- What the body of a loop over neighbours keeps: the iterator's boxes. -/
def Kp (lo : Nat) (W W' : World) : Prop := ∀ b u, lo ≤ b → b < lo + 5 → Boxed W b 3 u → Boxed W' b 3 u
theorem Kp.trans {lo : Nat} {A B C : World} (h : Kp lo A B) (k : Kp lo B C) : Kp lo A C := fun b u h1 h2 h3 => k b u h1 h2 (h b u h1 h2 h3)
theorem Nbx.kp {W W' : World} {lo bi bj wd ht x : Nat} (h : Nbx W lo bi bj wd ht x) (k : Kp lo W W') : Nbx W' lo bi bj wd ht x :=
  ⟨h.i0, h.i1, h.j0, h.j1, k _ _ (Nat.le_refl _) (by omega) h.hw, k _ _ (by omega) (by omega) h.hh, k _ _ (by omega) (by omega) h.hx, k _ _ h.i0 h.i1 h.hi, k _ _ h.j0 h.j1 h.hj, fun b b0 b1 => by obtain ⟨u, hu⟩ := h.all b b0 b1; exact ⟨u, k b u b0 b1 hu⟩⟩
/-- What the walk reads of the boxes. -/
theorem Nbx.read {W : World} {lo bi bj wd ht x qi qj : Nat} (h : Nbx W lo bi bj wd ht x) (ei : x % wd = qi) (ej : x / wd = qj) :
    W.cell? ⟨lo, 0, none⟩ = some (.int .i64 (wd : Int)) ∧ W.cell? ⟨lo + 1, 0, none⟩ = some (.int .i64 (ht : Int)) ∧ W.cell? ⟨lo + 2, 0, none⟩ = some (.int .i64 (x : Int)) ∧
      W.cell? ⟨bi, 0, none⟩ = some (.int .i64 (qi : Int)) ∧ W.cell? ⟨bj, 0, none⟩ = some (.int .i64 (qj : Int)) := by
  subst ei ej
  exact ⟨h.hw.cell, h.hh.cell, h.hx.cell, h.hi.cell, h.hj.cell⟩

end Go.Proofs.Ytcneilhhpblclaa
