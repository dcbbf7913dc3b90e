/- The iterator of within: its first region. -/
import Derived.Test.YtkghjaodnkjmoaaNr6
namespace Go.Proofs.Ytkghjaodnkjmoaa
open Go.RowKit Go.Shelf
set_option linter.unusedVariables false
attribute [local go_sem] Oper.semAt_some

noncomputable def near0 : Code := ((Try.f37.body.bind (findRegion 0)).getD .skip)
set_option maxRecDepth 100000 in
set_option maxHeartbeats 8000000 in
theorem region0 (Q0 : Exit → Act → World → Prop) (HQ : ∀ c t t' ds w, Q0 (.panic c) ⟨t, ds⟩ w → Q0 (.panic c) ⟨t', ds⟩ w) (l gx gr gy gn : Nat) (x y r : Int) (W : World)
    (b0 : W.cell? ⟨gx, 0, none⟩ = some (.int .i64 x)) (b1 : W.cell? ⟨gr, 0, none⟩ = some (.int .i64 r)) (b2 : W.cell? ⟨gy, 0, none⟩ = some (.int .i64 y)) (hx : 0 ≤ x ∧ x ≤ 67108864) (hy : 0 ≤ y ∧ y ≤ 67108864) (hr : 0 ≤ r ∧ r ≤ 134217728)
    (hF : ∀ (g6 g7 : Nat) (u12 u13 u14 u15 u16 u17 u18 u19 u20 u21 u22 u23 u24 u25 : Value) (w' : World), w'.cell? ⟨g6, 0, none⟩ = some (.int .i64 (sqv (x - r))) → w'.cell? ⟨g6, 1, none⟩ = some (.int .i64 (sqv (y - r))) → w'.cell? ⟨g7, 0, none⟩ = some (.int .i64 (sqv (x + r))) → w'.cell? ⟨g7, 1, none⟩ = some (.int .i64 (sqv (y + r))) →
      W.heap.size ≤ g6 → W.heap.size ≤ g7 → Below W.heap.size W w' → Q0 .normal ⟨#[.func (.yield l) #[] #[], .pointer (some ⟨gx, 0, none⟩), .pointer (some ⟨gr, 0, none⟩), .pointer (some ⟨gy, 0, none⟩), .pointer (some ⟨gn, 0, none⟩), undef, .pointer (some ⟨g6, 0, none⟩), .pointer (some ⟨g7, 0, none⟩), undef, undef, undef, undef, u12, u13, u14, u15, u16, u17, u18, u19, u20, u21, u22, u23, u24, u25, undef, undef, undef, undef, undef, undef, undef, undef, undef, undef, undef, undef, undef, undef, undef, undef, undef, undef, undef, undef, undef, undef, undef, undef, undef, undef, undef, undef, undef, undef, undef, undef, undef, undef, undef, undef, undef, undef, undef, undef, undef, undef, undef, undef], []⟩ w') :
    Code.wp Try.prog near0 Q0 ⟨#[.func (.yield l) #[] #[], .pointer (some ⟨gx, 0, none⟩), .pointer (some ⟨gr, 0, none⟩), .pointer (some ⟨gy, 0, none⟩), .pointer (some ⟨gn, 0, none⟩), undef, undef, undef, undef, undef, undef, undef, undef, undef, undef, undef, undef, undef, undef, undef, undef, undef, undef, undef, undef, undef, undef, undef, undef, undef, undef, undef, undef, undef, undef, undef, undef, undef, undef, undef, undef, undef, undef, undef, undef, undef, undef, undef, undef, undef, undef, undef, undef, undef, undef, undef, undef, undef, undef, undef, undef, undef, undef, undef, undef, undef, undef, undef, undef, undef], []⟩ W := by
  conv => arg 2; whnf
  have HF := Lib.hid hF
  have HQ1 := Lib.hid HQ
  have HS3 : Hid (∀ u, Below W.heap.size W u → u.cell? ⟨gx, 0, none⟩ = some (.int .i64 x) ∧ u.cell? ⟨gr, 0, none⟩ = some (.int .i64 r) ∧ u.cell? ⟨gy, 0, none⟩ = some (.int .i64 y)) := fun u hu => ⟨kc hu b0, kc hu b1, kc hu b2⟩
  have w1 : IntKind.i64.wrap (x - r) = x - r := IntWalk.i64_in _ (by omega)
  have w2 : IntKind.i64.wrap (y - r) = y - r := IntWalk.i64_in _ (by omega)
  have w3 : IntKind.i64.wrap (x + r) = x + r := IntWalk.i64_in _ (by omega)
  have w4 : IntKind.i64.wrap (y + r) = y + r := IntWalk.i64_in _ (by omega)
  have HW := Lib.hid (And.intro w1 (And.intro w2 (And.intro w3 w4)))
  clear w1 w2 w3 w4 hx hy hr hF HQ
  go_region_held3 (fun w' => w'.cell? ⟨gx, 0, none⟩ = some (.int .i64 x) ∧ w'.cell? ⟨gr, 0, none⟩ = some (.int .i64 r) ∧ w'.cell? ⟨gy, 0, none⟩ = some (.int .i64 y))
    ((refine HS3.out _ ?_; repeat (first | exact Below.refl _ _ | refine Below.drew ?_ | refine Below.alloc ?_ (by simp; try omega) _)))
    (first
      | (go_at_call 25; refine (square_exact _ _ _).mono ?_; rintro e w1 ⟨rfl, rfl⟩))
  all_goals
    rw [HW.out.1, HW.out.2.1, HW.out.2.2.1, HW.out.2.2.2]
    refine HF.out _ _ _ _ _ _ _ _ _ _ _ _ _ _ _ _ _ ?_ ?_ ?_ ?_ ?_ ?_ ?_
    · rw [cell_drew]; repeat (first | (refine (cell_past _ _ _ _ ?_).trans ?_; (· first | omega | (simp only [World.size_alloc]; omega))) | (refine (cell_here _ _ _ _ _ ?_).trans ?_; (· first | omega | ((simp only [World.size_alloc]) <;> omega)); (· rfl)))
    · rw [cell_drew]; repeat (first | (refine (cell_past _ _ _ _ ?_).trans ?_; (· first | omega | (simp only [World.size_alloc]; omega))) | (refine (cell_here _ _ _ _ _ ?_).trans ?_; (· first | omega | ((simp only [World.size_alloc]) <;> omega)); (· rfl)))
    · rw [cell_drew]; repeat (first | (refine (cell_past _ _ _ _ ?_).trans ?_; (· first | omega | (simp only [World.size_alloc]; omega))) | (refine (cell_here _ _ _ _ _ ?_).trans ?_; (· first | omega | ((simp only [World.size_alloc]) <;> omega)); (· rfl)))
    · rw [cell_drew]; repeat (first | (refine (cell_past _ _ _ _ ?_).trans ?_; (· first | omega | (simp only [World.size_alloc]; omega))) | (refine (cell_here _ _ _ _ _ ?_).trans ?_; (· first | omega | ((simp only [World.size_alloc]) <;> omega)); (· rfl)))
    · omega
    · omega
    · repeat (first | exact Below.refl _ _ | refine Below.drew ?_ | refine Below.alloc ?_ (by first | omega | (simp only [World.size_alloc]; omega)) _)
end Go.Proofs.Ytkghjaodnkjmoaa
