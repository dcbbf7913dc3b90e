/- Contracts of package ground, fifth part: spread. -/
import Derived.Test.YtcneilhhpblclaaGr6
namespace Go.Proofs.Ytcneilhhpblclaa
open Go.RowKit Go.Shelf
set_option linter.unusedVariables false
attribute [local go_sem] Oper.semAt_some

/-- What a loop over an iterator leaves among the deferred calls. -/
def mark (D : Nat) : Deferred := { target := .collected D, args := #[] }
theorem leaves_marks {F : Fence} {n : Nat} {P : Program} {fn : Func} {tmps : Array Value} {R : Ending → World → Prop} (s0 : Nat) (Φ : World → Prop) (hr : fn.results = #[])
    (hΦ : ∀ W D o o', Φ W → s0 ≤ D → W.heap[D]? = some o → o.isCells = false → Φ (W.putObj D o')) (hR : ∀ W, Φ W → R (.returned (.tuple #[])) W) :
    ∀ (ds : List Nat) (W : World), ds.Nodup → (∀ D ∈ ds, s0 ≤ D ∧ W.heap[D]? = some (.deferred (some []))) → Φ W → LeavesInM F n P fn tmps R (ds.map mark) .returning W
  | [], W, _, _, h => ⟨_, results_none hr _ _ _, hR W h⟩
  | D :: ds, W, hn, hm, h => by
    obtain ⟨h1, h2⟩ := hm D (by simp)
    obtain ⟨n1, n2⟩ := List.nodup_cons.1 hn
    refine ⟨by simp, .inl ⟨D, _, rfl, run_takeDeferred h2, ?_⟩⟩
    refine leaves_marks s0 Φ hr hΦ hR ds _ n2 (fun E hE => ?_) (hΦ _ _ _ _ h h1 h2 rfl)
    obtain ⟨e1, e2⟩ := hm E (by simp [hE])
    exact ⟨e1, (World.putObj_heap_other (fun e => n1 (by rw [← e]; exact hE))).trans e2⟩

/-- A number in memory. -/
def valAt (W : World) (g i : Nat) : Int := match W.cell? ⟨g, i, none⟩ with | some (.int _ z) => z | _ => 0
/-- A slice's length in memory. -/
def lenAt (W : World) (b : Nat) : Nat := match W.cell? ⟨b, 0, none⟩ with | some (.slice _ n _) => n | _ => 0
theorem Ir.val {W : World} {rg N : Nat} {R : Nat → Int} (h : Ir W rg N R) {i : Nat} (hi : i < N) : valAt W rg i = R i := by
  unfold valAt; rw [h.cell hi]
theorem kp_b {lo B : Nat} (W : World) (l : Nat) (o o' : Obj) (_ : B ≤ l) (h : W.heap[l]? = some o) (hc : o.isCells = false) (_ : o.isWalk = false) : Kp lo W (W.putObj l o') := fun b u _ _ hb =>
  (World.putObj_heap_other (fun e => by subst e; rw [show W.heap[b]? = _ from hb] at h; cases h; cases hc)).trans hb
/-- What spread leaves. -/
def RetSp (adj : Nat → Nat → Prop) (g : Nat → Bool) (N c rg : Nat) (w : World) (e : Ending) (w' : World) : Prop :=
  e = .returned (.tuple #[]) ∧ w.grownBy w' (some rg) ∧ ∃ R, Ir w' rg N R ∧ Part adj g N (c + 1) R

theorem kp_turn {lo : Nat} {A B : World} {row : Option Nat} (hg : A.grownBy B row) (hr : ∀ r, row = some r → ∃ o : Obj, A.heap[r]? = some o ∧ o.isCells = false) : Kp lo A B := fun b u _ _ hb => hb.kept hg (box_row hb hr)

end Go.Proofs.Ytcneilhhpblclaa
