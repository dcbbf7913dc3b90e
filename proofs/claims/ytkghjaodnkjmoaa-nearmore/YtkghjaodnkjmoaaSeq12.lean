/- A range over an iterator that only reads, and whose memory (cells and maps) is older than what the loop's body writes. -/
import Derived.Test.YtkghjaodnkjmoaaKd1
import Derived.RangeFuncBound
import Derived.RangeFuncCalls
import Derived.RangeFuncLeaves
import Derived.Shelf.Abstract
import Derived.OwnWalkIn
import Derived.TacticsInMore
import Derived.LoopNIn
import Derived.LoopIn
import Derived.Shelf.RegionOpen
namespace Go.Proofs.Ytkghjaodnkjmoaa
open Go.RowKit Go.Shelf
set_option linter.unusedVariables false

def mark (D : Nat) : Deferred := { target := .collected D, args := #[] }
/-- Cells, or a map. -/
def dat : Obj → Bool
  | .cells .. => true
  | .map .. => true
  | _ => false
/-- It stands while memory grows. -/
def Grw {β : Type} (I : β → World → Prop) : Prop := ∀ s A C, I s A → Below A.heap.size A C → I s C
/-- .. and while what is neither cells nor a map is written. -/
def Abn {β : Type} (B : Nat) (I : β → World → Prop) : Prop := Grw I ∧ ∀ s A l o o', I s A → B ≤ l → A.heap[l]? = some o → dat o = false → I s (A.putObj l o')
/-- Whatever is not of S lies as it lay. -/
def Frm (S : Nat → Prop) (W W' : World) : Prop := W.heap.size ≤ W'.heap.size ∧ ∀ b o, ¬ S b → W.heap[b]? = some o → dat o = true → W'.heap[b]? = some o
theorem Frm.trans {S : Nat → Prop} {X Y Z : World} (h : Frm S X Y) (k : Frm S Y Z) : Frm S X Z := ⟨Nat.le_trans h.1 k.1, fun b o hb ho hc => k.2 b o hb (h.2 b o hb ho hc) hc⟩
theorem Frm.refl (S : Nat → Prop) (W : World) : Frm S W W := ⟨Nat.le_refl _, fun _ _ _ h _ => h⟩
theorem Frm.put {S : Nat → Prop} {W : World} {l : Nat} {o o' : Obj} (hl : W.heap[l]? = some o) (ho : dat o = false) : Frm S W (W.putObj l o') := ⟨by simp [World.putObj], fun b u _ hb hc =>
  (World.putObj_heap_other (fun e => by subst e; rw [hl] at hb; cases hb; rw [ho] at hc; cases hc)).trans hb⟩
theorem Frm.turn {S : Nat → Prop} {W W' : World} {row : Option Nat} (hg : W.grownBy W' row) (hr : ∀ r, row = some r → S r) : Frm S W W' := ⟨hg.size, fun b u hb hu _ =>
  (hg.block b (Array.getElem?_eq_some_iff.1 hu).1 (fun e => hb (hr b e.symm))).trans hu⟩
theorem Frm.below {S : Nat → Prop} {W W' : World} (hb : Below W.heap.size W W') : Frm S W W' := Frm.turn (row := none) (grownBy_below hb none) (fun r e => by cases e)
theorem Frm.cell {S : Nat → Prop} {W W' : World} (h : Frm S W W') {b i : Nat} {v : Value} (hb : ¬ S b) (hc : W.cell? ⟨b, i, none⟩ = some v) : W'.cell? ⟨b, i, none⟩ = some v := by
  unfold World.cell? at hc
  split at hc
  · rename_i cs t rg hh
    have h2 := h.2 b _ hb hh rfl
    simp only [World.cell?, h2]
    exact hc
  · cases hc
/-- What comes to S is new. -/
def Frs (S S' : Nat → Prop) (W : World) : Prop := ∀ b, S' b → S b ∨ W.heap.size ≤ b

/-- The iterator's contract: it hands out enc 0, enc 1 .. enc (N - 1), or stops where it is told to. S: the blocks that the loop's body writes; D: those that the iterator reads. -/
def Seq12 (D : Nat → Prop) (F : Fence) (n : Nat) (P : Program) (g : Nat) (lb : Array Value) (enc : Nat → Array Value) (N : Nat) (w : World) : Prop :=
  ∀ (l : Nat) (J : Nat × (Nat → Prop) → World → Prop) (Jx : Nat → World → Prop) (W : World) (S0 : Nat → Prop), Below w.heap.size w W → Grw J → (∀ b, S0 b → ¬ D b ∧ b < W.heap.size) →
    (∀ q S W1, q < N → J (q, S) W1 → YieldAt F (n - 1) P l (enc q) W1 fun e W' => (e = .returned (.bool true) ∧ ∃ S', J (q + 1, S') W' ∧ Frm S W1 W' ∧ Frs S S' W1) ∨ (e = .returned (.bool false) ∧ Jx q W')) →
    J (0, S0) W → CallsIn F n P g (#[.func (.yield l) #[] #[]] ++ lb) W fun e W' => (∃ v, e = .returned v) ∧ ((∃ S, J (N, S) W') ∨ ∃ q, q < N ∧ Jx q W')

/-- How a round may end. -/
def post12 (B : Nat) (I : Nat × (Nat → Prop) → World → Prop) (Ix : Nat → World → Prop) (q : Nat) (S : Nat → Prop) (W : World) : Exit → Act → World → Prop
  | .normal, _, W' => ∃ S', KeepsFrom B W W' ∧ Frm S W W' ∧ Frs S S' W ∧ I (q + 1, S') W'
  | .ret, _, W' => KeepsFrom B W W' ∧ Ix q W'
  | _, _, _ => False

theorem range12 {F : Fence} {n : Nat} {P : Program} {g : Operand} {ps : Array Tmp} {assign body : Code} {Q : Exit → Act → World → Prop} {a : Act} {w : World}
    (hro : F.round = none) (h1 : 1 ≤ n) {gf : Nat} {lb : Array Value} (hg : a.eval g = .func (.func gf) #[] lb) (hFg : F.fn gf) (eg : ∀ args w, (callFunc gf args).run P w = .ok (.enter gf args) w)
    {enc : Nat → Array Value} {N : Nat} {w0 : World} {D : Nat → Prop} (hseq : Seq12 D F (n - 1) P gf lb enc N w0) (hb0 : Below w0.heap.size w0 w) (hps : ∀ q, (enc q).size = ps.size)
    (I : Nat × (Nat → Prop) → World → Prop) (Ix : Nat → World → Prop) (hI : Abn w.heap.size I) (hIx : Abn w.heap.size Ix) (S0 : Nat → Prop) (hS0 : ∀ b, S0 b → ¬ D b ∧ b < w.heap.size) (h0 : I (0, S0) w) (Ax : Nat → Act → World → Prop) (hAx : ∀ q a', OwnFrom w.heap.size (fun (_ : Unit) W => Ax q a' W))
    (hassign : ∀ (l q : Nat) (S : Nat → Prop) (W : World) (K : Act → World → Prop), q < N → I (q, S) W → (∀ a' W', KeepsFrom w.heap.size W W' → Below W.heap.size W W' → Ax q a' W' → K a' W') →
      assign.wpIn (F.inRound l) (n - 1 - 1) P (Exit.then K (fun _ _ _ => False)) { tmps := (ps.zip (enc q)).foldl (fun t (p, v) => t.setIfInBounds p v) a.tmps, defers := [] } W)
    (hbody : ∀ (l q : Nat) (S : Nat → Prop) (a' : Act) (W : World), q < N → I (q, S) W → Ax q a' W → body.wpIn (F.inRound l) (n - 1 - 1) P (post12 w.heap.size I Ix q S W) a' W)
    (hdone : ∀ (D : Nat) (S : Nat → Prop) (W : World), w.heap.size ≤ D → I (N, S) W → W.heap[D]? = some (.deferred (some [])) → Q .normal { a with defers := mark D :: a.defers } W)
    (hstop : ∀ (D q : Nat) (W : World), w.heap.size ≤ D → q < N → Ix q W → W.heap[D]? = some (.deferred (some [])) → Code.ret.wpIn F n P Q { a with defers := mark D :: a.defers } W) :
    (Code.rangeFunc g ps assign body).wpIn F n P Q a w := by
  refine wpIn_rangeFunc (fun fn hfn => ?_)
  rw [hro]
  obtain ⟨rc, hrc⟩ : ∃ rc : LoopState → Option Code → Loop, rc = fun st pe => { state := st, pending := pe, fn, tmps := a.tmps, params := ps, assign, body, defers := w.heap.size } := ⟨_, rfl⟩
  obtain ⟨V, hV⟩ : ∃ V, (w.alloc (.deferred (some []))).alloc (.loop (rc .ready none)) = V := ⟨_, rfl⟩
  have vs : V.heap.size = w.heap.size + 2 := by rw [← hV]; simp
  have v1 : V.heap[w.heap.size + 1]? = some (.loop (rc .ready none)) := by
    have := World.alloc_heap_new (w.alloc (.deferred (some []))) (.loop (rc .ready none))
    rw [World.size_alloc, hV] at this
    exact this
  have v0 : V.heap[w.heap.size]? = some (.deferred (some [])) := by
    rw [← hV]; exact (Below.heap_alloc _ _ _ (by simp)).trans (World.alloc_heap_new w _)
  have vw : Below w.heap.size w V := by
    rw [← hV]; exact ((Below.refl _ w).alloc (Nat.le_refl _) _).alloc (by simp) _
  have vI : I (0, S0) V := hI.1 _ _ _ h0 vw
  have vb : Below w0.heap.size w0 V := hb0.trans (vw.mono hb0.size)
  refine ⟨w.heap.size + 1, [mark w.heap.size], V, { target := .fn (.func gf) lb, args := #[.func (.yield (w.heap.size + 1)) #[] #[]] }, V, gf, #[.func (.yield (w.heap.size + 1)) #[] #[]] ++ lb, V, ?_, ?_, ?_, ?_, fun _ => h1, ?_⟩
  · rw [← hV, hrc]; exact run_enterLoop_outer _ _ _ _ _
  · simp only [resolve, hg]; simp [go_sem]
  · intro f' hf'; simp [Target.leads] at hf'; subst hf'; exact hFg
  · simp [invoke, go_sem, eg]
  refine (hseq (w.heap.size + 1)
    (fun q W => I q W ∧ W.heap[w.heap.size + 1]? = some (.loop (rc .ready none)) ∧ W.heap[w.heap.size]? = some (.deferred (some [])))
    (fun q W => Ix q W ∧ W.heap[w.heap.size + 1]? = some (.loop (rc .done (some .ret))) ∧ W.heap[w.heap.size]? = some (.deferred (some []))) V S0 vb ?_ (fun b hb => ⟨(hS0 b hb).1, by have := (hS0 b hb).2; omega⟩) ?_ ⟨vI, v1, v0⟩).mono ?_
  · rintro q A C ⟨p1, p2, p3⟩ hb
    exact ⟨hI.1 _ _ _ p1 hb, (hb.block _ (Array.getElem?_eq_some_iff.1 p2).1).trans p2, (hb.block _ (Array.getElem?_eq_some_iff.1 p3).1).trans p3⟩
  · rintro q S W hq ⟨p1, p2, p3⟩
    have hy := run_yield (P := P) (args := enc q) p2 (by rw [hrc]; exact hps q)
    rw [hrc] at hy
    refine ⟨fn, _, assign, body, hy, roundIn_of_wpIn hfn (hassign _ q S W _ hq p1 ?_)⟩
    intro a' X kf kb xA
    have xI := hI.1 _ _ _ p1 kb
    have x2 := kf.same _ _ (by omega) p2 rfl
    have x3 := kf.same _ _ (Nat.le_refl _) p3 rfl
    have xs := (Array.getElem?_eq_some_iff.1 x2).1
    refine ⟨_, run_beginRound x2 (by rw [hrc]), ?_⟩
    have y2 : (X.putObj (w.heap.size + 1) (.loop { rc .ready none with state := .busy })).heap[w.heap.size + 1]? = some (.loop { rc .ready none with state := .busy }) := World.putObj_heap_same xs
    have y3 : (X.putObj (w.heap.size + 1) (.loop { rc .ready none with state := .busy })).heap[w.heap.size]? = some (.deferred (some [])) := (World.putObj_heap_other (by omega)).trans x3
    have yq : Frm S X (X.putObj (w.heap.size + 1) (.loop { rc .ready none with state := .busy })) := Frm.put x2 rfl
    have yI : I (q, S) (X.putObj (w.heap.size + 1) (.loop { rc .ready none with state := .busy })) := hI.2 _ _ _ _ _ xI (by omega) x2 rfl
    refine wpIn_mono (hbody _ q S a' _ hq yI ((hAx q a').putObj (s := ()) _ xA (by omega) x2 rfl)) ?_
    rintro e b Z hp
    cases e with
    | normal =>
      obtain ⟨S', z1, z2, zs, z3⟩ := hp
      have z4 := z1.same _ _ (by omega) y2 rfl
      have z5 := z1.same _ _ (Nat.le_refl _) y3 rfl
      have hr := run_endRound (P := P) none z4
      refine ⟨_, _, hr, .inl ⟨rfl, S', ⟨hI.2 _ _ _ _ _ z3 (by omega) z4 rfl, ?_, (World.putObj_heap_other (by omega)).trans z5⟩, (Frm.below kb).trans (yq.trans (z2.trans (Frm.put z4 rfl))), fun k hk => ?_⟩⟩
      · rw [World.putObj_heap_same (Array.getElem?_eq_some_iff.1 z4).1, hrc]
        rfl
      · rcases zs k hk with h | h
        · exact .inl h
        · exact .inr (Nat.le_trans kb.size (Nat.le_trans yq.1 h))
    | ret =>
      obtain ⟨z1, z3⟩ := hp
      have z4 := z1.same _ _ (by omega) y2 rfl
      have z5 := z1.same _ _ (Nat.le_refl _) y3 rfl
      have hr := run_endRound (P := P) (some .ret) z4
      refine ⟨_, _, hr, .inr ⟨rfl, hIx.2 _ _ _ _ _ z3 (by omega) z4 rfl, ?_, (World.putObj_heap_other (by omega)).trans z5⟩⟩
      rw [World.putObj_heap_same (Array.getElem?_eq_some_iff.1 z4).1, hrc]
      rfl
    | exit id => exact hp.elim
    | goto t => exact hp.elim
    | panic c => exact hp.elim
    | outgrown => exact hp.elim
  · rintro e W ⟨⟨v, rfl⟩, ⟨S, p1, p2, p3⟩ | ⟨q, hq, p1, p2, p3⟩⟩
    · have hr := run_endLoop (P := P) p2 (by rw [hrc]; simp)
      refine ⟨_, _, hr, ?_⟩
      rw [hrc]
      exact hdone _ S _ (Nat.le_refl _) (hI.2 _ _ _ _ _ p1 (by omega) p2 rfl) ((World.putObj_heap_other (by omega)).trans p3)
    · have hr := run_endLoop (P := P) p2 (by rw [hrc]; simp)
      refine ⟨_, _, hr, ?_⟩
      rw [hrc]
      exact hstop _ q _ (Nat.le_refl _) hq (hIx.2 _ _ _ _ _ p1 (by omega) p2 rfl) ((World.putObj_heap_other (by omega)).trans p3)

end Go.Proofs.Ytkghjaodnkjmoaa
