/- A range over an iterator that only reads, and whose memory is older than what the loop's body writes. -/
import Derived.Test.YtcneilhhpblclaaHeld9
namespace Go.Proofs.Ytcneilhhpblclaa
open Go.RowKit Go.Shelf
set_option linter.unusedVariables false

/-- Cells below block B lie as they lay. -/
def Kb (B : Nat) (W W' : World) : Prop := ∀ b o, b < B → W.heap[b]? = some o → o.isCells = true → W'.heap[b]? = some o
theorem Kb.trans {B : Nat} {X Y Z : World} (h : Kb B X Y) (k : Kb B Y Z) : Kb B X Z := fun b o hb ho hc => k b o hb (h b o hb ho hc) hc
theorem Kb.refl (B : Nat) (W : World) : Kb B W W := fun _ _ _ h _ => h
theorem Kb.put {B : Nat} {W : World} {l : Nat} {o o' : Obj} (hl : W.heap[l]? = some o) (ho : o.isCells = false) : Kb B W (W.putObj l o') := fun b u _ hb hc =>
  (World.putObj_heap_other (fun e => by subst e; rw [hl] at hb; cases hb; rw [ho] at hc; cases hc)).trans hb
theorem Kb.turn {B : Nat} {W W' : World} {row : Option Nat} (hg : W.grownBy W' row) (hr : ∀ r, row = some r → B ≤ r) : Kb B W W' := fun b u hb hu _ =>
  (hg.block b (Array.getElem?_eq_some_iff.1 hu).1 (fun e => by have := hr b e.symm; omega)).trans hu
theorem Kb.below {B : Nat} {W W' : World} (hb : Below W.heap.size W W') : Kb B W W' := Kb.turn (row := none) (below_grownBy hb) (fun r e => by cases e)
theorem Kb.cell {B : Nat} {W W' : World} (h : Kb B W W') {b i : Nat} {v : Value} (hb : b < B) (hc : W.cell? ⟨b, i, none⟩ = some v) : W'.cell? ⟨b, i, none⟩ = some v := by
  unfold World.cell? at hc
  split at hc
  · rename_i cs t rg hh
    have h2 := h b _ hb hh rfl
    simp only [World.cell?, h2]
    exact hc
  · cases hc

/-- The iterator's contract: it hands out enc 0, enc 1 .. enc (N - 1), or stops where it is told to. -/
def Seq9 (F : Fence) (n : Nat) (P : Program) (g : Nat) (lb : Array Value) (enc : Nat → Array Value) (N : Nat) (w : World) : Prop :=
  ∀ (l : Nat) (J Jx : Nat → World → Prop) (W : World), Below w.heap.size w W → Abw W.heap.size J →
    (∀ q W1, q < N → J q W1 → YieldAt F (n - 1) P l (enc q) W1 fun e W' => (e = .returned (.bool true) ∧ J (q + 1) W' ∧ Kb w.heap.size W1 W') ∨ (e = .returned (.bool false) ∧ Jx q W')) →
    J 0 W → CallsIn F n P g (#[.func (.yield l) #[] #[]] ++ lb) W fun e W' => (∃ v, e = .returned v) ∧ (J N W' ∨ ∃ q, q < N ∧ Jx q W')

/-- How a round may end. -/
def post9 (B Lo : Nat) (I Ix : Nat → World → Prop) (q : Nat) (W : World) : Exit → Act → World → Prop
  | .normal, _, W' => KeepsFrom B W W' ∧ Kb Lo W W' ∧ I (q + 1) W'
  | .ret, _, W' => KeepsFrom B W W' ∧ Ix q W'
  | _, _, _ => False

theorem range9 {F : Fence} {n : Nat} {P : Program} {g : Operand} {ps : Array Tmp} {assign body : Code} {Q : Exit → Act → World → Prop} {a : Act} {w : World}
    (hro : F.round = none) (h1 : 1 ≤ n) {gf : Nat} {lb : Array Value} (hg : a.eval g = .func (.func gf) #[] lb) (hFg : F.fn gf) (eg : ∀ args w, (callFunc gf args).run P w = .ok (.enter gf args) w)
    {enc : Nat → Array Value} {N : Nat} {w0 : World} (hseq : Seq9 F (n - 1) P gf lb enc N w0) (hb0 : Below w0.heap.size w0 w) (hps : ∀ q, (enc q).size = ps.size)
    (I Ix : Nat → World → Prop) (hI : Abw w.heap.size I) (hIx : Abw w.heap.size Ix) (h0 : I 0 w) (Ax : Nat → Act → World → Prop) (hAx : ∀ q a', OwnFrom w.heap.size (fun (_ : Unit) W => Ax q a' W))
    (hassign : ∀ (l q : Nat) (W : World) (K : Act → World → Prop), q < N → I q W → (∀ a' W', KeepsFrom w.heap.size W W' → Kb w0.heap.size W W' → I q W' → Ax q a' W' → K a' W') →
      assign.wpIn (F.inRound l) (n - 1 - 1) P (Exit.then K (fun _ _ _ => False)) { tmps := (ps.zip (enc q)).foldl (fun t (p, v) => t.setIfInBounds p v) a.tmps, defers := [] } W)
    (hbody : ∀ (l q : Nat) (a' : Act) (W : World), q < N → I q W → Ax q a' W → body.wpIn (F.inRound l) (n - 1 - 1) P (post9 w.heap.size w0.heap.size I Ix q W) a' W)
    (hdone : ∀ (D : Nat) (W : World), w.heap.size ≤ D → I N W → W.heap[D]? = some (.deferred (some [])) → Q .normal { a with defers := mark D :: a.defers } W)
    (hstop : ∀ (D q : Nat) (W : World), w.heap.size ≤ D → q < N → Ix q W → W.heap[D]? = some (.deferred (some [])) → Code.ret.wpIn F n P Q { a with defers := mark D :: a.defers } W) :
    (Code.rangeFunc g ps assign body).wpIn F n P Q a w := by
  refine wpIn_rangeFunc (fun fn hfn => ?_)
  rw [hro]
  obtain ⟨rc, hrc⟩ : ∃ rc : LoopState → Option Code → Loop, rc = fun st pe => { state := st, pending := pe, fn, tmps := a.tmps, params := ps, assign, body, defers := w.heap.size } := ⟨_, rfl⟩
  obtain ⟨V, hV⟩ : ∃ V, (w.alloc (.deferred (some []))).alloc (.loop (rc .ready none)) = V := ⟨_, rfl⟩
  have vs : V.heap.size = w.heap.size + 2 := by rw [← hV]; simp
  have v1 : V.heap[w.heap.size + 1]? = some (.loop (rc .ready none)) := by
    have := World.alloc_heap_new (w.alloc (.deferred (some []))) (.loop (rc .ready none))
    rw [World.size_alloc, hV] at this
    exact this
  have v0 : V.heap[w.heap.size]? = some (.deferred (some [])) := by
    rw [← hV]; exact (Below.heap_alloc _ _ _ (by simp)).trans (World.alloc_heap_new w _)
  have vI : I 0 V := by rw [← hV]; exact hI.alloc _ (hI.alloc _ h0)
  have vb : Below w0.heap.size w0 V := by
    rw [← hV]; exact hb0.trans ((((Below.refl _ w).alloc (Nat.le_refl _) _).alloc (by simp) _).mono hb0.size)
  refine ⟨w.heap.size + 1, [mark w.heap.size], V, { target := .fn (.func gf) lb, args := #[.func (.yield (w.heap.size + 1)) #[] #[]] }, V, gf, #[.func (.yield (w.heap.size + 1)) #[] #[]] ++ lb, V, ?_, ?_, ?_, ?_, fun _ => h1, ?_⟩
  · rw [← hV, hrc]; exact run_enterLoop_outer _ _ _ _ _
  · simp only [resolve, hg]; simp [go_sem]
  · intro f' hf'; simp [Target.leads] at hf'; subst hf'; exact hFg
  · simp [invoke, go_sem, eg]
  refine (hseq (w.heap.size + 1)
    (fun q W => I q W ∧ W.heap[w.heap.size + 1]? = some (.loop (rc .ready none)) ∧ W.heap[w.heap.size]? = some (.deferred (some [])))
    (fun q W => Ix q W ∧ W.heap[w.heap.size + 1]? = some (.loop (rc .done (some .ret))) ∧ W.heap[w.heap.size]? = some (.deferred (some []))) V vb ?_ ?_ ⟨vI, v1, v0⟩).mono ?_
  · rintro q A C row ⟨p1, p2, p3⟩ hgr hr
    refine ⟨hI q A C row p1 hgr (fun r e => by have := hr r e; omega), (hgr.block _ (Array.getElem?_eq_some_iff.1 p2).1 (fun e => ?_)).trans p2, (hgr.block _ (Array.getElem?_eq_some_iff.1 p3).1 (fun e => ?_)).trans p3⟩
    · have := hr _ e.symm; omega
    · have := hr _ e.symm; omega
  · rintro q W hq ⟨p1, p2, p3⟩
    have hy := run_yield (P := P) (args := enc q) p2 (by rw [hrc]; exact hps q)
    rw [hrc] at hy
    refine ⟨fn, _, assign, body, hy, roundIn_of_wpIn hfn (hassign _ q W _ hq p1 ?_)⟩
    intro a' X kf kq xI xA
    have x2 := kf.same _ _ (by omega) p2 rfl
    have x3 := kf.same _ _ (Nat.le_refl _) p3 rfl
    have xs := (Array.getElem?_eq_some_iff.1 x2).1
    refine ⟨_, run_beginRound x2 (by rw [hrc]), ?_⟩
    have y2 : (X.putObj (w.heap.size + 1) (.loop { rc .ready none with state := .busy })).heap[w.heap.size + 1]? = some (.loop { rc .ready none with state := .busy }) := World.putObj_heap_same xs
    have y3 : (X.putObj (w.heap.size + 1) (.loop { rc .ready none with state := .busy })).heap[w.heap.size]? = some (.deferred (some [])) := (World.putObj_heap_other (by omega)).trans x3
    have yq : Kb w0.heap.size X (X.putObj (w.heap.size + 1) (.loop { rc .ready none with state := .busy })) := Kb.put x2 rfl
    refine wpIn_mono (hbody _ q a' _ hq (hI.put _ xI (by omega)) ((hAx q a').putObj (s := ()) _ xA (by omega) x2 rfl)) ?_
    rintro e b Z hp
    cases e with
    | normal =>
      obtain ⟨z1, z2, z3⟩ := hp
      have z4 := z1.same _ _ (by omega) y2 rfl
      have z5 := z1.same _ _ (Nat.le_refl _) y3 rfl
      have hr := run_endRound (P := P) none z4
      refine ⟨_, _, hr, .inl ⟨rfl, ⟨hI.put _ z3 (by omega), ?_, (World.putObj_heap_other (by omega)).trans z5⟩, kq.trans (yq.trans (z2.trans (Kb.put z4 rfl)))⟩⟩
      rw [World.putObj_heap_same (Array.getElem?_eq_some_iff.1 z4).1, hrc]
      rfl
    | ret =>
      obtain ⟨z1, z3⟩ := hp
      have z4 := z1.same _ _ (by omega) y2 rfl
      have z5 := z1.same _ _ (Nat.le_refl _) y3 rfl
      have hr := run_endRound (P := P) (some .ret) z4
      refine ⟨_, _, hr, .inr ⟨rfl, hIx.put _ z3 (by omega), ?_, (World.putObj_heap_other (by omega)).trans z5⟩⟩
      rw [World.putObj_heap_same (Array.getElem?_eq_some_iff.1 z4).1, hrc]
      rfl
    | exit id => exact hp.elim
    | goto t => exact hp.elim
    | panic c => exact hp.elim
    | outgrown => exact hp.elim
  · rintro e W ⟨⟨v, rfl⟩, ⟨p1, p2, p3⟩ | ⟨q, hq, p1, p2, p3⟩⟩
    · have hr := run_endLoop (P := P) p2 (by rw [hrc]; simp)
      refine ⟨_, _, hr, ?_⟩
      rw [hrc]
      exact hdone _ _ (Nat.le_refl _) (hI.put _ p1 (by omega)) ((World.putObj_heap_other (by omega)).trans p3)
    · have hr := run_endLoop (P := P) p2 (by rw [hrc]; simp)
      refine ⟨_, _, hr, ?_⟩
      rw [hrc]
      exact hstop _ q _ (Nat.le_refl _) hq (hIx.put _ p1 (by omega)) ((World.putObj_heap_other (by omega)).trans p3)

end Go.Proofs.Ytcneilhhpblclaa
