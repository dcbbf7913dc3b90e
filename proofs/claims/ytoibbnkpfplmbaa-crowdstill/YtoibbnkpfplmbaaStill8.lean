/- A region that draws its order: a head whose operations leave the world as it is may be run in the text's order, whatever follows. -/
import Derived.StillTailTactics
namespace Go.Proofs.Ytoibbnkpfplmbaa

set_option linter.unusedVariables false

section
variable {P : Program} {ops : Array Oper} {md : Region.Mode} {w : World}

/-- Operation i comes in any case before the head is done: somebody of the head waits for it, or it is the only one left. -/
def lastB (md : Region.Mode) (ops : Array Oper) (fin : Array Bool) (i : Nat) : Bool :=
  ((List.range ops.size).any fun j => decide (j ≠ i) && Region.waitsFor md ops j i && fin.getD j false) || decide (Region.ready md ops (fin.setIfInBounds i false) = [i])
def head8 (md : Region.Mode) (ops : Array Oper) (fin : Array Bool) : Nat → Nat → Array Bool → Bool
  | 0, _, listed => decide (listed = fin)
  | f + 1, k, listed => (Region.ready md ops listed).contains k && Region.free md ops listed k && lastB md ops fin k && head8 md ops fin f (k + 1) (listed.setIfInBounds k true)

/-- What is listed has all it waits for listed. -/
def Shut8 (md : Region.Mode) (ops : Array Oper) (listed : Array Bool) : Prop :=
  ∀ j oj, ops[j]? = some oj → listed.getD j false = true → ∀ e ∈ oj.after, Region.binds md e = true → listed.getD e.on false = true
theorem Shut8.set {i : Nat} {listed : Array Bool} (h : Shut8 md ops listed) (hi : i ∈ Region.ready md ops listed) : Shut8 md ops (listed.setIfInBounds i true) := by
  obtain ⟨_, oi, hoi, hall⟩ := mem_ready.1 hi
  intro j oj hj hl e he hb
  by_cases hij : i = j
  · subst hij
    have : oj = oi := Option.some.inj (hj.symm.trans hoi)
    subst this
    exact getD_set_true (hall e he hb)
  · rw [getD_set_ne false hij] at hl
    exact getD_set_true (h j oj hj hl e he hb)

theorem first8 {i : Nat} {oi : Oper} {v : Value} {fin : Array Bool} {Lq : Act → Prop} (hi : ops[i]? = some oi) (hsel : ∀ (j : Nat) (o : Oper) cs b, ops[j]? = some o → o.op ≠ .select cs b) (hl : lastB md ops fin i = true) :
    ∀ (f : Nat) (listed : Array Bool) (a : Act), Shut8 md ops listed →
      (∀ j oj, ops[j]? = some oj → j ≠ i → listed.getD j true = false → (∀ e ∈ oj.after, Region.binds md e = true → e.on ≠ i) → oi.apart ops oj = true) →
      i ∈ Region.ready md ops listed → YieldsAt P ops w oi v a →
      wpAnyL P md ops w ops.size (fun l' a' => l' = fin ∧ Lq a') f (listed.setIfInBounds i true) (a.put oi.dst v) → wpAnyL P md ops w ops.size (fun l' a' => l' = fin ∧ Lq a') (f + 1) listed a := by
  have inOps : ∀ {l : Array Bool} {j : Nat}, j ∈ Region.ready md ops l → j < ops.size := fun hj => by
    obtain ⟨_, o, ho, _⟩ := mem_ready.1 hj
    exact (Array.getElem?_eq_some_iff.1 ho).1
  intro f
  induction f with
  | zero =>
    intro listed a inv _ hr hy H
    have hun := (mem_ready.1 hr).1
    refine ⟨fun h => (by rw [h] at hr; cases hr), fun j hj => ⟨inOps hj, ?_⟩⟩
    by_cases hji : j = i
    · subst hji; exact hy.stOp hi H
    · exfalso
      obtain ⟨hfin, -⟩ := H
      unfold lastB at hl
      rw [Bool.or_eq_true] at hl
      rcases hl with hl | hl
      · obtain ⟨k, hk, hk2⟩ := List.any_eq_true.1 hl
        simp only [Bool.and_eq_true, decide_eq_true_eq] at hk2
        obtain ⟨⟨hki, hkw⟩, hkf⟩ := hk2
        obtain ⟨ok, hok, e, he, hb, hon⟩ := Region.waitsFor_spec hkw
        rw [← hfin, getD_set_ne false (Ne.symm hki)] at hkf
        have h2 := inv k ok hok hkf e he hb
        rw [hon, getD_both hun] at h2
        cases h2
      · have hl := of_decide_eq_true hl
        have e : fin.setIfInBounds i false = listed := by
          rw [← hfin]
          apply Array.ext_getElem?
          intro q
          by_cases hq : i = q
          · subst hq
            have hlt : i < listed.size := by
              rcases Nat.lt_or_ge i listed.size with h | h
              · exact h
              · simp [Array.getElem?_eq_none h] at hun
            simp [hlt] at hun ⊢
            exact hun
          · simp [Array.getElem?_setIfInBounds_ne hq]
        rw [e] at hl
        rw [hl] at hj
        exact hji (by simpa using hj)
  | succ f ih =>
    intro listed a inv hfree hr hy H
    have hun := (mem_ready.1 hr).1
    refine ⟨fun h => (by rw [h] at hr; cases hr), fun j hj => ⟨inOps hj, ?_⟩⟩
    by_cases hji : j = i
    · subst hji; exact hy.stOp hi H
    · have h1 := (H.2 j (ready_mono hj hji)).2
      obtain ⟨hjun, oj, hoj, hall⟩ := mem_ready.1 hj
      have hnot : ∀ e ∈ oj.after, Region.binds md e = true → e.on ≠ i := fun e he hb heq => by
        have h1 := hall e he hb
        rw [heq, getD_both hun] at h1
        cases h1
      have h2 := stOp_put hoj (hfree j oj hoj hji hjun hnot) (fun cs b => hsel i oi cs b hi) (fun cs b => hsel j oj cs b hoj) hy h1
      refine stOp_mono (fun a' h3 => ih (listed.setIfInBounds j true) a' (inv.set hj) (fun k ok hk hki hun' hno => ?_) (ready_mono hr (Ne.symm hji)) h3.1 ?_) h2
      · refine hfree k ok hk hki ?_ hno
        by_cases hjk : j = k
        · subst hjk; exact hjun
        · rw [getD_set_ne true hjk] at hun'; exact hun'
      · rw [Array.setIfInBounds_comm _ _ hji]
        exact h3.2

theorem lex8 {fin : Array Bool} {Lq : Act → Prop} (hsel : Region.noSelect ops = true) :
    ∀ (l : List Oper) (k : Nat) (listed : Array Bool) (a : Act), (∀ j, j < l.length → l[j]? = ops[k + j]?) → Shut8 md ops listed → head8 md ops fin l.length k listed = true → wpStill P ops w Lq l a →
      wpAnyL P md ops w ops.size (fun l' a' => l' = fin ∧ Lq a') l.length listed a
  | [], k, listed, a, _, _, hB, h => ⟨by simpa [head8] using hB, h⟩
  | o :: l, k, listed, a, hl, inv, hB, h => by
    have h0 : ops[k]? = some o := by simpa using (hl 0 (by simp)).symm
    simp only [List.length_cons, head8, Bool.and_eq_true] at hB
    obtain ⟨⟨⟨hr, hf⟩, hla⟩, hB'⟩ := hB
    have hr' : k ∈ Region.ready md ops listed := by simpa using hr
    have hst : stOp P ops w k (wpStill P ops w Lq l) a := by unfold stOp; simp only [h0]; exact h
    obtain ⟨v, hy, hK⟩ := yieldsAt_of_stOp h0 hst
    exact first8 h0 (Region.noSelect_spec hsel) hla l.length listed a inv (Region.free_spec h0 hf) hr' hy
      (lex8 hsel l (k + 1) _ _ (fun j hj => by have := hl (j + 1) (by simp; omega); simpa [Nat.add_assoc, Nat.add_comm 1 j] using this) (inv.set hr') hB' hK)

def shutB (md : Region.Mode) (ops : Array Oper) (listed : Array Bool) : Bool :=
  (List.range ops.size).all fun j => !listed.getD j false || match ops[j]? with | some oj => oj.after.all fun e => !Region.binds md e || listed.getD e.on false | none => true
theorem shut_of {listed : Array Bool} (h : shutB md ops listed = true) : Shut8 md ops listed := by
  intro j oj hj hl e he hb
  have h1 := List.all_eq_true.1 h j (List.mem_range.2 (Array.getElem?_eq_some_iff.1 hj).1)
  rw [hl, hj] at h1
  simp only [Bool.not_true, Bool.false_or] at h1
  have h2 := Array.all_eq_true'.1 h1 e he
  rw [hb] at h2
  simpa using h2

/-- The head from operation k on, n of them; then whatever is left. -/
theorem wpAny_head8 {Q : Exit → Act → World → Prop} {g : Nat} {listed fin : Array Bool} {a : Act} (l : List Oper) (k : Nat) (hl : ∀ j, j < l.length → l[j]? = ops[k + j]?) (hsel : Region.noSelect ops = true) (hS : shutB md ops listed = true) (hB : head8 md ops fin l.length k listed = true)
    (h : wpStill P ops w (fun a' => wpAny P md ops Q g fin a' w) l a) : wpAny P md ops Q (l.length + g) listed a w :=
  wpAny_of_head (n := ops.size) (fun l' a' h' => by rw [h'.1]; exact h'.2) _ _ _ (lex8 hsel l k listed a hl (shut_of hS) hB h)

theorem wpAny_headL {Q : Exit → Act → World → Prop} {L : List Oper} (k n g : Nat) (fin : Array Bool) {listed : Array Bool} {a : Act} (hn : decide (k + n ≤ L.length) = true) (hsel : Region.noSelect L.toArray = true) (hS : shutB md L.toArray listed = true) (hB : head8 md L.toArray fin n k listed = true)
    (h : wpStill P L.toArray w (fun a' => wpAny P md L.toArray Q g fin a' w) ((L.drop k).take n) a) : wpAny P md L.toArray Q (n + g) listed a w := by
  have hn := of_decide_eq_true hn
  have e : ((L.drop k).take n).length = n := by simp; omega
  have H := wpAny_head8 (md := md) (fin := fin) (g := g) (Q := Q) (listed := listed) ((L.drop k).take n) k (fun j hj => by rw [e] at hj; simp [hj]) hsel hS (by rw [e]; exact hB) h
  rw [e] at H
  exact H

end
end Go.Proofs.Ytoibbnkpfplmbaa
