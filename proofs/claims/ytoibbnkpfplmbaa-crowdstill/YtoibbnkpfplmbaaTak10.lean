/- A region that draws its order and ends in a store: loads may be taken first where nobody but the last operation writes what they read. -/
import Derived.Test.YtoibbnkpfplmbaaStill8
import Derived.Deep.RegionHeld3
namespace Go.Proofs.Ytoibbnkpfplmbaa
set_option linter.unusedVariables false

section
variable {P : Program} {ops : Array Oper} {Q : Exit → Act → World → Prop} {md : Region.Mode} {m : Nat} {R B : World → Prop}

/-- Whatever order is picked from here on; R holds behind every operation, and B as long as operation m has not come up. -/
def wpAnyT (P : Program) (md : Region.Mode) (ops : Array Oper) (Q : Exit → Act → World → Prop) (m : Nat) (R B : World → Prop) : Nat → Array Bool → Act → World → Prop
  | 0, l, a, w => Region.ready md ops l = [] ∧ Q .normal a w
  | f + 1, l, a, w => (Region.ready md ops l = [] → Q .normal a w) ∧
    ∀ i ∈ Region.ready md ops l, wpOp P ops Q i (fun a' w' => (R w' ∧ ((l.setIfInBounds i true).getD m false = false → B w')) ∧ wpAnyT P md ops Q m R B f (l.setIfInBounds i true) a' w') a w
theorem wpAny_of_T : ∀ (f : Nat) (l : Array Bool) (a : Act) (w : World), wpAnyT P md ops Q m R B f l a w → wpAny P md ops Q f l a w
  | 0, _, _, _, h => h
  | f + 1, _, _, _, h => ⟨h.1, fun i hi => wpOp_mono (fun a' w' h' => wpAny_of_T f _ a' w' h'.2) (h.2 i hi)⟩

/-- All that waits for one of s, in so many steps. -/
def waits (md : Region.Mode) (ops : Array Oper) : Nat → List Nat → List Nat
  | 0, s => s
  | f + 1, s => waits md ops f ((List.range ops.size).filter fun j => s.contains j || s.any fun k => Region.waitsFor md ops j k)
theorem waits_un {l : Array Bool} (hl : Shut8 md ops l) : ∀ (f : Nat) (s : List Nat), (∀ k ∈ s, l.getD k false = false) → ∀ k ∈ waits md ops f s, l.getD k false = false
  | 0, _, h, k, hk => h k hk
  | f + 1, s, h, k, hk => by
    refine waits_un hl f _ (fun j hj => ?_) k hk
    obtain ⟨-, hj⟩ := List.mem_filter.1 hj
    rw [Bool.or_eq_true] at hj
    rcases hj with hj | hj
    · exact h j (by simpa using hj)
    · obtain ⟨k', hk', hw⟩ := List.any_eq_true.1 hj
      obtain ⟨oj, hoj, e, he, hb, hon⟩ := Region.waitsFor_spec hw
      rcases hlj : l.getD j false with _ | _
      · rfl
      · have h1 := hl j oj hoj hlj e he hb
        rw [hon, h k' hk'] at h1
        cases h1

theorem takeT {i : Nat} {oi : Oper} {v : Value} {S : World → Prop} (hi : ops[i]? = some oi) (hsel : ∀ (j : Nat) (o : Oper) cs b, ops[j]? = some o → o.op ≠ .select cs b)
    (hQ : ∀ c a w, Q (.panic c) (a.put oi.dst v) w → Q (.panic c) a w) (him : i ≠ m) (hA : ∀ l w, Shut8 md ops l → l.getD i false = false → R w → (l.getD m false = false → B w) → S w) :
    ∀ (f : Nat) (l : Array Bool) (a : Act) (w : World), Shut8 md ops l →
      (∀ j oj, ops[j]? = some oj → j ≠ i → l.getD j true = false → (∀ e ∈ oj.after, Region.binds md e = true → e.on ≠ i) → oi.apart ops oj = true) →
      i ∈ Region.ready md ops l → YieldsIf P ops S oi v a → R w → (l.getD m false = false → B w) →
      wpAnyT P md ops Q m R B f (l.setIfInBounds i true) (a.put oi.dst v) w → wpAnyT P md ops Q m R B (f + 1) l a w := by
  intro f
  induction f with
  | zero =>
    intro l a w hl _ hr hy hR hB H
    have hS := hA l w hl (getD_both (mem_ready.1 hr).1) hR hB
    refine ⟨fun h => (by rw [h] at hr; cases hr), fun j hj => ?_⟩
    by_cases e : j = i
    · subst e; exact hy.wpOp hi hS ⟨⟨hR, fun q => hB (by rw [getD_set_ne false him] at q; exact q)⟩, H⟩
    · have q := ready_mono hj e
      rw [H.1] at q
      cases q
  | succ f ih =>
    intro l a w hl hfree hr hy hR hB H
    have hS := hA l w hl (getD_both (mem_ready.1 hr).1) hR hB
    refine ⟨fun h => (by rw [h] at hr; cases hr), fun j hj => ?_⟩
    by_cases e : j = i
    · subst e; exact hy.wpOp hi hS ⟨⟨hR, fun q => hB (by rw [getD_set_ne false him] at q; exact q)⟩, H⟩
    · obtain ⟨hju, oj, hoj, hall⟩ := mem_ready.1 hj
      have hiu := (mem_ready.1 hr).1
      have hno : ∀ e ∈ oj.after, Region.binds md e = true → e.on ≠ i := fun e he hb heq => by
        have q := hall e he hb
        rw [heq, getD_both hiu] at q
        cases q
      refine wpOp_mono ?_ (wpOp_putIf hoj (hfree j oj hoj e hju hno) (fun cs b => hsel i oi cs b hi) (fun cs b => hsel j oj cs b hoj) hQ hy (H.2 j (ready_mono hj e)))
      rintro a' w' ⟨y, ⟨r1, r2⟩, H'⟩
      rw [Array.setIfInBounds_comm _ _ (Ne.symm e)] at r2 H'
      have r3 : (l.setIfInBounds j true).getD m false = false → B w' := fun q => r2 (by rw [getD_set_ne false him]; exact q)
      refine ⟨⟨r1, r3⟩, ih _ a' w' (hl.set hj) (fun k ok hk hki hun hn => hfree k ok hk hki ?_ hn) (ready_mono hr (Ne.symm e)) y r1 r3 H'⟩
      by_cases q : j = k
      · subst q; exact hju
      · rw [getD_set_ne true q] at hun; exact hun

/-- Take number i first: it may read what the last operation writes. -/
theorem wpAnyT_take {i : Nat} {oi : Oper} {v : Value} {f : Nat} {l : Array Bool} {a : Act} {w : World} (hi : ops[i]? = some oi)
    (hs : Region.noSelect ops = true) (hl : shutB md ops l = true) (hf : Region.free md ops l i = true) (hr : (Region.ready md ops l).contains i = true) (him : decide (i ≠ m) = true) (hA : (waits md ops ops.size [i]).contains m = true)
    (hQ : ∀ c a w, Q (.panic c) (a.put oi.dst v) w → Q (.panic c) a w) (hy : YieldsIf P ops (fun w => R w ∧ B w) oi v a) (hS : R w ∧ B w)
    (h : wpAnyT P md ops Q m R B f (l.setIfInBounds i true) (a.put oi.dst v) w) : wpAnyT P md ops Q m R B (f + 1) l a w :=
  takeT hi (Region.noSelect_spec hs) hQ (of_decide_eq_true him) (fun l' w' hl' hu h1 h2 => ⟨h1, h2 (waits_un hl' ops.size [i] (fun k hk => by rw [List.mem_singleton.1 hk]; exact hu) m (by simpa using hA))⟩) f l a w (shut_of hl) (Region.free_spec hi hf) (by simpa using hr) hy hS.1 (fun _ => hS.2) h
/-- Take number i first: it reads nothing of that. -/
theorem wpAnyT_takeR {i : Nat} {oi : Oper} {v : Value} {f : Nat} {l : Array Bool} {a : Act} {w : World} (hi : ops[i]? = some oi)
    (hs : Region.noSelect ops = true) (hl : shutB md ops l = true) (hf : Region.free md ops l i = true) (hr : (Region.ready md ops l).contains i = true) (him : decide (i ≠ m) = true)
    (hQ : ∀ c a w, Q (.panic c) (a.put oi.dst v) w → Q (.panic c) a w) (hy : YieldsIf P ops R oi v a) (hR : R w) (hB : B w)
    (h : wpAnyT P md ops Q m R B f (l.setIfInBounds i true) (a.put oi.dst v) w) : wpAnyT P md ops Q m R B (f + 1) l a w :=
  takeT hi (Region.noSelect_spec hs) hQ (of_decide_eq_true him) (fun _ _ _ _ h1 _ => h1) f l a w (shut_of hl) (Region.free_spec hi hf) (by simpa using hr) hy hR (fun _ => hB) h

/-- Only number i may come up. -/
theorem wpAnyT_one {i : Nat} {o : Oper} {f : Nat} {l : Array Bool} {a : Act} {w : World} (hr : Region.ready md ops l = [i]) (ho : ops[i]? = some o)
    (h : ∀ K' : Act → World → Prop, (∀ a' w', R w' → ((l.setIfInBounds i true).getD m false = false → B w') → wpAnyT P md ops Q m R B f (l.setIfInBounds i true) a' w' → K' a' w') →
      if Region.wanted o (yielded ops a.tmps) = true then Oper.wp P o a w K' Q else K' (a.put o.dst undef) w) : wpAnyT P md ops Q m R B (f + 1) l a w :=
  ⟨fun h0 => (by rw [hr] at h0; cases h0), fun j hj => by
    rw [hr] at hj
    obtain rfl := List.mem_singleton.1 hj
    exact wpOp_step ho (fun K' hK => h K' (fun a' w' h1 h2 h3 => hK a' w' ⟨⟨h1, h2⟩, h3⟩))⟩
theorem wpAnyT_done {l : Array Bool} {a : Act} {w : World} (hr : Region.ready md ops l = []) (h : Q .normal a w) : ∀ f, wpAnyT P md ops Q m R B f l a w
  | 0 => ⟨hr, h⟩
  | _ + 1 => ⟨fun _ => h, by rw [hr]; simp⟩

/-- The beginning, in a function. -/
theorem wp_regionT {id : Nat} {a : Act} {w : World} (hm : P.follows .mixedOrders = true) (h : wpAnyT P .any ops Q m R B ops.size (Array.replicate ops.size false) a w.drew) : (Code.region id ops true).wp P Q a w :=
  wp_region_any hm (wpAny_of_T _ _ _ _ h)

end
end Go.Proofs.Ytoibbnkpfplmbaa
