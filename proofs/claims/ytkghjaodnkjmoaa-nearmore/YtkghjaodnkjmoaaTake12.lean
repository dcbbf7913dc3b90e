/- A region that draws its order, inside a fence: loads may be taken first where nobody but operation m, and what comes behind it, turns what they read. -/
import Derived.Test.YtkghjaodnkjmoaaSeq12
import Derived.Test.YtkghjaodnkjmoaaStill8
import Derived.OrdersHeld
import Derived.Deep.RegionHeld3
import Derived.OrdersIn
namespace Go.Proofs.Ytkghjaodnkjmoaa
open Go.RowKit Go.Shelf
set_option linter.unusedVariables false

section
variable {P : Program} {ops : Array Oper} {md : Region.Mode}
/-- All that waits for one of s, in so many steps. -/
def waits (md : Region.Mode) (ops : Array Oper) : Nat → List Nat → List Nat
  | 0, s => s
  | f + 1, s => waits md ops f ((List.range ops.size).filter fun j => s.contains j || s.any fun k => Region.waitsFor md ops j k)
theorem waits_un {l : Array Bool} (hl : Shut8 md ops l) : ∀ (f : Nat) (s : List Nat), (∀ k ∈ s, l.getD k false = false) → ∀ k ∈ waits md ops f s, l.getD k false = false
  | 0, _, h, k, hk => h k hk
  | f + 1, s, h, k, hk => by
    refine waits_un hl f _ (fun j hj => ?_) k hk
    obtain ⟨-, hj⟩ := List.mem_filter.1 hj
    rw [Bool.or_eq_true] at hj
    rcases hj with hj | hj
    · exact h j (by simpa using hj)
    · obtain ⟨k', hk', hw⟩ := List.any_eq_true.1 hj
      obtain ⟨oj, hoj, e, he, hb, hon⟩ := Region.waitsFor_spec hw
      rcases hlj : l.getD j false with _ | _
      · rfl
      · have h1 := hl j oj hoj hlj e he hb
        rw [hon, h k' hk'] at h1
        cases h1

end

section
variable {F : Fence} {n : Nat} {P : Program} {ops : Array Oper} {Q : Exit → Act → World → Prop} {md : Region.Mode} {m : Nat} {B : World → Prop}
/-- It yields in every world that meets B, and is about to make no call. -/
def YieldsIfF (P : Program) (ops : Array Oper) (B : World → Prop) (o : Oper) (v : Value) (a : Act) : Prop := YieldsIf P ops B o v a ∧ ∀ w, o.about P w a.eval = none
theorem YieldsIfF.wpOpIn {i : Nat} {o : Oper} {v : Value} {a : Act} (hro : F.round = none) (hi : ops[i]? = some o) (hy : YieldsIfF P ops B o v a)
    {K : Act → World → Prop} {w : World} (hS : B w) (h : K (a.put o.dst v) w) : wpOpIn F n P ops Q i K a w := by
  unfold Go.wpOpIn
  simp only [hi]
  have hab : ∀ f, o.about P w a.eval = some f → F.fn f := fun f hf => by rw [hy.2 w] at hf; cases hf
  rcases hy.1 with ⟨hw, hv⟩ | ⟨hw, rfl⟩
  · simp only [hw, if_true, Oper.wpIn, hro, Oper.semAt_none, hv w hS, Oper.uponIn]; exact ⟨hab, h⟩
  · simp only [hw, Bool.false_eq_true, if_false]; exact ⟨hab, h⟩
theorem YieldsIfF.of_same {o : Oper} {v : Value} {a a' : Act} (hy : YieldsIfF P ops B o v a) (he : execOp a'.eval o = execOp a.eval o)
    (hw : Region.wanted o (yielded ops a'.tmps) = Region.wanted o (yielded ops a.tmps)) (hb : ∀ w, o.about P w a'.eval = o.about P w a.eval) : YieldsIfF P ops B o v a' :=
  ⟨hy.1.of_same he hw, fun w => by rw [hb w]; exact hy.2 w⟩
theorem wpOpIn_putIf {j : Nat} {oi oj : Oper} {v : Value} (hro : F.round = none) (hj : ops[j]? = some oj) (hap : oi.apart ops oj = true)
    (hsi : ∀ cs b, oi.op ≠ .select cs b) (hsj : ∀ cs b, oj.op ≠ .select cs b)
    (hQ : ∀ c a w, Q (.panic c) (a.put oi.dst v) w → Q (.panic c) a w) {K : Act → World → Prop} {a : Act} {w : World}
    (hy : YieldsIfF P ops B oi v a) (h : wpOpIn F n P ops Q j K (a.put oi.dst v) w) :
    wpOpIn F n P ops Q j (fun a' w' => YieldsIfF P ops B oi v a' ∧ K (a'.put oi.dst v) w') a w := by
  obtain ⟨h1, h2, h3⟩ := Oper.apart_spec hap
  have keep : ∀ (a : Act), YieldsIfF P ops B oi v a → ∀ u, YieldsIfF P ops B oi v (a.put oj.dst u) := fun a hy u =>
    hy.of_same (execOp_put oi hsi a oj.dst u h3) (wanted_put oi a oj.dst u h3) (fun w => about_put oi w a oj.dst u h3)
  have keepD : ∀ d, YieldsIfF P ops B oi v { a with defers := d :: a.defers } := fun d => hy.of_same rfl rfl (fun _ => rfl)
  unfold wpOpIn at *
  simp only [hj] at *
  rw [wanted_put oj a oi.dst v h1, about_put oj w a oi.dst v h1] at h
  split
  · rename_i hw
    simp only [hw, if_true] at h
    unfold Oper.wpIn at *
    rw [about_put oj w a oi.dst v h1] at h
    refine ⟨h.1, ?_⟩
    have h := h.2
    rw [hro, Oper.semAt_none, execOp_put oj hsj a oi.dst v h1] at h
    rw [hro, Oper.semAt_none]
    generalize (execOp a.eval oj).run P w = r at *
    cases r with
    | ok x w' =>
      cases x <;> simp only [Oper.uponIn] at h ⊢
      case value u => exact ⟨keep a hy u, by rw [← Act.put_comm a v u h2]; exact h⟩
      case skip => exact ⟨keep a hy _, by rw [← Act.put_comm a v undef h2]; exact h⟩
      case defer d =>
        refine ⟨keep _ (keepD d) _, ?_⟩
        rw [← Act.put_comm _ v undef h2, ← Act.put_defers]
        exact h
      case enter f args =>
        refine ⟨h.1, CallsIn.mono h.2 fun e w'' he => ?_⟩
        cases e with
        | returned u => exact ⟨keep a hy u, by rw [← Act.put_comm a v u h2]; exact he⟩
        | panicked c => exact hQ _ _ _ he
        | outgrown => exact he
      case row row args => exact ⟨h.1, RowsIn.mono h.2 fun u w'' he => ⟨keep a hy u, by rw [← Act.put_comm a v u h2]; exact he⟩⟩
      case round l f tmps assign body =>
        refine ⟨h.1, RoundIn.mono h.2 fun e w'' he => ?_⟩
        cases e with
        | returned u => exact ⟨keep a hy u, by rw [← Act.put_comm a v u h2]; exact he⟩
        | panicked c => exact hQ _ _ _ he
        | outgrown => exact he
    | halt x w' =>
      cases x <;> simp only [Oper.uponIn] at h ⊢
      case panic u => exact hQ _ _ _ h
  · rename_i hw
    simp only [hw] at h
    exact ⟨h.1, keep a hy _, by rw [← Act.put_comm a v undef h2]; exact h.2⟩

/-- Whatever order is picked from here on; B holds as long as operation m has not come up. -/
def wpAnyF (F : Fence) (n : Nat) (P : Program) (md : Region.Mode) (ops : Array Oper) (Q : Exit → Act → World → Prop) (m : Nat) (B : World → Prop) : Nat → Array Bool → Act → World → Prop
  | 0, l, a, w => Region.ready md ops l = [] ∧ Q .normal a w
  | f + 1, l, a, w => (Region.ready md ops l = [] → Q .normal a w) ∧
    ∀ i ∈ Region.ready md ops l, wpOpIn F n P ops Q i (fun a' w' => ((l.setIfInBounds i true).getD m false = false → B w') ∧ wpAnyF F n P md ops Q m B f (l.setIfInBounds i true) a' w') a w
theorem wpAnyIn_of_F : ∀ (f : Nat) (l : Array Bool) (a : Act) (w : World), wpAnyF F n P md ops Q m B f l a w → wpAnyIn F n P md ops Q f l a w
  | 0, _, _, _, h => h
  | f + 1, _, _, _, h => ⟨h.1, fun i hi => wpOpIn_mono (fun a' w' h' => wpAnyIn_of_F f _ a' w' h'.2) (h.2 i hi)⟩

theorem takeF {i : Nat} {oi : Oper} {v : Value} (hro : F.round = none) (hi : ops[i]? = some oi) (hsel : ∀ (j : Nat) (o : Oper) cs b, ops[j]? = some o → o.op ≠ .select cs b)
    (hQ : ∀ c a w, Q (.panic c) (a.put oi.dst v) w → Q (.panic c) a w) (him : i ≠ m) (hA : ∀ l w, Shut8 md ops l → l.getD i false = false → (l.getD m false = false → B w) → B w) :
    ∀ (f : Nat) (l : Array Bool) (a : Act) (w : World), Shut8 md ops l →
      (∀ j oj, ops[j]? = some oj → j ≠ i → l.getD j true = false → (∀ e ∈ oj.after, Region.binds md e = true → e.on ≠ i) → oi.apart ops oj = true) →
      i ∈ Region.ready md ops l → YieldsIfF P ops B oi v a → (l.getD m false = false → B w) →
      wpAnyF F n P md ops Q m B f (l.setIfInBounds i true) (a.put oi.dst v) w → wpAnyF F n P md ops Q m B (f + 1) l a w := by
  intro f
  induction f with
  | zero =>
    intro l a w hl _ hr hy hB H
    have hS := hA l w hl (getD_both (mem_ready.1 hr).1) hB
    refine ⟨fun h => (by rw [h] at hr; cases hr), fun j hj => ?_⟩
    by_cases e : j = i
    · subst e; exact hy.wpOpIn hro hi hS ⟨fun q => hB (by rw [getD_set_ne false him] at q; exact q), H⟩
    · have q := ready_mono hj e
      rw [H.1] at q
      cases q
  | succ f ih =>
    intro l a w hl hfree hr hy hB H
    have hS := hA l w hl (getD_both (mem_ready.1 hr).1) hB
    refine ⟨fun h => (by rw [h] at hr; cases hr), fun j hj => ?_⟩
    by_cases e : j = i
    · subst e; exact hy.wpOpIn hro hi hS ⟨fun q => hB (by rw [getD_set_ne false him] at q; exact q), H⟩
    · obtain ⟨hju, oj, hoj, hall⟩ := mem_ready.1 hj
      have hiu := (mem_ready.1 hr).1
      have hno : ∀ e ∈ oj.after, Region.binds md e = true → e.on ≠ i := fun e he hb heq => by
        have q := hall e he hb
        rw [heq, getD_both hiu] at q
        cases q
      refine wpOpIn_mono ?_ (wpOpIn_putIf hro hoj (hfree j oj hoj e hju hno) (fun cs b => hsel i oi cs b hi) (fun cs b => hsel j oj cs b hoj) hQ hy (H.2 j (ready_mono hj e)))
      rintro a' w' ⟨y, r2, H'⟩
      rw [Array.setIfInBounds_comm _ _ (Ne.symm e)] at r2 H'
      have r3 : (l.setIfInBounds j true).getD m false = false → B w' := fun q => r2 (by rw [getD_set_ne false him]; exact q)
      refine ⟨r3, ih _ a' w' (hl.set hj) (fun k ok hk hki hun hn => hfree k ok hk hki ?_ hn) (ready_mono hr (Ne.symm e)) y r3 H'⟩
      by_cases q : j = k
      · subst q; exact hju
      · rw [getD_set_ne true q] at hun; exact hun

/-- Take number i first. -/
theorem wpAnyF_take {i : Nat} {oi : Oper} {v : Value} {f : Nat} {l : Array Bool} {a : Act} {w : World} (hro : F.round = none) (hi : ops[i]? = some oi)
    (hs : Region.noSelect ops = true) (hl : shutB md ops l = true) (hf : Region.free md ops l i = true) (hr : (Region.ready md ops l).contains i = true) (him : decide (i ≠ m) = true) (hA : (waits md ops ops.size [i]).contains m = true)
    (hQ : ∀ c a w, Q (.panic c) (a.put oi.dst v) w → Q (.panic c) a w) (hy : YieldsIf P ops B oi v a) (hab : ∀ w, oi.about P w a.eval = none) (hS : B w)
    (h : wpAnyF F n P md ops Q m B f (l.setIfInBounds i true) (a.put oi.dst v) w) : wpAnyF F n P md ops Q m B (f + 1) l a w :=
  takeF hro hi (Region.noSelect_spec hs) hQ (of_decide_eq_true him) (fun l' w' hl' hu h2 => h2 (waits_un hl' ops.size [i] (fun k hk => by rw [List.mem_singleton.1 hk]; exact hu) m (by simpa using hA))) f l a w (shut_of hl) (Region.free_spec hi hf) (by simpa using hr) ⟨hy, hab⟩ (fun _ => hS) h
/-- Only number i may come up. -/
theorem wpAnyF_one {i : Nat} {o : Oper} {f : Nat} {l : Array Bool} {a : Act} {w : World} (hr : Region.ready md ops l = [i]) (ho : ops[i]? = some o)
    (h : ∀ K' : Act → World → Prop, (∀ a' w', ((l.setIfInBounds i true).getD m false = false → B w') → wpAnyF F n P md ops Q m B f (l.setIfInBounds i true) a' w' → K' a' w') →
      if Region.wanted o (yielded ops a.tmps) = true then Oper.wpIn F n P o a w K' Q else (∀ f, o.about P w a.eval = some f → F.fn f) ∧ K' (a.put o.dst undef) w) : wpAnyF F n P md ops Q m B (f + 1) l a w :=
  ⟨fun h0 => (by rw [hr] at h0; cases h0), fun j hj => by
    rw [hr] at hj
    obtain rfl := List.mem_singleton.1 hj
    exact wpOpIn_step ho (fun K' hK => h K' (fun a' w' h2 h3 => hK a' w' ⟨h2, h3⟩))⟩
theorem wpAnyF_done {l : Array Bool} {a : Act} {w : World} (hr : Region.ready md ops l = []) (h : Q .normal a w) : ∀ f, wpAnyF F n P md ops Q m B f l a w
  | 0 => ⟨hr, h⟩
  | _ + 1 => ⟨fun _ => h, by rw [hr]; simp⟩
/-- The beginning. -/
theorem wpIn_regionF {id : Nat} {a : Act} {w : World} (hm : P.follows .mixedOrders = true)
    (h : wpAnyF F n P .any ops Q m B ops.size (Array.replicate ops.size false) a w.drew) : (Code.region id ops true).wpIn F n P Q a w :=
  wpIn_region_any hm (wpAnyIn_of_F _ _ _ _ h)
end
end Go.Proofs.Ytkghjaodnkjmoaa
