/- Contracts: all. -/
import Derived.Test.YtkghjaodnkjmoaaNr13
import Derived.Maps.RangeWalk
namespace Go.Proofs.Ytkghjaodnkjmoaa
open Go.RowKit Go.Shelf Go.MapKept Go.ChangeMaps
set_option linter.unusedVariables false

section
variable {ops : Array Oper} {rest : List Oper} {o : Oper} {a : Act} {Q : Exit → Act → World → Prop}
theorem wpList_next {w w' : World} {x : Operand} {u v : Value} (hl : (Instr.next u false o.type).run Try.prog w = .ok v w') (hgd : o.guard = none) (ho : o.op = .next x false) (hx : a.eval x = u)
    (h : wpList Try.prog ops Q rest (a.put o.dst v) w') : wpList Try.prog ops Q (o :: rest) a w := by
  refine wpList_plain hgd fun K hK => ?_
  unfold Oper.wp execOp
  simp only [ho, hx, Sem.run_bind, Sem.run_pure, Result.andThen_ok, hl]
  exact hK _ _ h
theorem wpList_entry {w : World} {x : Operand} {u v : Value} (hl : (Instr.entry u).run Try.prog w = .ok v w) (hgd : o.guard = none) (ho : o.op = .entry x) (hx : a.eval x = u)
    (h : wpList Try.prog ops Q rest (a.put o.dst v) w) : wpList Try.prog ops Q (o :: rest) a w := by
  refine wpList_plain hgd fun K hK => ?_
  unfold Oper.wp execOp
  simp only [ho, hx, Sem.run_bind, Sem.run_pure, Result.andThen_ok, hl]
  exact hK _ _ h
theorem wpList_range {w w' : World} {t : TypeId} {x : Operand} {u v : Value} (hl : (Instr.range t u).run Try.prog w = .ok v w') (hgd : o.guard = none) (ho : o.op = .range t x) (hx : a.eval x = u)
    (h : wpList Try.prog ops Q rest (a.put o.dst v) w') : wpList Try.prog ops Q (o :: rest) a w := by
  refine wpList_plain hgd fun K hK => ?_
  unfold Oper.wp execOp
  simp only [ho, hx, Sem.run_bind, Sem.run_pure, Result.andThen_ok, hl]
  exact hK _ _ h
end

section
variable (X Y : Nat → Int)
/-- Who lies in an entry's square. -/
def kgrp (n : Nat) (x : MapEntry) : List Nat := match x.key with
  | .agg cs => grp X Y n (intOf (cs.getD 0 undef)) (intOf (cs.getD 1 undef))
  | _ => []
theorem kgrp_pk {n : Nat} {x : MapEntry} {a b : Int} (h : x.key = pk a b) : kgrp X Y n x = grp X Y n a b := by
  unfold kgrp
  rw [h]
  rfl
/-- The entries that have come. -/
structure Dn (n : Nat) (es : Array MapEntry) (seen : Array Nat) (ds : List MapEntry) : Prop where
  mem : ∀ x ∈ ds, x ∈ es.toList
  seen : seen.toList = ds.map (·.born)
  nodup : (ds.map (·.born)).Nodup
theorem Dn.nil (n : Nat) (es : Array MapEntry) : Dn n es #[] [] := ⟨by simp, rfl, by simp⟩
theorem Dn.next {n : Nat} {es : Array MapEntry} {seen : Array Nat} {ds : List MapEntry} (h : Dn n es seen ds) {e : MapEntry} (he : e ∈ es.toList) (hs : seen.contains e.born = false) : Dn n es (seen.push e.born) (ds ++ [e]) := by
  refine ⟨fun x hx => ?_, by simp [h.seen], ?_⟩
  · rcases List.mem_append.1 hx with hx | hx
    · exact h.mem x hx
    · simp at hx; subst hx; exact he
  · rw [List.map_append, List.map_singleton]
    refine List.nodup_append.2 ⟨h.nodup, by simp, fun a ha b hb e1 => ?_⟩
    simp at hb
    subst hb e1
    rw [← h.seen] at ha
    have : seen.contains e.born = true := by simpa using ha
    rw [hs] at this
    cases this
/-- Where all have come, all spots have. -/
theorem Dn.all {n : Nat} {es : Array MapEntry} {clock : Nat} {seen : Array Nat} {ds : List MapEntry} {f : Int → Int → Option Value} (h : Dn n es seen ds) (M : Mp es clock f) (h1 : ∀ a b, grp X Y n a b ≠ [] → ∃ v, f a b = some v) (h0 : ∀ x ∈ es.toList, seen.contains x.born = true) :
    (ds.flatMap (kgrp X Y n)).Perm (List.range n) := by
  have hst := (stamped_iff es clock).1 M.stamped
  have hin : ∀ x ∈ es.toList, x ∈ ds := fun x hx => by
    have := h0 x hx
    have hb : x.born ∈ ds.map (·.born) := by rw [← h.seen]; simpa using this
    obtain ⟨y, hy, e⟩ := List.mem_map.1 hb
    rw [← born_inj hst.2.1 (h.mem y hy) hx e]
    exact hy
  rw [List.perm_ext_iff_of_nodup ?_ List.nodup_range]
  · intro i
    constructor
    · intro hi
      obtain ⟨x, hx, hix⟩ := List.mem_flatMap.1 hi
      obtain ⟨a, b, _, _, e, _⟩ := M.key x (h.mem x hx)
      rw [kgrp_pk X Y e] at hix
      simpa using (mem_grp.1 hix).1
    · intro hi
      have hi' : i < n := by simpa using hi
      have hg : i ∈ grp X Y n (sqv (X i)) (sqv (Y i)) := mem_grp.2 ⟨hi', rfl, rfl⟩
      obtain ⟨v, hv⟩ := h1 _ _ (fun e => by rw [e] at hg; simp at hg)
      obtain ⟨x, hx, e⟩ := M.has _ _ v hv
      exact List.mem_flatMap.2 ⟨x, hin x hx, by rw [kgrp_pk X Y e]; exact hg⟩
  · rw [List.Nodup, List.pairwise_flatMap]
    refine ⟨fun x hx => ?_, ?_⟩
    · obtain ⟨a, b, _, _, e, _⟩ := M.key x (h.mem x hx)
      rw [kgrp_pk X Y e]
      exact List.nodup_range.filter _
    · have hnd : ds.Pairwise (fun x y => x.born ≠ y.born) := by
        have := h.nodup
        rw [List.Nodup, List.pairwise_map] at this
        exact this
      refine hnd.imp_of_mem ?_
      intro x y hx hy hne i hi j hj e
      subst e
      obtain ⟨a, b, _, _, e1, _⟩ := M.key x (h.mem x hx)
      obtain ⟨a', b', _, _, e2, _⟩ := M.key y (h.mem y hy)
      rw [kgrp_pk X Y e1] at hi
      rw [kgrp_pk X Y e2] at hj
      obtain ⟨_, q1, q2⟩ := mem_grp.1 hi
      obtain ⟨_, q3, q4⟩ := mem_grp.1 hj
      have : x = y := entry_eq_of_key hst.2.2 (h.mem x hx) (h.mem y hy) (by rw [e1, e2, ← q1, ← q2, q3, q4])
      exact hne (by rw [this])
end
end Go.Proofs.Ytkghjaodnkjmoaa
