/- Contracts: all. -/
import Derived.Test.YtkghjaodnkjmoaaNr14
namespace Go.Proofs.Ytkghjaodnkjmoaa
open Go.RowKit Go.Shelf Go.MapKept Go.ChangeMaps
set_option linter.unusedVariables false

theorem len_few {l : List Nat} {n : Nat} (h : l.Nodup) (hn : ∀ i ∈ l, i < n) : l.length ≤ n := by
  have hp : l.Perm ((List.range n).filter fun i => decide (i ∈ l)) := by
    rw [List.perm_ext_iff_of_nodup h (List.nodup_range.filter _)]
    intro i
    simp only [List.mem_filter, List.mem_range, decide_eq_true_eq]
    exact ⟨fun hi => ⟨hn i hi, hi⟩, fun hi => hi.2⟩
  have := List.length_filter_le (fun i => decide (i ∈ l)) (List.range n)
  rw [hp.length_eq]
  simpa using this
section
variable (X Y : Nat → Int)
theorem Dn.nodupAll {n : Nat} {es : Array MapEntry} {clock : Nat} {seen : Array Nat} {ds : List MapEntry} {f : Int → Int → Option Value} (h : Dn n es seen ds) (M : Mp es clock f) : (ds.flatMap (kgrp X Y n)).Nodup := by
  have hst := (stamped_iff es clock).1 M.stamped
  rw [List.Nodup, List.pairwise_flatMap]
  refine ⟨fun x hx => ?_, ?_⟩
  · obtain ⟨a, b, _, _, e, _⟩ := M.key x (h.mem x hx)
    rw [kgrp_pk X Y e]
    exact List.nodup_range.filter _
  · have hnd : ds.Pairwise (fun x y => x.born ≠ y.born) := by
      have := h.nodup
      rw [List.Nodup, List.pairwise_map] at this
      exact this
    refine hnd.imp_of_mem ?_
    intro x y hx hy hne i hi j hj e
    subst e
    obtain ⟨a, b, _, _, e1, _⟩ := M.key x (h.mem x hx)
    obtain ⟨a', b', _, _, e2, _⟩ := M.key y (h.mem y hy)
    rw [kgrp_pk X Y e1] at hi
    rw [kgrp_pk X Y e2] at hj
    obtain ⟨_, q1, q2⟩ := mem_grp.1 hi
    obtain ⟨_, q3, q4⟩ := mem_grp.1 hj
    have : x = y := entry_eq_of_key hst.2.2 (h.mem x hx) (h.mem y hy) (by rw [e1, e2, ← q1, ← q2, q3, q4])
    exact hne (by rw [this])
theorem Dn.few {n : Nat} {es : Array MapEntry} {clock : Nat} {seen : Array Nat} {ds : List MapEntry} {f : Int → Int → Option Value} (h : Dn n es seen ds) (M : Mp es clock f) : (ds.flatMap (kgrp X Y n)).length ≤ n := by
  refine len_few (h.nodupAll X Y M) fun i hi => ?_
  obtain ⟨x, hx, hix⟩ := List.mem_flatMap.1 hi
  obtain ⟨a, b, _, _, e, _⟩ := M.key x (h.mem x hx)
  rw [kgrp_pk X Y e] at hix
  exact (mem_grp.1 hix).1

/-- The range over an index's map, on its way. -/
structure Wk (w : World) (m n : Nat) (v : Value) (ds : List MapEntry) (wr : World) : Prop where
  below : Below w.heap.size w wr
  size : w.heap.size + 1 ≤ wr.heap.size
  it : ∃ es clock seen f, w.heap[m]? = some (.map es clock) ∧ Mp es clock f ∧ (∀ a b, grp X Y n a b = [] → f a b = none) ∧ (∀ a b, grp X Y n a b ≠ [] → ∃ A c, f a b = some (.slice A (grp X Y n a b).length c) ∧ Es X Y w A (grp X Y n a b)) ∧ wr.heap[w.heap.size]? = some (.mapIter (some m) clock seen clock) ∧ Dn n es seen ds
  row : Re X Y wr (w.heap.size + 1) v (ds.flatMap (kgrp X Y n))
theorem Wk.start {w : World} {p n : Nat} (h : Ix X Y w p n) : ∃ m, w.cell? ⟨p, 0, none⟩ = some (.map (some m)) ∧ (Instr.range 54 (.map (some m))).run Try.prog w = .ok (.pointer (some ⟨w.heap.size, 0, none⟩)) (w.alloc (.mapIter (some m) (match w.heap[m]? with | some (.map _ c) => c | _ => 0) #[] (match w.heap[m]? with | some (.map _ c) => c | _ => 0))) ∧
    Wk X Y w m n (.slice none 0 0) [] (w.alloc (.mapIter (some m) (match w.heap[m]? with | some (.map _ c) => c | _ => 0) #[] (match w.heap[m]? with | some (.map _ c) => c | _ => 0))) := by
  obtain ⟨lt, m, es, clock, f, h0, hm, M, h1, h2⟩ := h
  refine ⟨m, h0, ?_, below_box _, by simp, ⟨es, clock, #[], f, hm, M, h1, fun a b hab => ?_, ?_, Dn.nil n es⟩, Re.nil X Y _ _⟩
  · rw [run_range_map w _ _ _ m es clock Try.underlying54 hm]
    simp only [hm]
  · obtain ⟨A, c, e, q1, q2, q3⟩ := h2 a b hab
    exact ⟨A, c, e, q3⟩
  · simp only [hm]
    exact World.alloc_heap_new w _
theorem rl_eq {w : World} {m r : Nat} {es : Array MapEntry} {clock : Nat} {seen : Array Nat} {a b : Nat} {o : Option Nat} (hm : w.heap[m]? = some (.map es clock)) (hr : w.heap[r]? = some (.mapIter o a seen b)) : w.rangeLeft m r = (leftOf es seen).size := by
  simp only [World.rangeLeft, hm, hr]
/-- A step: all have come, or one more comes. -/
theorem Wk.step {w wr : World} {m n : Nat} {v : Value} {ds : List MapEntry} (ty : TypeId) (h : Wk X Y w m n v ds wr) :
    ((Instr.next (.pointer (some ⟨w.heap.size, 0, none⟩)) false ty).run Try.prog wr = .ok (.tuple #[.bool false]) wr ∧ (ds.flatMap (kgrp X Y n)).Perm (List.range n)) ∨
    ∃ (k : Value) (A : Option Addr) (c : Nat) (g : List Nat) (e : MapEntry) (w1 : World), (Instr.next (.pointer (some ⟨w.heap.size, 0, none⟩)) false ty).run Try.prog wr = .ok (.tuple #[.bool true, k, .slice A g.length c]) w1 ∧ (Instr.entry (.pointer (some ⟨w.heap.size, 0, none⟩))).run Try.prog w1 = .ok (.tuple #[k, .slice A g.length c]) w1 ∧
      0 < g.length ∧ (ds.flatMap (kgrp X Y n)).length + g.length ≤ n ∧ Es X Y w1 A g ∧ Re X Y w1 (w.heap.size + 1) v (ds.flatMap (kgrp X Y n)) ∧ w.heap.size + 1 ≤ w1.heap.size ∧
      ∀ (v2 : Value) (w2 : World), Re X Y w2 (w.heap.size + 1) v2 (ds.flatMap (kgrp X Y n) ++ g) → Ext w1 v w2 v2 → Wk X Y w m n v2 (ds ++ [e]) w2 ∧ w2.rangeLeft m w.heap.size < wr.rangeLeft m w.heap.size := by
  obtain ⟨below, size, ⟨es, clock, seen, f, hm, M, h1, h2, hr, D⟩, row⟩ := h
  have hst := (stamped_iff es clock).1 M.stamped
  have hml := (Array.getElem?_eq_some_iff.1 hm).1
  have hmr : wr.heap[m]? = some (.map es clock) := (below.block m hml).trans hm
  have hne : m ≠ w.heap.size := by omega
  rcases run_next_at (P := Try.prog) wr ty w.heap.size m clock clock seen es clock hr hmr hst.1 (Nat.le_refl _) with ⟨h0, hrun⟩ | ⟨e, he, w0, hw0, hrun⟩
  · exact .inl ⟨hrun, D.all X Y M (fun a b hab => by obtain ⟨A, c, e, _⟩ := h2 a b hab; exact ⟨_, e⟩) (all_seen es seen h0)⟩
  · right
    obtain ⟨heM, hes⟩ := mem_left he
    obtain ⟨a, b, ka, kb, ek, hf⟩ := M.key e heM
    have hg : grp X Y n a b ≠ [] := fun hq => by rw [h1 a b hq] at hf; cases hf
    obtain ⟨A, c, ev, hE⟩ := h2 a b hg
    have ev' : e.val = .slice A (grp X Y n a b).length c := by rw [hf] at ev; exact Option.some.inj ev
    have hr0 : w0.heap[w.heap.size]? = some (.mapIter (some m) clock seen clock) := by rcases hw0 with rfl | rfl <;> exact hr
    obtain ⟨w1, hw1⟩ : ∃ w1, setBlock w0 w.heap.size (.mapIter (some m) clock (seen.push e.born) clock) = w1 := ⟨_, rfl⟩
    have b0 : Below wr.heap.size wr w0 := by rcases hw0 with rfl | rfl; exact Below.refl _ _; exact (Below.refl _ _).drew
    have s0 : w0.heap.size = wr.heap.size := by rcases hw0 with rfl | rfl <;> rfl
    have g1 : w0.grownBy w1 (some w.heap.size) := by rw [← hw1]; exact setBlock_grown _ _ _
    have s1 : w1.heap.size = w0.heap.size := by rw [← hw1]; simp [setBlock]
    have hr1 : w1.heap[w.heap.size]? = some (.mapIter (some m) clock (seen.push e.born) clock) := by have hl0 : w.heap.size < w0.heap.size := (by omega); rw [← hw1]; simp [setBlock, hl0]
    have B1 : Below w.heap.size w w1 := (below.trans (b0.mono below.size)).grown g1 (Nat.le_trans below.size (by omega)) (fun r er => by injection er with er; omega)
    have hm1 : w1.heap[m]? = some (.map es clock) := (B1.block m hml).trans hm
    have R1 : Re X Y w1 (w.heap.size + 1) v (ds.flatMap (kgrp X Y n)) := by
      refine (row.keep X Y b0).kept X Y g1 ?_
      cases hv : v.ownBlock with
      | none => exact .inl rfl
      | some k => exact .inr fun e2 => by injection e2 with e2; have := (row.lt X Y k hv).1; omega
    have D1 := D.next heM hes
    have hfm : ((ds ++ [e]).flatMap (kgrp X Y n)) = ds.flatMap (kgrp X Y n) ++ grp X Y n a b := by
      rw [List.flatMap_append, List.flatMap_singleton, kgrp_pk X Y ek]
    refine ⟨e.key, A, c, grp X Y n a b, e, w1, by rw [hrun, ev', hw1], ?_, ?_, ?_, hE.keep X Y B1, R1, by omega, ?_⟩
    · rw [run_entry_at w1 w.heap.size m clock seen es clock e hr1 hm1 heM hst.2.1, ev']
    · cases hq : grp X Y n a b with
      | nil => exact absurd hq hg
      | cons _ _ => simp
    · have := D1.few X Y M
      rw [hfm, List.length_append] at this
      exact this
    · intro v2 w2 R2 E2
      have hown : ∀ r, v.ownBlock = some r → w.heap.size + 1 ≤ r := fun r er => (R1.lt X Y r er).1
      have B2 : Below w.heap.size w w2 := B1.grown E2.grown B1.size (fun r er => by have := hown r er; omega)
      have hr2 : w2.heap[w.heap.size]? = some (.mapIter (some m) clock (seen.push e.born) clock) := (E2.grown.block _ (by omega) (fun er => by have := hown _ er.symm; omega)).trans hr1
      have hm2 : w2.heap[m]? = some (.map es clock) := (B2.block m hml).trans hm
      refine ⟨⟨B2, by have := E2.grown.size; omega, ⟨es, clock, _, f, hm, M, h1, h2, hr2, D1⟩, by rw [hfm]; exact R2⟩, ?_⟩
      rw [rl_eq hm2 hr2, rl_eq hmr hr]
      exact left_shrinks es seen e he

/-- All entries come back, in the order of their indexes. -/
def RetAll (n : Nat) (w : World) (e : Ending) (w' : World) : Prop := ∃ A c, e = .returned (.slice A n c) ∧ n ≤ c ∧ c ≤ maxLen ∧ Es X Y w' A (List.range n) ∧ Below w.heap.size w w'
set_option maxRecDepth 100000 in
set_option maxHeartbeats 4000000 in
theorem all_any (p n : Nat) (w : World) (hI : Ix X Y w p n) (hn : n ≤ 256) :
    Calls Try.prog 24 #[.pointer (some ⟨p, 0, none⟩)] w (RetAll X Y n w) := by
  obtain ⟨m, h0, hrun, hW⟩ := Wk.start X Y hI
  have HRun := Lib.hid hrun
  have HW := Lib.hid hW
  clear hrun hW hI
  generalize w.alloc (.mapIter (some m) (match w.heap[m]? with | some (.map _ c) => c | _ => 0) #[] (match w.heap[m]? with | some (.map _ c) => c | _ => 0)) = V at *
  go_enter Try.func24, Try.ntmps24
  go_wp2_with (refine wpList_range HRun.out rfl rfl rfl ?_)
  clear h0 HRun
  go_simp
  go_loopw [3] (fun kv wr => ∃ ds, Hid (Wk X Y w m n kv ds wr)) (fun _ wr => wr.rangeLeft m w.heap.size)
  case atStart => exact ⟨[], HW.out⟩
  case round =>
    obtain ⟨ds, hW⟩ := hrel
    clear HW
    rcases Wk.step X Y 4 hW.out with ⟨hrun, hp⟩ | ⟨k, A, c, g, e, w1, hrun, hent, hg0, hgl, hE, hR, hsz, hst⟩
    · have HRun := Lib.hid hrun
      have HP := Lib.hid hp
      have hp' := hp
      clear hrun hp
      have SE := Lib.hid (sort_ents X Y (w.heap.size + 1) _ _ wr hW.out.row (by rw [hp'.length_eq]; simp; omega))
      go_wp2_with (refine wpList_next HRun.out rfl rfl rfl ?_)
      refine SE.out.mono ?_
      rintro e w2 ⟨rfl, l', q1, q2, q3, q4⟩
      have el : l' = List.range n := List.Perm.eq_of_pairwise (le := fun a b => a ≤ b) (fun a b _ _ h1 h2 => Nat.le_antisymm h1 h2) q2 (List.pairwise_lt_range.imp fun h => Nat.le_of_lt h) (q1.trans HP.out)
      subst el
      have HB : Hid (Below w.heap.size w w2) := hW.out.below.grown q4 hW.out.below.size (fun r er => by have := (hW.out.row.lt X Y r er).1; omega)
      obtain ⟨A, c, rfl, r1, r2, r3⟩ := q3.es X Y
      have HF : Hid (n ≤ c ∧ c ≤ maxLen ∧ Es X Y w2 A (List.range n)) := ⟨by simpa using r1, r2, r3⟩
      have HLn : Hid ((List.range n).length = n) := List.length_range
      clear q1 q2 q3 q4 r1 r2 r3 SE HP hW
      generalize (List.range n).length = L at *
      go_wp2
      go_ret
      exact ⟨A, c, by rw [HLn.out]; rfl, HF.out.1, HF.out.2.1, HF.out.2.2, HB.out⟩
    · have HRun := Lib.hid hrun
      have HEnt := Lib.hid hent
      have HE := Lib.hid hE
      have HR := Lib.hid hR
      have HSt := Lib.hid hst
      have HG := Lib.hid hg0
      have HL : Hid ((ds.flatMap (kgrp X Y n)).length + g.length ≤ 1000000) := by show _ ≤ _; omega
      have HSz := Lib.hid hsz
      clear hrun hent hE hR hst hg0 hgl hsz
      go_wp2_with (first
        | (refine wpList_next HRun.out rfl rfl rfl ?_)
        | (refine wpList_entry HEnt.out rfl rfl rfl ?_)
        | (at_builtin; refine append_ents X Y rfl (.tmp 15) (.tmp 16) rfl (w.heap.size + 1) _ g g.length c _ A w1 rfl HR.out rfl rfl HE.out HG.out HL.out HSz.out ?_; intro v2 w2 hr2 hE2; obtain ⟨hW2, hlt⟩ := HSt.out v2 w2 hr2 hE2; (have HW2 := Lib.hid hW2); (have HLt := Lib.hid hlt); clear hr2 hE2 hW2 hlt))
      exact ⟨⟨_, HW2⟩, HLt.out⟩
end
end Go.Proofs.Ytkghjaodnkjmoaa
