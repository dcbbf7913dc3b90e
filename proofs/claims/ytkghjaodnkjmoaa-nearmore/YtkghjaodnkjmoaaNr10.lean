/- Contracts: slices.Collect over within's iterator. -/
import Derived.Test.YtkghjaodnkjmoaaNr9
namespace Go.Proofs.Ytkghjaodnkjmoaa
open Go.RowKit Go.Shelf
set_option linter.unusedVariables false
attribute [local go_sem] Oper.semAt_some

section
variable (X Y : Nat → Int)
theorem run_append_ents (ty : TypeId) (base : Nat) (l m : List Nat) (n c : Nat) (v : Value) (A : Option Addr) (w : World) (hown : Re X Y w base v l) (hn : m.length = n) (hE : Es X Y w A m) (hm0 : 0 < m.length) (hmn : l.length + m.length ≤ 1000000) (hbase : base ≤ w.heap.size) :
    ∃ v' w', (Builtin.append_ #[60, 60] ty #[v, .slice A n c]).run Try.prog w = .ok v' w' ∧ Re X Y w' base v' (l ++ m) ∧ Ext w v w' v' := by
  subst hn
  obtain ⟨g, off, rfl, hg, hc⟩ := hE hm0
  obtain ⟨i0, hi, hz0, hz1, hz2⟩ := info_parts Try.infoE
  have hown0 : w.ownsRow base 58 3 v l.length (ens X Y l) := hown
  obtain ⟨v', w', hr, hown', hgr, hwh⟩ := append_where (P := Try.prog) w base 60 ty 58 i0 (.agg #[.int .i64 0, .int .i64 0, .int .i64 0]) 3 24 Try.underlying60 hi hz0 hz1 hz2 rfl (by decide) v l.length (ens X Y l) hown0 ⟨g, off, none⟩ m.length c (ens X Y m) (ens_len X Y m)
    (by intro j u hj; have hh := hc j u hj; unfold Addr.add; split <;> simp_all)
    (fun u hu => ens_one X Y hu) hm0 (by unfold maxLen; omega) (by omega) hbase
  refine ⟨v', w', hr, ?_, hgr, ?_⟩
  · unfold Re
    rw [ens_append, List.length_append]
    exact hown'
  · rcases hwh with e | e
    · exact .inl e
    · exact .inr fun k hk => by rw [e] at hk; injection hk; omega
theorem Re.some1 {w : World} {base : Nat} {v : Value} {l : List Nat} (h : Re X Y w base v l) (h0 : 0 < l.length) : ∃ g k, v = .slice (some ⟨g, 0, none⟩) l.length k := by
  rcases h.2 with ⟨_, hn⟩ | ⟨g, cap, _, hv, _⟩
  · omega
  · exact ⟨g, cap, hv⟩

set_option maxRecDepth 100000 in
set_option maxHeartbeats 4000000 in
theorem appendSeq_any (gx gr gy gn p n : Nat) (x y r : Int) (w wa : World) (hB : Wb w gx gr gy gn p x y r) (hI : Ix X Y wa p n) (hwa : Below wa.heap.size wa w) (hO : oks X Y n) (hn : n ≤ 256) (hx : 0 ≤ x ∧ x ≤ 67108864) (hy : 0 ≤ y ∧ y ≤ 67108864) (hr : 0 ≤ r ∧ r ≤ 134217728) :
    Calls Try.prog 42 #[.slice none 0 0, .func (.func 37) #[] #[.pointer (some ⟨gx, 0, none⟩), .pointer (some ⟨gr, 0, none⟩), .pointer (some ⟨gy, 0, none⟩), .pointer (some ⟨gn, 0, none⟩)]] w fun e w' => ∃ v, e = .returned v ∧ Re X Y w' w.heap.size v (wlist X Y n x y r) ∧ Below w.heap.size w w' := by
  have HSq := Lib.hid (within_seq X Y (fun b => b < w.heap.size) (3 - 1) gx gr gy gn p n x y r w wa (by decide) hB hI hwa (fun b h => Nat.lt_of_lt_of_le h hwa.size) hB.lt (fun b h => h) hO hx hy hr)
  have HWL : Hid ((wlist X Y n x y r).length ≤ 256) := Nat.le_trans (wlist_len X Y n x y r hr.1) hn
  generalize wlist X Y n x y r = wl at *
  have KB := Lib.hid (Kx.new w 60 #[.slice none 0 0])
  have hgx : Hid (gx < w.heap.size) := hB.lt.1
  have HX : Hid ((w.alloc (.cells #[.slice none 0 0] 60)).cell? ⟨gx, 0, none⟩ = some (.int .i64 x)) := kc (below_box _) hB.1
  have HVs : Hid ((w.alloc (.cells #[.slice none 0 0] 60)).heap.size = w.heap.size + 1) := by show _ = _; simp
  clear hI hO hx hy hr hB hwa
  have hn3 : 1 ≤ 3 := by decide
  refine (callsIn_wide (n := 3)).1 ?_
  refine callsIn_of_wp_marks Try.func42 rfl trivial ?_ rfl
  simp only [Try.ntmps42, List.size_toArray, List.length_cons, List.length_nil, Nat.reduceAdd, Nat.reduceSub, Array.replicate_succ, Array.replicate_zero, List.push_toArray, List.append_toArray, List.nil_append, List.cons_append]
  gi_wp2_with fail
  generalize w.alloc (.cells #[.slice none 0 0] 60) = V at *
  refine range12 rfl hn3 (gf := 37) (lb := #[.pointer (some ⟨gx, 0, none⟩), .pointer (some ⟨gr, 0, none⟩), .pointer (some ⟨gy, 0, none⟩), .pointer (some ⟨gn, 0, none⟩)]) rfl trivial (enters_of Try.func37 (by kernel_rfl) rfl)
    HSq.out KB.out.below (fun _ => rfl)
    (Lb w (w.heap.size + 1) gx w.heap.size 60 58 3 (.int .i64 x) (fun q => (wl.take q).length) (fun q => ens X Y (wl.take q))) (fun _ _ => False) (by rw [HVs.out]; exact Lb.abn w (Nat.le_succ _)) ⟨fun _ _ _ h _ => h, fun _ _ _ _ _ h _ _ _ => h⟩ (fun b => b = w.heap.size) ?s0 ?i0
    (fun q a' X' => ∃ g3, E3 X Y X' g3 (wl.getD q 0) ∧ w.heap.size + 1 ≤ g3 ∧ a' = { tmps := #[.slice none 0 0, .func (.func 37) #[] #[.pointer (some ⟨gx, 0, none⟩), .pointer (some ⟨gr, 0, none⟩), .pointer (some ⟨gy, 0, none⟩), .pointer (some ⟨gn, 0, none⟩)], .pointer (some ⟨w.heap.size, 0, none⟩), undef, .slice none 0 0, .pointer (some ⟨g3, 0, none⟩), .func (.func 37) #[] #[.pointer (some ⟨gx, 0, none⟩), .pointer (some ⟨gr, 0, none⟩), .pointer (some ⟨gy, 0, none⟩), .pointer (some ⟨gn, 0, none⟩)], .agg #[.int .i64 ((wl.getD q 0 : Nat) : Int), .int .i64 (X (wl.getD q 0)), .int .i64 (Y (wl.getD q 0))], undef, undef, undef, undef, undef], defers := [] }) ?ax ?assign ?body ?done ?stop
  case s0 =>
    rintro b rfl
    exact ⟨fun h => Nat.lt_irrefl _ h, by have := HVs.out; omega⟩
  case i0 =>
    refine ⟨.slice none 0 0, KB.out.blk, World.ownsRow_nil _ _ _ _, HX.out, KB.out.below, by rw [HVs.out]; exact Nat.le_refl _, ?_⟩
    funext b
    simp [Value.ownBlock]
  case ax =>
    rintro q a' - X' Y' row ⟨g3, hp, hge, e⟩ hg hr
    exact ⟨g3, (hg.block g3 (E3.lt X Y hp) (fun e' => by obtain ⟨_, o, ho, hc⟩ := hr g3 e'.symm; rw [show X'.heap[g3]? = _ from hp] at ho; cases ho; cases hc)).trans hp, hge, e⟩
  case assign =>
    rintro l q S X' K hq i1 hK
    have HK := Lib.hid hK
    have hsz := i1
    obtain ⟨-, -, -, -, -, i5, -⟩ := hsz
    have I5 := Lib.hid i5
    clear i1 hK i5
    obtain ⟨e0, he0⟩ : ∃ e0, wl.getD q 0 = e0 := ⟨_, rfl⟩
    unfold wen
    rw [he0]
    have HE0 := Lib.hid he0
    clear he0
    gi_wp2
    exact HK.out _ _ ((KeepsOthers.alloc X' _).from _) (below_box _) ⟨X'.heap.size, by rw [HE0.out]; exact World.alloc_heap_new X' _, I5.out, by rw [HE0.out]⟩
  case body =>
    rintro l q S a' X' hq hIb ⟨g3, hP, hge, rfl⟩
    obtain ⟨v, i1, i2, i3, i4, i5, i6⟩ := hIb
    dsimp only at i2 i6
    obtain ⟨e0, he0⟩ : ∃ e0, wl.getD q 0 = e0 := ⟨_, rfl⟩
    have HT : Hid (wl.take (q + 1) = wl.take q ++ [e0]) := by rw [← he0]; exact take_at hq
    rw [he0] at hP ⊢
    obtain ⟨c0, c1, c2⟩ := E3.c X Y hP
    have HLq : Hid ((wl.take q).length ≤ 256) := by
      have h2 := HWL.out
      show _ ≤ _
      rw [List.length_take]
      omega
    have hEU : Es X Y (X'.alloc (.cells #[.int .i64 (e0 : Int), .int .i64 (X e0), .int .i64 (Y e0)] 58)) (some ⟨X'.heap.size, 0, none⟩) [e0] := by
      intro _
      refine ⟨X'.heap.size, 0, rfl, by simp, fun j u hj => ?_⟩
      rw [Nat.zero_add, cell_new, ← hj]
      simp [ens]
    obtain ⟨v', W3, hrun, hN, hE⟩ := run_append_ents X Y 60 (w.heap.size + 1) (wl.take q) [e0] 1 1 v _ _ (Re.keep X Y (show Re X Y X' (w.heap.size + 1) v (wl.take q) from i2) (below_box _)) rfl hEU (by simp) (by have := HLq.out; rw [List.length_singleton]; omega) (by simp; omega)
    have hE0 : Ext X' v W3 v' := (Ext.refl X' v).trans (Ext.trans ⟨grownBy_below (below_box _) _, .inl rfl⟩ hE)
    have hw0 := KB.out.lt
    have b3 : W3.heap[w.heap.size]? = some (.cells #[v] 60 (0, 0)) := (hE0.grown.block _ (by omega) (blk_not_row i1 (by decide) i2)).trans i1
    have d0 : X'.cell? ⟨w.heap.size, 0, none⟩ = some v := by rw [cell_of_row X' _ _ _ _ (0, 0) i1]; rfl
    have d3 : W3.cell? ⟨w.heap.size, 0, none⟩ = some v := by rw [cell_of_row W3 _ _ _ _ (0, 0) b3]; rfl
    have f3 : W3.frozen? ⟨w.heap.size, 0, none⟩ = false := frozen_of_row W3 _ _ _ _ b3
    obtain ⟨g', k', rfl⟩ := hN.some1 X Y (by simp)
    have HRun := Lib.hid hrun
    have HP12 : Hid (∀ a, post12 V.heap.size (Lb w (w.heap.size + 1) gx w.heap.size 60 58 3 (.int .i64 x) (fun q => (wl.take q).length) (fun q => ens X Y (wl.take q))) (fun _ _ => False) q S X' .normal a (W3.setCell ⟨w.heap.size, 0, none⟩ (.slice (some ⟨g', 0, none⟩) (wl.take q ++ [e0]).length k'))) := by
      intro a
      rw [HVs.out]
      refine Lb.next (Nat.le_succ _) (Nat.lt_succ_self _) (Nat.le_refl _) (by have := hgx.out; omega) (by have := hgx.out; omega) (by decide) i1 i2 i3 i4 i5 i6 ?_ hE0
      rw [HT.out]
      exact hN
    clear hrun hN hE hE0 i1 i2 i3 i4 i5 i6 b3 hP hEU
    gi_wp2_with (gi_at_builtin; refine append_inF HRun.out rfl rfl rfl rfl ?_)
    have h12 := HP12.out
    simp only [List.length_append, List.length_singleton, List.length_take] at h12 ⊢
    exact h12 _
  case done =>
    rintro Dm S X' hD ⟨v, i1, i2, i3, i4, i5, i6⟩ hK
    dsimp only at i2
    rw [List.take_length] at i2
    have d0 : X'.cell? ⟨w.heap.size, 0, none⟩ = some v := by rw [cell_of_row X' _ _ _ _ (0, 0) i1]; rfl
    have hgP := grownBy_putObj' X' Dm (.deferred none)
    have HRet : Hid (∃ u, Ending.returned v = .returned u ∧ Re X Y (X'.putObj Dm (.deferred none)) w.heap.size u wl ∧ Below w.heap.size w (X'.putObj Dm (.deferred none))) := by
      have hNP : Re X Y (X'.putObj Dm (.deferred none)) (w.heap.size + 1) v wl := by
        refine World.ownsRow.kept i2 hgP ?_
        cases hv : v.ownBlock with
        | none => exact .inl rfl
        | some g =>
          obtain ⟨c, hc⟩ := row_cells i2 hv
          refine .inr fun e => ?_
          injection e with e
          subst e
          rw [hK] at hc; cases hc
      refine ⟨v, rfl, ⟨hNP.1, ?_⟩, i4.grown hgP i4.size (fun r e => by cases e; have := HVs.out; omega)⟩
      rcases hNP.2 with h | ⟨g, cap, cur, h1, h2, h3⟩
      · exact .inl h
      · exact .inr ⟨g, cap, cur, h1, by omega, h3⟩
    have HK := Lib.hid hK
    clear i1 i2 i3 i4 i6 hK hgP
    gi_wp2
    refine ⟨by simp, .inl ⟨Dm, _, rfl, run_takeDeferred HK.out, ?_⟩⟩
    refine ⟨v, ?_, HRet.out⟩
    exact results_tmp Try.results42 _ _ _
  case stop =>
    rintro Dm q X' _ _ hf _
    exact hf.elim

set_option maxHeartbeats 1000000 in
theorem collect_any (gx gr gy gn p n : Nat) (x y r : Int) (w wa : World) (hB : Wb w gx gr gy gn p x y r) (hI : Ix X Y wa p n) (hwa : Below wa.heap.size wa w) (hO : oks X Y n) (hn : n ≤ 256) (hx : 0 ≤ x ∧ x ≤ 67108864) (hy : 0 ≤ y ∧ y ≤ 67108864) (hr : 0 ≤ r ∧ r ≤ 134217728) :
    Calls Try.prog 34 #[.func (.func 37) #[] #[.pointer (some ⟨gx, 0, none⟩), .pointer (some ⟨gr, 0, none⟩), .pointer (some ⟨gy, 0, none⟩), .pointer (some ⟨gn, 0, none⟩)]] w fun e w' => ∃ v, e = .returned v ∧ Re X Y w' w.heap.size v (wlist X Y n x y r) ∧ Below w.heap.size w w' := by
  have C := Lib.hid (appendSeq_any X Y gx gr gy gn p n x y r w wa hB hI hwa hO hn hx hy hr)
  clear hB hI hwa hO hx hy hr
  go_enter Try.func34, Try.ntmps34
  go_wp2_with fail
  refine C.out.mono ?_
  rintro e w1 ⟨v, rfl, hR, hb⟩
  have HR := Lib.hid (And.intro hR hb)
  clear hR hb
  go_wp2
  go_ret
  exact ⟨v, rfl, HR.out⟩
end
end Go.Proofs.Ytkghjaodnkjmoaa
