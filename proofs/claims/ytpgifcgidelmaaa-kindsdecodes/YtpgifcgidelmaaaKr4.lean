/- The reference's Decode. -/
import Derived.Test.YtpgifcgidelmaaaKr3
namespace Go.Proofs.Ytpgifcgidelmaaa
open Go.RowKit
set_option linter.unusedVariables false

/-- 'append(s, x)': x lies in a new block of its own. -/
theorem append_kind {ops : Array Oper} {rest : List Oper} {o : Oper} {a : Act} {Q : Exit → Act → World → Prop} (hgd : o.guard = none) (s x : Operand)
    (ho : o.op = .call { callee := .builtin .append, args := #[s, x], argTypes := #[23, 23] })
    (base n : Nat) (K : Nat → Nat → Int) (cs : Array Value) (v : Value) (w : World) (g : Nat) (hs : a.eval s = v) (hf : cs = kcs (K n)) (hown : Rk w base v n K) (hg : w.heap.size = g) (hx : a.eval x = .slice (some ⟨g, 0, none⟩) 1 1) (hn : n ≤ 100000) (hbase : base ≤ w.heap.size)
    (h : ∀ v' w', Rk w' base v' (n + 1) K → (w.alloc (.cells cs 46)).grownBy w' v.ownBlock → wpList Try.prog ops Q rest (a.put o.dst v') w') : wpList Try.prog ops Q (o :: rest) a (w.alloc (.cells cs 46)) := by
  subst hf
  refine wpList_plain hgd fun K' hK => ?_
  exact wp_append_kind s x ho base n K (K n) v w g hs rfl hown hg hx hn hbase (fun v' w' h1 h2 => hK _ _ (h v' w' h1 h2))

/-- What holds in Decode's rounds. -/
structure Fr (w : World) (A : Option Addr) (N : Nat) (p : Nat → Nat) (W : World) (v1 v2 : Value) (n m : Nat) (K U : Nat → Nat → Int) (F : Nat → Bool) : Prop where
  bs0 : Bs w A N p
  below : Below w.heap.size w W
  res : W.heap[w.heap.size]? = some (.cells (bkc (.slice none 0 0) (.slice none 0 0)) 26 (0, 0))
  var : W.heap[w.heap.size + 1]? = some (.cells (bkc v1 v2) 26 (0, 0))
  rk : Rk W w.heap.size v1 n K
  rw : Rww W w.heap.size v2 m U F
section
variable {w : World} {A : Option Addr} {N : Nat} {p : Nat → Nat} {W : World} {v1 v2 : Value} {n m : Nat} {K U : Nat → Nat → Int} {F : Nat → Bool}
theorem Fr.bs (h : Fr w A N p W v1 v2 n m K U F) : Bs W A N p := h.bs0.keep h.below
theorem blkK {W W' : World} {g : Nat} {t : TypeId} {cs : Array Value} (h : W.heap[g]? = some (.cells cs t (0, 0))) (hb : Below W.heap.size W W') : W'.heap[g]? = some (.cells cs t (0, 0)) :=
  (hb.block g (Array.getElem?_eq_some_iff.1 h).1).trans h
theorem Fr.keep {W' : World} (h : Fr w A N p W v1 v2 n m K U F) (hb : Below W.heap.size W W') : Fr w A N p W' v1 v2 n m K U F :=
  ⟨h.bs0, h.below.trans (hb.mono h.below.size), blkK h.res hb, blkK h.var hb, World.ownsRow.kept h.rk (grownBy_below hb none) (by cases v1.ownBlock <;> simp), World.ownsRow.kept h.rw (grownBy_below hb none) (by cases v2.ownBlock <;> simp)⟩
theorem Fr.c0 (h : Fr w A N p W v1 v2 n m K U F) : W.cell? ⟨w.heap.size + 1, 0, none⟩ = some v1 := by rw [cell_of_row W _ 0 _ _ (0, 0) h.var]; rfl
theorem Fr.c1 (h : Fr w A N p W v1 v2 n m K U F) : W.cell? ⟨w.heap.size + 1, 1, none⟩ = some v2 := by rw [cell_of_row W _ 1 _ _ (0, 0) h.var]; rfl
theorem Fr.r0 (h : Fr w A N p W v1 v2 n m K U F) : W.cell? ⟨w.heap.size, 0, none⟩ = some (.slice none 0 0) := by rw [cell_of_row W _ 0 _ _ (0, 0) h.res]; rfl
theorem Fr.r1 (h : Fr w A N p W v1 v2 n m K U F) : W.cell? ⟨w.heap.size, 1, none⟩ = some (.slice none 0 0) := by rw [cell_of_row W _ 1 _ _ (0, 0) h.res]; rfl
theorem Fr.addK {W' : World} {cs : Array Value} {v : Value} (h : Fr w A N p W v1 v2 n m K U F) (hr : Rk W' w.heap.size v (n + 1) K) (hgr : (W.alloc (.cells cs 46)).grownBy W' v1.ownBlock) :
    W'.cell? ⟨w.heap.size + 1, 0, none⟩ = some v1 ∧ W'.frozen? ⟨w.heap.size + 1, 0, none⟩ = false ∧ Fr w A N p (W'.setCell ⟨w.heap.size + 1, 0, none⟩ v) v v2 (n + 1) m K U F := by
  have X := h.keep (below_box (.cells cs 46))
  have l1 := World.ownsRow.lt X.rk
  have hv := blk_not_row X.var (by decide : 26 ≠ 46) X.rk
  have hvar : W'.heap[w.heap.size + 1]? = some (.cells (bkc v1 v2) 26 (0, 0)) := (hgr.block _ (Array.getElem?_eq_some_iff.1 X.var).1 hv).trans X.var
  have hres := (hgr.block _ (Array.getElem?_eq_some_iff.1 X.res).1 (blk_not_row X.res (by decide) X.rk)).trans X.res
  have hs : W'.grownBy (W'.setCell ⟨w.heap.size + 1, 0, none⟩ v) (some (w.heap.size + 1)) := grown_set _ _ _
  have hrw : Rww W' w.heap.size v2 m U F := World.ownsRow.kept X.rw hgr (rows_differ X.rw X.rk (by decide))
  refine ⟨by rw [cell_of_row W' _ 0 _ _ (0, 0) hvar]; rfl, by simp [World.frozen?, hvar], X.bs0, (X.below.grown hgr X.below.size (fun k e => (l1 k e).1)).setCell (p := ⟨w.heap.size + 1, 0, none⟩) (Nat.le_succ _) _, (Below.heap_setCell _ _ _ _ (by simp)).trans hres, setCell_blk hvar v, World.ownsRow.kept hr hs ?_, World.ownsRow.kept hrw hs ?_⟩
  · right; exact fun e => blk_not_row hvar (by decide) hr e.symm
  · right; exact fun e => blk_not_row hvar (by decide) hrw e.symm
theorem Fr.addW {W' : World} {cs : Array Value} {v : Value} (h : Fr w A N p W v1 v2 n m K U F) (hr : Rww W' w.heap.size v (m + 1) U F) (hgr : (W.alloc (.cells cs 51)).grownBy W' v2.ownBlock) :
    W'.cell? ⟨w.heap.size + 1, 1, none⟩ = some v2 ∧ W'.frozen? ⟨w.heap.size + 1, 1, none⟩ = false ∧ Fr w A N p (W'.setCell ⟨w.heap.size + 1, 1, none⟩ v) v1 v n (m + 1) K U F := by
  have X := h.keep (below_box (.cells cs 51))
  have l1 := World.ownsRow.lt X.rw
  have hv := blk_not_row X.var (by decide : 26 ≠ 51) X.rw
  have hvar : W'.heap[w.heap.size + 1]? = some (.cells (bkc v1 v2) 26 (0, 0)) := (hgr.block _ (Array.getElem?_eq_some_iff.1 X.var).1 hv).trans X.var
  have hres := (hgr.block _ (Array.getElem?_eq_some_iff.1 X.res).1 (blk_not_row X.res (by decide) X.rw)).trans X.res
  have hs : W'.grownBy (W'.setCell ⟨w.heap.size + 1, 1, none⟩ v) (some (w.heap.size + 1)) := grown_set _ _ _
  have hrk : Rk W' w.heap.size v1 n K := World.ownsRow.kept X.rk hgr (rows_differ X.rk X.rw (by decide))
  refine ⟨by rw [cell_of_row W' _ 1 _ _ (0, 0) hvar]; rfl, by simp [World.frozen?, hvar], X.bs0, (X.below.grown hgr X.below.size (fun k e => (l1 k e).1)).setCell (p := ⟨w.heap.size + 1, 1, none⟩) (Nat.le_succ _) _, (Below.heap_setCell _ _ _ _ (by simp)).trans hres, setCell_blk hvar v, World.ownsRow.kept hrk hs ?_, World.ownsRow.kept hr hs ?_⟩
  · right; exact fun e => blk_not_row hvar (by decide) hrk e.symm
  · right; exact fun e => blk_not_row hvar (by decide) hr e.symm
end
/-- A book of nothing lies in the result's cell. -/
theorem res_cells (W : World) : (W.alloc (.cells (bkc (.slice none 0 0) (.slice none 0 0)) 26)).cell? ⟨W.heap.size, 0, none⟩ = some (.slice none 0 0) ∧ (W.alloc (.cells (bkc (.slice none 0 0) (.slice none 0 0)) 26)).cell? ⟨W.heap.size, 1, none⟩ = some (.slice none 0 0) := ⟨by rw [cell_new]; rfl, by rw [cell_new]; rfl⟩

set_option maxRecDepth 100000 in
set_option maxHeartbeats 1000000 in
theorem refDecode_short (A : Option Addr) (N c : Nat) (p : Nat → Nat) (w : World) (h2 : N < 2) :
    Calls Try.prog 16 #[.slice A N c] w (DecRet p N w) := by
  have HD : Hid (Dec p N 2 N) := .short h2
  have h2' : (N : Int) < 2 := by omega
  clear h2
  obtain ⟨r0, r1⟩ := res_cells w
  have HB : Hid (Below w.heap.size w (w.alloc (.cells (bkc (.slice none 0 0) (.slice none 0 0)) 26))) := below_box _
  go_enter Try.func16, Try.ntmps16
  simp only [List.cons_append, List.nil_append, List.append_eq]
  go_wp2_with (refine wpList_store_new (c' := (bkc (.slice none 0 0) (.slice none 0 0))) Try.sizeBook rfl rfl rfl rfl rfl rfl rfl (bkc_one _ _ _ _ _ _) ?_)
  generalize w.alloc (.cells (bkc (.slice none 0 0) (.slice none 0 0)) 26) = w1 at *
  refine bodyPost_ret (v := .tuple #[.agg #[.slice none 0 0, .slice none 0 0], .int .i64 2, .int .i64 N]) (by simp [results, Try.results16, go_sem, r0, r1]) rfl ?_
  exact ⟨2, N, HD.out, HB.out, .inl ⟨by decide, rfl⟩⟩

set_option maxRecDepth 100000 in
set_option maxHeartbeats 1000000 in
theorem refDecode_few (A : Option Addr) (N c : Nat) (p : Nat → Nat) (w : World) (hB : Bs w A N p) (hp : ∀ i, p i < 256) (hc : N ≤ c) (hm : c ≤ maxLen) (h2 : 2 ≤ N) (hN : N < need p) :
    Calls Try.prog 16 #[.slice A N c] w (DecRet p N w) := by
  have HD : Hid (Dec p N 2 N) := .few h2 hN
  have h2' : ¬ (N : Int) < 2 := by omega
  have hN1 : 0 < N := by omega
  have hN2 : 1 < N := by omega
  have l0 := hp 0
  have l1 := hp 1
  obtain ⟨g, o, rfl, hg, hcell⟩ := hB (by omega)
  have bb := below_box (w := w) (.cells (bkc (.slice none 0 0) (.slice none 0 0)) 26)
  have d0 := kc bb (hcell 0 (by omega))
  rw [Nat.add_zero] at d0
  have d1 := kc bb (hcell 1 (by omega))
  obtain ⟨r0, r1⟩ := res_cells w
  have HB : Hid (Below w.heap.size w (w.alloc (.cells (bkc (.slice none 0 0) (.slice none 0 0)) 26))) := below_box _
  have HR : Hid ((w.alloc (.cells (bkc (.slice none 0 0) (.slice none 0 0)) 26)).heap[w.heap.size]? = some (.cells (bkc (.slice none 0 0) (.slice none 0 0)) 26 (0, 0))) := alloc_blk _ _ _
  obtain ⟨D, hD⟩ : ∃ D, need p = D := ⟨_, rfl⟩
  rw [hD] at hN
  try rw [hD] at HD
  unfold need at hD
  clear hcell bb hg
  obtain ⟨n, en⟩ : ∃ n, p 0 = n := ⟨_, rfl⟩
  obtain ⟨m, em⟩ : ∃ m, p 1 = m := ⟨_, rfl⟩
  rw [en] at d0 hD l0
  rw [em] at d1 hD l1
  have eD : (2 : Int) + 35 * (n : Int) + 14 * (m : Int) = (D : Int) := by omega
  clear en em hD hp hB hm hc
  have hN' : (N : Int) < (D : Int) := by omega
  go_enter Try.func16, Try.ntmps16
  simp only [List.cons_append, List.nil_append, List.append_eq]
  go_upto_region 3 with fail
  generalize w.alloc (.cells (bkc (.slice none 0 0) (.slice none 0 0)) 26) = w1 at *
  go_quiet (fail)
  have HRn : Hid ((w1.drewN nq).heap[w.heap.size]? = some (.cells (bkc (.slice none 0 0) (.slice none 0 0)) 26 (0, 0))) := HR.out
  have hB2 : Hid (Below w.heap.size w (w1.drewN nq)) := ⟨HB.out.os, HB.out.tape, HB.out.output, HB.out.size, HB.out.block⟩
  clear HR HB r0 r1 d0 d1
  generalize w1.drewN nq = w2 at *
  go_wp2_with (refine wpList_store_blk (c' := (bkc (.slice none 0 0) (.slice none 0 0))) Try.sizeBook HRn.out rfl rfl rfl rfl rfl rfl (bkc_one _ _ _ _ _ _) ?_)
  have hfin : (w2.setRow w.heap.size (bkc (.slice none 0 0) (.slice none 0 0))).heap[w.heap.size]? = some (.cells (bkc (.slice none 0 0) (.slice none 0 0)) 26 (0, 0)) := setRow_heap w2 w.heap.size _ _ _ _ HRn.out
  have r0 : (w2.setRow w.heap.size (bkc (.slice none 0 0) (.slice none 0 0))).cell? ⟨w.heap.size, 0, none⟩ = some (.slice none 0 0) := by rw [cell_of_row _ _ 0 _ _ (0, 0) hfin]; rfl
  have r1 : (w2.setRow w.heap.size (bkc (.slice none 0 0) (.slice none 0 0))).cell? ⟨w.heap.size, 1, none⟩ = some (.slice none 0 0) := by rw [cell_of_row _ _ 1 _ _ (0, 0) hfin]; rfl
  have hB3 : Below w.heap.size w (w2.setRow w.heap.size (bkc (.slice none 0 0) (.slice none 0 0))) := below_grownBy (setRow_grown (grownBy_below hB2.out none) (Nat.le_refl _))
  refine bodyPost_ret (v := .tuple #[.agg #[.slice none 0 0, .slice none 0 0], .int .i64 2, .int .i64 N]) (by simp [results, Try.results16, go_sem, r0, r1]) rfl ?_
  exact ⟨_, _, HD.out, hB3, .inl ⟨by decide, rfl⟩⟩

set_option maxRecDepth 100000 in
set_option maxHeartbeats 1000000 in
theorem refDecode_many (A : Option Addr) (N c : Nat) (p : Nat → Nat) (w : World) (hB : Bs w A N p) (hp : ∀ i, p i < 256) (hc : N ≤ c) (hm : c ≤ maxLen) (h2 : 2 ≤ N) (hN : need p < N) :
    Calls Try.prog 16 #[.slice A N c] w (DecRet p N w) := by
  have HD : Hid (Dec p N 7 (need p : Nat)) := .many h2 hN
  have h2' : ¬ (N : Int) < 2 := by omega
  have hN1 : 0 < N := by omega
  have hN2 : 1 < N := by omega
  have l0 := hp 0
  have l1 := hp 1
  obtain ⟨g, o, rfl, hg, hcell⟩ := hB (by omega)
  have bb := below_box (w := w) (.cells (bkc (.slice none 0 0) (.slice none 0 0)) 26)
  have d0 := kc bb (hcell 0 (by omega))
  rw [Nat.add_zero] at d0
  have d1 := kc bb (hcell 1 (by omega))
  obtain ⟨r0, r1⟩ := res_cells w
  have HB : Hid (Below w.heap.size w (w.alloc (.cells (bkc (.slice none 0 0) (.slice none 0 0)) 26))) := below_box _
  have HR : Hid ((w.alloc (.cells (bkc (.slice none 0 0) (.slice none 0 0)) 26)).heap[w.heap.size]? = some (.cells (bkc (.slice none 0 0) (.slice none 0 0)) 26 (0, 0))) := alloc_blk _ _ _
  obtain ⟨D, hD⟩ : ∃ D, need p = D := ⟨_, rfl⟩
  rw [hD] at hN
  try rw [hD] at HD
  unfold need at hD
  clear hcell bb hg
  obtain ⟨n, en⟩ : ∃ n, p 0 = n := ⟨_, rfl⟩
  obtain ⟨m, em⟩ : ∃ m, p 1 = m := ⟨_, rfl⟩
  rw [en] at d0 hD l0
  rw [em] at d1 hD l1
  have eD : (2 : Int) + 35 * (n : Int) + 14 * (m : Int) = (D : Int) := by omega
  clear en em hD hp hB hm hc
  have hN' : ¬ (N : Int) < (D : Int) := by omega
  have hN3 : (D : Int) < (N : Int) := by omega
  go_enter Try.func16, Try.ntmps16
  simp only [List.cons_append, List.nil_append, List.append_eq]
  go_upto_region 3 with fail
  generalize w.alloc (.cells (bkc (.slice none 0 0) (.slice none 0 0)) 26) = w1 at *
  go_quiet (fail)
  have HRn : Hid ((w1.drewN nq).heap[w.heap.size]? = some (.cells (bkc (.slice none 0 0) (.slice none 0 0)) 26 (0, 0))) := HR.out
  have hB2 : Hid (Below w.heap.size w (w1.drewN nq)) := ⟨HB.out.os, HB.out.tape, HB.out.output, HB.out.size, HB.out.block⟩
  clear HR HB r0 r1 d0 d1
  generalize w1.drewN nq = w2 at *
  go_wp2_with (refine wpList_store_blk (c' := (bkc (.slice none 0 0) (.slice none 0 0))) Try.sizeBook HRn.out rfl rfl rfl rfl rfl rfl (bkc_one _ _ _ _ _ _) ?_)
  have hfin : (w2.setRow w.heap.size (bkc (.slice none 0 0) (.slice none 0 0))).heap[w.heap.size]? = some (.cells (bkc (.slice none 0 0) (.slice none 0 0)) 26 (0, 0)) := setRow_heap w2 w.heap.size _ _ _ _ HRn.out
  have r0 : (w2.setRow w.heap.size (bkc (.slice none 0 0) (.slice none 0 0))).cell? ⟨w.heap.size, 0, none⟩ = some (.slice none 0 0) := by rw [cell_of_row _ _ 0 _ _ (0, 0) hfin]; rfl
  have r1 : (w2.setRow w.heap.size (bkc (.slice none 0 0) (.slice none 0 0))).cell? ⟨w.heap.size, 1, none⟩ = some (.slice none 0 0) := by rw [cell_of_row _ _ 1 _ _ (0, 0) hfin]; rfl
  have hB3 : Below w.heap.size w (w2.setRow w.heap.size (bkc (.slice none 0 0) (.slice none 0 0))) := below_grownBy (setRow_grown (grownBy_below hB2.out none) (Nat.le_refl _))
  refine bodyPost_ret (v := .tuple #[.agg #[.slice none 0 0, .slice none 0 0], .int .i64 7, .int .i64 D]) (by simp [results, Try.results16, go_sem, r0, r1]) rfl ?_
  exact ⟨_, _, HD.out, hB3, .inl ⟨by decide, rfl⟩⟩
end Go.Proofs.Ytpgifcgidelmaaa
