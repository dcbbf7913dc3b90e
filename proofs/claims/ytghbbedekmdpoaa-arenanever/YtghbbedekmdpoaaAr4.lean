/- Contracts: an arena in which a number is no more; an arena in which a place is taken. -/
import Derived.Test.YtghbbedekmdpoaaAr3
import Derived.Laws.ResultCell
import Derived.Deep.RegionHeld
namespace Go.Proofs.Ytghbbedekmdpoaa
open Go.RowKit Go.Sort
set_option linter.unusedVariables false

theorem setRow_blk {X : World} {g : Nat} {t : TypeId} {cs : Array Value} (h : X.heap[g]? = some (.cells cs t (0, 0))) (c : Array Value) : (X.setRow g c).heap[g]? = some (.cells c t (0, 0)) := by
  simp only [World.setRow, Array.getElem?_modify, h, Option.map_some, if_true]
theorem setRow_other (X : World) {g k : Nat} (h : k ≠ g) (c : Array Value) : (X.setRow g c).heap[k]? = X.heap[k]? := by
  simp only [World.setRow, Array.getElem?_modify]
  rw [if_neg (fun e => h e.symm)]
theorem below_setRow {B : Nat} {a X : World} (h : Below B a X) {g : Nat} (hg : B ≤ g) (c : Array Value) : Below B a (X.setRow g c) :=
  ⟨h.os, h.tape, h.output, by have := h.size; simpa [World.setRow] using this, fun k hk => (setRow_other X (by omega) c).trans (h.block k hk)⟩
theorem Kx.row {w X : World} {g : Nat} {t : TypeId} {cs : Array Value} (h : Kx w g X t cs) (c : Array Value) : Kx w g (X.setRow g c) t c :=
  ⟨h.ge, setRow_blk h.blk c, below_setRow h.below h.ge c⟩
theorem Kx.farRow {w X : World} {g b : Nat} {t : TypeId} {cs : Array Value} (h : Kx w g X t cs) (hne : g ≠ b) (hb : w.heap.size ≤ b) (c : Array Value) : Kx w g (X.setRow b c) t cs :=
  ⟨h.ge, (setRow_other X hne c).trans h.blk, below_setRow h.below hb c⟩
theorem size_alloc (w : World) (o : Obj) : (w.alloc o).heap.size = w.heap.size + 1 := by simp
/-- A second block of the call's own. -/
theorem Kx.two (w : World) (t u : TypeId) (cs ds : Array Value) : Kx w (w.heap.size + 1) ((w.alloc (.cells cs t)).alloc (.cells ds u)) u ds := by
  have := Kx.next (below_box (w := w) (.cells cs t)) u ds
  rwa [size_alloc] at this
theorem results_row {fn : Func} {p : Tmp} (h : fn.results = #[.cell p 25]) (tmps : Array Value) {w : World} {g : Nat} {T : Nat → Int} {L : Nat → Bool} (hp : tmps.getD p undef = .pointer (some ⟨g, 0, none⟩)) (hb : w.heap[g]? = some (.cells (ar T L) 25 (0, 0))) :
    (results fn tmps).run Try.prog w = .ok (.agg (ar T L)) w :=
  results_cell_row h tmps w g _ _ (0, 0) _ hp hb Try.underlying25 rfl (by rw [ar_size]; exact Try.sizeAr)
theorem results_row1 {fn : Func} {p u : Tmp} (h : fn.results = #[.cell p 25, .tmp u]) (tmps : Array Value) {w : World} {g : Nat} {T : Nat → Int} {L : Nat → Bool} (hp : tmps.getD p undef = .pointer (some ⟨g, 0, none⟩)) (hb : w.heap[g]? = some (.cells (ar T L) 25 (0, 0))) :
    (results fn tmps).run Try.prog w = .ok (.tuple #[.agg (ar T L), tmps.getD u undef]) w := by
  rw [results_cell_tmp h, hp]
  simp only [asAddr, Sem.run_pure, Result.andThen_ok, loadVar_ar hb]
theorem results_row2 {fn : Func} {p u v : Tmp} (h : fn.results = #[.cell p 25, .tmp u, .tmp v]) (tmps : Array Value) {w : World} {g : Nat} {T : Nat → Int} {L : Nat → Bool} (hp : tmps.getD p undef = .pointer (some ⟨g, 0, none⟩)) (hb : w.heap[g]? = some (.cells (ar T L) 25 (0, 0))) :
    (results fn tmps).run Try.prog w = .ok (.tuple #[.agg (ar T L), tmps.getD u undef, tmps.getD v undef]) w := by
  have hp' : tmps[p]?.getD undef = .pointer (some ⟨g, 0, none⟩) := by simpa using hp
  have hl := loadVar_ar hb
  simp only [results, h]
  simp [Result.andThen, hp', asAddr, hl]

attribute [local go_sem] Try.zeroAr
set_option maxHeartbeats 1000000 in
theorem without_any (T : Nat → Int) (L : Nat → Bool) (id : Int) (w : World) (hA : okA T L = true) : Calls Try.prog 22 #[.agg (ar T L), .int .i64 id] w (Ret (.agg (ar T (fre T L id))) w) := by
  have hp := plc_lt id
  have h0 := okA_at hA hp
  have X := Lib.hid ((Kx.new w 25 (ar T L)).alloc (.cells ar0 25))
  have Y := Lib.hid (Kx.two w 25 25 (ar T L) ar0)
  have HF : Hid (fre T L id = if id = las T (plc id) then setB L (plc id) false else L) := rfl
  have H1 := Lib.hid (place_any id)
  have H2 := Lib.hid (fun u => last_any T L (plc id) u hp h0.1 h0.2.1)
  have H3 := Lib.hid (fun l => ar_setL T l (p := plc id) false hp)
  have H4 := Lib.hid (ar_l T L hp)
  clear h0 hA
  go_enter Try.func22, Try.ntmps22
  go_wp2_with fail
  generalize (w.alloc (.cells (ar T L) 25)).alloc (.cells ar0 25) = w1 at *
  generalize fre T L id = R at *
  generalize las T (plc id) = s at *
  generalize plc id = p at *
  have hp' : (p : Int) < 64 := by omega
  refine (H1.out w1).mono ?_
  rintro e w2 ⟨rfl, b2⟩
  have X2 := Lib.hid (X.out.keep b2)
  have Y2 := Lib.hid (Y.out.keep b2)
  clear b2 X Y H1
  go_wp2_with (refine wpList_load_at (loadVar_ar X2.out.blk) rfl rfl rfl ?_)
  refine (H2.out w2).mono ?_
  rintro e w3 ⟨rfl, b3⟩
  have X3 := Lib.hid (X2.out.keep b3)
  have Y3 := Lib.hid (Y2.out.keep b3)
  clear b3 X2 Y2 H2
  by_cases h : id = s
  · have HR : Hid (R = setB L p false) := by show _ = _; rw [HF.out, if_pos h]
    clear HF
    subst h
    have c1 := X3.out.cell (64 + p) H4.out
    have f1 := X3.out.free (64 + p)
    have X4 : Hid (Kx w w.heap.size (w3.setCell ⟨w.heap.size, 64 + p, none⟩ (.bool false)) 25 (ar T (setB L p false))) := by
      have := X3.out.set (64 + p) (.bool false)
      rw [H3.out] at this
      exact this
    have Y4 := Lib.hid (Y3.out.far (b := w.heap.size) (by omega) (Nat.le_refl _) (64 + p) (.bool false))
    go_wp2_with (first | (refine wpList_load_at (loadVar_ar X4.out.blk) rfl rfl rfl ?_) | (refine wpList_store_blk (c' := ar T (setB L p false)) Try.sizeAr Y4.out.blk rfl rfl rfl rfl (ar_size _ _) (ar_size _ _) (ar_one _ _) ?_))
    rw [HR.out]
    exact bodyPost_ret (results_row rfl _ rfl (Y4.out.row (ar T (setB L p false))).blk) rfl (Ret.mk rfl (below_setRow X4.out.below (by omega) _))
  · have HR : Hid (R = L) := by show _ = _; rw [HF.out, if_neg h]
    clear HF
    go_wp2_with (first | (refine wpList_load_at (loadVar_ar X3.out.blk) rfl rfl rfl ?_) | (refine wpList_store_blk (c' := ar T L) Try.sizeAr Y3.out.blk rfl rfl rfl rfl (ar_size _ _) (ar_size _ _) (ar_one _ _) ?_))
    rw [HR.out]
    exact bodyPost_ret (results_row rfl _ rfl (Y3.out.row (ar T L)).blk) rfl (Ret.mk rfl (below_setRow X3.out.below (by omega) _))
end Go.Proofs.Ytghbbedekmdpoaa
