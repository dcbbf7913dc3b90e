/- The contract of package trig's Heading, over the translated program. -/
import Derived.Test.YtckeplbmkjoiaaaDoorRefTrig
namespace Go.Proofs.YtckeplbmkjoiaaaDoor
open Go.RowKit
set_option linter.unusedVariables false

/-- The search's own memory: the two sides, the best wind, and how far one goes along it. -/
structure Own (w : World) (x y b m : Int) (wr : World) : Prop where
  below : Below w.heap.size w wr
  cx : wr.cell? ⟨w.heap.size, 0, none⟩ = some (.int .i64 x)
  cy : wr.cell? ⟨w.heap.size + 1, 0, none⟩ = some (.int .i64 y)
  cb : wr.cell? ⟨w.heap.size + 2, 0, none⟩ = some (.int .i64 b)
  cm : wr.cell? ⟨w.heap.size + 3, 0, none⟩ = some (.int .i64 m)
  fb : wr.frozen? ⟨w.heap.size + 2, 0, none⟩ = false
  fm : wr.frozen? ⟨w.heap.size + 3, 0, none⟩ = false
theorem Own.size {w wr : World} {x y b m : Int} (h : Own w x y b m wr) : w.heap.size + 4 ≤ wr.heap.size := size_of_cell h.cm
theorem Own.keep {w wr w' : World} {x y b m : Int} (h : Own w x y b m wr) (hb : Below wr.heap.size wr w') : Own w x y b m w' := by
  have hs := h.size
  refine ⟨h.below.trans (hb.mono h.below.size), ?_, ?_, ?_, ?_, ?_, ?_⟩
  · exact (Below.cell hb (show w.heap.size < _ by omega)).trans h.cx
  · exact (Below.cell hb (show w.heap.size + 1 < _ by omega)).trans h.cy
  · exact (Below.cell hb (show w.heap.size + 2 < _ by omega)).trans h.cb
  · exact (Below.cell hb (show w.heap.size + 3 < _ by omega)).trans h.cm
  · exact (Below.frozen hb (show w.heap.size + 2 < _ by omega)).trans h.fb
  · exact (Below.frozen hb (show w.heap.size + 3 < _ by omega)).trans h.fm
/-- The two numbers are put anew. -/
theorem Own.put {w wr : World} {x y b m : Int} (h : Own w x y b m wr) (v u : Int) :
    Own w x y v u ((wr.setCell ⟨w.heap.size + 2, 0, none⟩ (.int .i64 v)).setCell ⟨w.heap.size + 3, 0, none⟩ (.int .i64 u)) := by
  have hs := h.size
  refine ⟨(h.below.setCell (p := ⟨w.heap.size + 2, 0, none⟩) (by show _ ≤ w.heap.size + 2; omega) _).setCell (p := ⟨w.heap.size + 3, 0, none⟩) (by show _ ≤ w.heap.size + 3; omega) _, ?_, ?_, ?_, ?_, ?_, ?_⟩
  · rw [World.cell?_setCell_other _ _ _ _ (by simp), World.cell?_setCell_other _ _ _ _ (by simp)]; exact h.cx
  · rw [World.cell?_setCell_other _ _ _ _ (by simp), World.cell?_setCell_other _ _ _ _ (by simp)]; exact h.cy
  · rw [World.cell?_setCell_other _ _ _ _ (by simp)]; exact World.cell?_setCell_same _ _ _ h.cb
  · exact World.cell?_setCell_same _ _ _ ((World.cell?_setCell_other _ _ _ _ (by simp)).trans h.cm)
  · simp [h.fb]
  · simp [h.fm]

set_option maxHeartbeats 400000 in
/-- A wind that goes farther. -/
theorem try_yes (d : Nat) (x y b m : Int) (w wr : World) (hO : Own w x y b m wr) (hT : Tab w) (hd : d < 256) (hx : ¬ FarT x) (hy : ¬ FarT y) (hv : m < wv x y d) :
    Calls Tryd.prog 43 #[.int .i64 (d : Int), .pointer (some ⟨w.heap.size, 0, none⟩), .pointer (some ⟨w.heap.size + 1, 0, none⟩), .pointer (some ⟨w.heap.size + 3, 0, none⟩), .pointer (some ⟨w.heap.size + 2, 0, none⟩)] wr
      (fun e w' => e = .returned (.tuple #[]) ∧ Own w x y d (wv x y d) w') := by
  have HO := Lib.hid hO
  have HT := Lib.hid (hT.keep hO.below)
  have HX := Lib.hid hx
  have HY := Lib.hid hy
  have cx := hO.cx
  have cy := hO.cy
  clear hO hT hx hy
  go_enter Tryd.func43, Tryd.ntmps43
  go_wp2_with fail
  refine (along_any d x y _ HT.out hd HX.out HY.out).mono ?_
  rintro e w1 ⟨rfl, b1⟩
  have HO1 := Lib.hid (HO.out.keep b1)
  have cm := HO1.out.cm
  have cb := HO1.out.cb
  have fb := HO1.out.fb
  have fm := HO1.out.fm
  clear b1 cx cy
  go_wp2
  go_end0
  exact ⟨rfl, HO1.out.put _ _⟩

set_option maxHeartbeats 400000 in
/-- A wind that goes no farther. -/
theorem try_no (d : Nat) (x y b m : Int) (w wr : World) (hO : Own w x y b m wr) (hT : Tab w) (hd : d < 256) (hx : ¬ FarT x) (hy : ¬ FarT y) (hv : ¬ m < wv x y d) :
    Calls Tryd.prog 43 #[.int .i64 (d : Int), .pointer (some ⟨w.heap.size, 0, none⟩), .pointer (some ⟨w.heap.size + 1, 0, none⟩), .pointer (some ⟨w.heap.size + 3, 0, none⟩), .pointer (some ⟨w.heap.size + 2, 0, none⟩)] wr
      (fun e w' => e = .returned (.tuple #[]) ∧ Own w x y b m w') := by
  have HO := Lib.hid hO
  have HT := Lib.hid (hT.keep hO.below)
  have HX := Lib.hid hx
  have HY := Lib.hid hy
  have cx := hO.cx
  have cy := hO.cy
  clear hO hT hx hy
  go_enter Tryd.func43, Tryd.ntmps43
  go_wp2_with fail
  refine (along_any d x y _ HT.out hd HX.out HY.out).mono ?_
  rintro e w1 ⟨rfl, b1⟩
  have HO1 := Lib.hid (HO.out.keep b1)
  have cm := HO1.out.cm
  clear b1 cx cy
  go_wp2
  go_end0
  exact ⟨rfl, HO1.out⟩

/-- What one try leaves. -/
def tryB (x y m : Int) (b d : Nat) : Nat := if m < wv x y d then d else b
def tryM (x y m : Int) (d : Nat) : Int := if m < wv x y d then wv x y d else m
theorem Seek.first (x y : Int) (f : Nat) : Seek x y f f (tryB x y 0 0 0) (tryM x y 0 0) := by
  unfold tryB tryM
  by_cases h : 0 < wv x y 0
  · rw [if_pos h, if_pos h]; exact Seek.start_yes f h
  · rw [if_neg h, if_neg h]; exact Seek.start_no f h
theorem Seek.next {x y : Int} {f d b : Nat} {m : Int} (h : Seek x y f d b m) (hf : f ≤ d) : Seek x y f (d + 1) (tryB x y m b d) (tryM x y m d) := by
  unfold tryB tryM
  by_cases hv : m < wv x y d
  · rw [if_pos hv, if_pos hv]; exact h.yes hf hv
  · rw [if_neg hv, if_neg hv]; exact h.no hf hv
theorem try_any (d : Nat) (x y m : Int) (b : Nat) (w wr : World) (hO : Own w x y b m wr) (hT : Tab w) (hd : d < 256) (hx : ¬ FarT x) (hy : ¬ FarT y) :
    Calls Tryd.prog 43 #[.int .i64 (d : Int), .pointer (some ⟨w.heap.size, 0, none⟩), .pointer (some ⟨w.heap.size + 1, 0, none⟩), .pointer (some ⟨w.heap.size + 1 + 1 + 1, 0, none⟩), .pointer (some ⟨w.heap.size + 1 + 1, 0, none⟩)] wr
      (fun e w' => e = .returned (.tuple #[]) ∧ Own w x y (tryB x y m b d : Nat) (tryM x y m d) w') := by
  unfold tryB tryM
  by_cases hv : m < wv x y d
  · rw [if_pos hv, if_pos hv]; exact try_yes d x y b m w wr hO hT hd hx hy hv
  · rw [if_neg hv, if_neg hv]; exact try_no d x y b m w wr hO hT hd hx hy hv
theorem cell_fresh {w : World} {c : Array Value} {t : TypeId} {b i : Nat} {v : Value} (h : b = w.heap.size) (hc : c[i]? = some v) : (w.alloc (.cells c t)).cell? ⟨b, i, none⟩ = some v := by
  subst h; rw [World.cell?_alloc_new]; exact hc
theorem frozen_fresh {w : World} {c : Array Value} {t : TypeId} {b i : Nat} (h : b = w.heap.size) : (w.alloc (.cells c t)).frozen? ⟨b, i, none⟩ = false := by
  subst h; exact World.frozen?_alloc_new _ _ _ _
/-- The search's own memory, as it is made. -/
theorem Own.make (w : World) (x y : Int) (t : TypeId) :
    Own w x y (0 : Nat) 0 ((((w.alloc (Obj.cells #[.int .i64 x] t)).alloc (Obj.cells #[.int .i64 y] t)).alloc (Obj.cells #[.int .i64 0] t)).alloc (Obj.cells #[.int .i64 0] t)) := by
  refine ⟨((((Below.refl _ _).alloc (Nat.le_refl _) _).alloc (by simp) _).alloc (by simp; omega) _).alloc (by simp; omega) _, ?_, ?_, ?_, ?_, ?_, ?_⟩
  · rw [World.cell?_alloc_old _ _ _ (by simp <;> omega), World.cell?_alloc_old _ _ _ (by simp <;> omega), World.cell?_alloc_old _ _ _ (by simp)]
    exact cell_fresh (by simp) rfl
  · rw [World.cell?_alloc_old _ _ _ (by simp <;> omega), World.cell?_alloc_old _ _ _ (by simp)]
    exact cell_fresh (by simp) rfl
  · rw [World.cell?_alloc_old _ _ _ (by simp)]
    exact cell_fresh (by simp) rfl
  · exact cell_fresh (by simp) rfl
  · rw [World.frozen?_alloc_old _ _ _ (by simp)]
    exact frozen_fresh (by simp)
  · exact frozen_fresh (by simp)
theorem quarters (x y : Int) : ((ew x y : Nat) = fw x y + 65 ∧ fw x y ≤ 128) ∨ (ew x y = 256 ∧ fw x y = 192) := by
  unfold ew fw
  split
  · exact Or.inl ⟨rfl, by omega⟩
  · split
    · exact Or.inl ⟨rfl, by omega⟩
    · split
      · exact Or.inl ⟨rfl, by omega⟩
      · exact Or.inr ⟨rfl, rfl⟩

set_option maxHeartbeats 400000 in
theorem heading_over (x y : Int) (w : World) (h : FarT x ∨ FarT y) :
    Calls Tryd.prog 32 #[.int .i64 x, .int .i64 y] w (Ret (.tuple #[.int .i64 0, .int .i64 8]) w) := by
  by_cases h1 : FarT x
  · have HD := Lib.hid (decide_eq_true h1)
    clear h1 h
    go_enter Tryd.func32, Tryd.ntmps32
    go_wp2_with fail
    refine (trigFar_any _ _).mono ?_
    rw [HD.out]
    rintro e w1 ⟨rfl, rfl⟩
    go_wp2
    go_ret2
    exact Ret.mk rfl (((Below.refl _ _).alloc (Nat.le_refl _) _).alloc (by simp) _)
  · have HD := Lib.hid (decide_eq_false h1)
    have HD2 : Hid (decide (FarT y) = true) := decide_eq_true (h.resolve_left h1)
    clear h1 h
    go_enter Tryd.func32, Tryd.ntmps32
    go_wp2_with fail
    refine (trigFar_any _ _).mono ?_
    rw [HD.out]
    rintro e w1 ⟨rfl, rfl⟩
    go_wp2_with fail
    refine (trigFar_any _ _).mono ?_
    rw [HD2.out]
    rintro e w2 ⟨rfl, rfl⟩
    go_wp2
    go_ret2
    exact Ret.mk rfl (((Below.refl _ _).alloc (Nat.le_refl _) _).alloc (by simp) _)

/-- The first wind along which one goes farthest comes back, without an error. -/
def RetHead2 (x y : Int) (w : World) (e : Ending) (w' : World) : Prop := ∃ d : Nat, IsHead x y d ∧ e = .returned (.tuple #[.int .i64 (d : Int), .int .i64 0]) ∧ Below w.heap.size w w'

set_option maxRecDepth 20000 in
set_option maxHeartbeats 1000000 in
theorem heading_in (x y : Int) (w : World) (hT : Tab w) (hx : ¬ FarT x) (hy : ¬ FarT y) :
    Calls Tryd.prog 32 #[.int .i64 x, .int .i64 y] w (RetHead2 x y w) := by
  have HD := Lib.hid (decide_eq_false hx)
  have HD2 := Lib.hid (decide_eq_false hy)
  have HX := Lib.hid hx
  have HY := Lib.hid hy
  have HT := Lib.hid hT
  have HQ := Lib.hid (quarters x y)
  have HS : Hid (∀ b m, Seek x y (fw x y) (ew x y) b m → IsHead x y b) := fun b m h => h.head
  have HF := Lib.hid (Seek.first x y (fw x y))
  clear hx hy hT
  go_enter Tryd.func32, Tryd.ntmps32
  go_wp2_with fail
  refine (trigFar_any _ _).mono ?_
  rw [HD.out]
  rintro e w1 ⟨rfl, rfl⟩
  go_wp2_with fail
  refine (trigFar_any _ _).mono ?_
  rw [HD2.out]
  rintro e w2 ⟨rfl, rfl⟩
  go_wp2_with fail
  refine (try_any 0 x y 0 0 w _ (Own.make w x y _) HT.out (by omega) HX.out HY.out).mono ?_
  rintro e w1 ⟨rfl, o1⟩
  have O1 := Lib.hid o1
  have cx := o1.cx
  have cy := o1.cy
  clear o1
  go_wp2_with fail
  refine (firstWind_any x y _).mono ?_
  rintro e w2 ⟨rfl, rfl⟩
  generalize fw x y = F at *
  generalize ew x y = E at *
  clear cx cy
  go_wp2
  go_loopw [10] (fun d wr => ∃ (k B : Nat) (M : Int), d = .int .i64 (k : Int) ∧ F ≤ k ∧ k ≤ E ∧ Hid (Seek x y F k B M) ∧ Hid (Own w x y B M wr)) (fun d _ => E - (intOf d).toNat)
  case atStart => exact ⟨F, _, _, rfl, Nat.le_refl _, by have := HQ.out; omega, HF, O1⟩
  case round =>
    obtain ⟨k, B, M, rfl, hk0, hk1, HK, HO⟩ := hrel
    have hq := HQ.out
    have hF : (F : Int) ≤ 192 := by omega
    by_cases hk : k < E
    · have t0 : (k : Int) ≤ (F : Int) + 64 := by omega
      have t1 : (k : Int) < 256 := by omega
      have HK' := Lib.hid (HK.out.next hk0)
      clear hq
      go_wp2_with fail
      refine (try_any k x y M B w _ HO.out HT.out (by omega) HX.out HY.out).mono ?_
      rintro e w2 ⟨rfl, o2⟩
      have O2 := Lib.hid o2
      clear o2
      go_wp2
      go_roundw
      case rel => exact ⟨k + 1, _, _, by go_num, by omega, by omega, HK', O2⟩
      case measure => simp [intOf]; omega
    · have hk3 : k = E := by omega
      have HH : Hid (IsHead x y B) := HS.out B M (by rw [← hk3]; exact HK.out)
      have cb := HO.out.cb
      have HB := Lib.hid HO.out.below
      clear HK HO HS HF
      rcases hq with hq | hq
      · have t0 : ¬ (k : Int) ≤ (F : Int) + 64 := by omega
        clear hk hk3 hk1 hk0 hq
        go_wp2
        go_ret2
        exact ⟨B, HH.out, rfl, HB.out⟩
      · have t0 : (k : Int) ≤ (F : Int) + 64 := by omega
        have t1 : ¬ (k : Int) < 256 := by omega
        clear hk hk3 hk1 hk0 hq
        go_wp2
        go_ret2
        exact ⟨B, HH.out, rfl, HB.out⟩

end Go.Proofs.YtckeplbmkjoiaaaDoor
