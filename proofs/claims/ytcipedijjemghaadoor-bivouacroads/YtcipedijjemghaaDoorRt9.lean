/- Contracts of the law's helpers: few, small, three, awake. -/
import Derived.Test.YtcipedijjemghaaDoorRt7
namespace Go.Proofs.YtcipedijjemghaaDoor
open Go.RowKit Go.Sort Go.Shelf
set_option linter.unusedVariables false
set_option linter.unusedSimpArgs false
attribute [local go_sem] Oper.semAt_some

def cut13 (n : Nat) : Nat := if 4100 < n then 4100 else n
theorem cut13_le (n : Nat) : cut13 n ≤ n ∧ cut13 n ≤ 4100 := by unfold cut13; split <;> omega
set_option maxHeartbeats 2000000 in
theorem few13_any (W H : Int) (A : Option Addr) (n ca : Nat) (w : World) (hnc : n ≤ ca) (hcm : ca ≤ maxLen) :
    Calls Tryd.prog 9 #[.agg #[.int .i64 W, .int .i64 H, .slice A n ca]] w (Ret (.agg #[.int .i64 W, .int .i64 H, .slice A (cut13 n) ca]) w) := by
  unfold maxLen at hcm
  have K1 : Hid (Kx w (w.heap.size + 1) ((w.alloc (.cells #[.int .i64 W, .int .i64 H, .slice A n ca] 24)).alloc (.cells #[.int .i64 0, .int .i64 0, .slice none 0 0] 24)) 24 #[.int .i64 0, .int .i64 0, .slice none 0 0]) := by
    have := Kx.next (newBox (w := w) (.cells #[.int .i64 W, .int .i64 H, .slice A n ca] 24)) 24 #[.int .i64 0, .int .i64 0, .slice none 0 0]
    rw [size_alloc] at this
    exact this
  have K0 := Lib.hid ((Kx.new w 24 #[.int .i64 W, .int .i64 H, .slice A n ca]).alloc (.cells #[.int .i64 0, .int .i64 0, .slice none 0 0] 24))
  have c0 := K0.out.cell 0 rfl
  have c1 := K0.out.cell 1 rfl
  have c2 := K0.out.cell 2 rfl
  have f2 := K0.out.free 2
  have d0 := K1.out.cell 0 rfl
  have d1 := K1.out.cell 1 rfl
  have d2 := K1.out.cell 2 rfl
  have g0 := K1.out.free 0
  have g1 := K1.out.free 1
  have g2 := K1.out.free 2
  go_enter Tryd.func9, Tryd.ntmps9
  by_cases h1 : 4100 < n
  · have h1' : decide ((4100 : Int) < (n : Int)) = true := decide_eq_true (by omega)
    have h3 : (4100 : Nat) ≤ ca := by omega
    have HE : Hid (cut13 n = 4100) := by show _ = _; simp [cut13, h1]
    have L0 := Lib.hid (K0.out.set 2 (.slice A 4100 ca))
    have L1 := Lib.hid (K1.out.far (b := w.heap.size) (by omega) (Nat.le_refl _) 2 (.slice A 4100 ca))
    have x0 := L0.out.cell 0 rfl
    have x1 := L0.out.cell 1 rfl
    have x2 := L0.out.cell 2 rfl
    have y0 := L1.out.cell 0 rfl
    have y1 := L1.out.cell 1 rfl
    have y2 := L1.out.cell 2 rfl
    have z0 := L1.out.free 0
    have z1 := L1.out.free 1
    have z2 := L1.out.free 2
    have M1 := Lib.hid (((L1.out.set 0 (.int .i64 W)).set 1 (.int .i64 H)).set 2 (.slice A 4100 ca))
    go_wp2
    have e0 := M1.out.cell 0 rfl
    have e1 := M1.out.cell 1 rfl
    have e2 := M1.out.cell 2 rfl
    refine bodyPost_ret (v := .agg #[.int .i64 W, .int .i64 H, .slice A 4100 ca]) (by simp [results, Tryd.results9, go_sem, e0, e1, e2]) rfl ?_
    exact Ret.mk (by rw [HE.out]) ((newBox _).trans ((newBox _).mono (by simp)))
  · have h1' : decide ((4100 : Int) < (n : Int)) = false := decide_eq_false (by omega)
    have HE : Hid (cut13 n = n) := by show _ = _; simp [cut13, h1]
    have M1 := Lib.hid (((K1.out.set 0 (.int .i64 W)).set 1 (.int .i64 H)).set 2 (.slice A n ca))
    go_wp2
    have e0 := M1.out.cell 0 rfl
    have e1 := M1.out.cell 1 rfl
    have e2 := M1.out.cell 2 rfl
    refine bodyPost_ret (v := .agg #[.int .i64 W, .int .i64 H, .slice A n ca]) (by simp [results, Tryd.results9, go_sem, e0, e1, e2]) rfl ?_
    exact Ret.mk (by rw [HE.out]) ((newBox _).trans ((newBox _).mono (by simp)))
theorem small13_any (W H : Int) (A : Option Addr) (n ca : Nat) (w : World) : Calls Tryd.prog 13 #[.agg #[.int .i64 W, .int .i64 H, .slice A n ca]] w (Ret (.bool (decide ((n : Int) ≤ 160))) w) := by
  have K0 := Lib.hid (Kx.new w 24 #[.int .i64 W, .int .i64 H, .slice A n ca])
  have c2 := K0.out.cell 2 rfl
  go_enter Tryd.func13, Tryd.ntmps13
  go_wp2
  go_ret
  exact Ret.mk rfl K0.out.below

/-! ### The chapter's land -/
section
variable {W H : Int} {O : Nat → Bool}
theorem pot_le {b : Int} {φ : Int → Int} (hφ : ∀ k s, s < 8 → 0 ≤ goL W H O k s → φ k ≤ φ (goL W H O k s) + prc s) (h0 : φ b ≤ 0) {k c : Int} (h : Wk W H O b k c) : φ k ≤ c := by
  induction h with
  | here => exact h0
  | @step k n c s hs e h1 _ ih =>
    subst e
    have := hφ k s hs h1
    omega
end
def oA (_ : Nat) : Bool := true
def oB (i : Nat) : Bool := decide (i ≠ 1)
def phA (k : Int) : Int := if k = 0 then 5 else if k = 1 then 3 else if k = 2 then 2 else if k = 3 then 4 else if k = 4 then 2 else 0
def phB (k : Int) : Int := if k = 0 then 6 else if k = 2 then 2 else if k = 3 then 4 else if k = 4 then 2 else 0
theorem six13 {O : Nat → Bool} {φ : Int → Int} (h : ∀ k : Fin 6, ∀ s : Fin 8, 0 ≤ goL 3 2 O (k.1 : Int) s.1 → φ (k.1 : Int) ≤ φ (goL 3 2 O (k.1 : Int) s.1) + prc s.1) : ∀ k s, s < 8 → 0 ≤ goL 3 2 O k s → φ k ≤ φ (goL 3 2 O k s) + prc s := by
  intro k s hs h0
  have hk := (go_is h0).1
  have h6 := hk.2.1
  have := h ⟨k.toNat, by have := hk.1; omega⟩ ⟨s, hs⟩
  simp only at this
  rw [show ((k.toNat : Nat) : Int) = k by have := hk.1; omega] at this
  exact this h0
theorem leA : ∀ k s, s < 8 → 0 ≤ goL 3 2 oA k s → phA k ≤ phA (goL 3 2 oA k s) + prc s := six13 (by decide)
theorem leB : ∀ k s, s < 8 → 0 ≤ goL 3 2 oB k s → phB k ≤ phB (goL 3 2 oB k s) + prc s := six13 (by decide)
theorem wkA5 : Wk 3 2 oA 5 5 0 := Wk.here ⟨by decide, by decide, rfl⟩
theorem wkA1 : Wk 3 2 oA 5 1 3 := Wk.step (n := 5) (c := 0) 1 (by decide) (by decide) (by decide) wkA5
theorem wkA2 : Wk 3 2 oA 5 2 2 := Wk.step (n := 5) (c := 0) 2 (by decide) (by decide) (by decide) wkA5
theorem wkA0 : Wk 3 2 oA 5 0 5 := Wk.step (n := 1) (c := 3) 0 (by decide) (by decide) (by decide) wkA1
theorem cA0 : cst 3 2 oA 5 0 = 5 := cst_is ⟨wkA0, fun c h => pot_le leA (by decide) h⟩
theorem cA1 : cst 3 2 oA 5 1 = 3 := cst_is ⟨wkA1, fun c h => pot_le leA (by decide) h⟩
theorem cA2 : cst 3 2 oA 5 2 = 2 := cst_is ⟨wkA2, fun c h => pot_le leA (by decide) h⟩
theorem cA5 : cst 3 2 oA 5 5 = 0 := cst_is ⟨wkA5, fun c h => pot_le leA (by decide) h⟩
theorem wkB5 : Wk 3 2 oB 5 5 0 := Wk.here ⟨by decide, by decide, rfl⟩
theorem wkB4 : Wk 3 2 oB 5 4 2 := Wk.step (n := 5) (c := 0) 0 (by decide) (by decide) (by decide) wkB5
theorem wkB3 : Wk 3 2 oB 5 3 4 := Wk.step (n := 4) (c := 2) 0 (by decide) (by decide) (by decide) wkB4
theorem wkB0 : Wk 3 2 oB 5 0 6 := Wk.step (n := 3) (c := 4) 2 (by decide) (by decide) (by decide) wkB3
theorem cB0 : cst 3 2 oB 5 0 = 6 := cst_is ⟨wkB0, fun c h => pot_le leB (by decide) h⟩
theorem erA : er13 3 2 oA 6 0 5 = 0 := by
  unfold er13
  rw [if_pos (by decide), if_pos (by decide), cA0]
  rfl
theorem erB : er13 3 2 oB 6 0 5 = 0 := by
  unfold er13
  rw [if_pos (by decide), if_pos (by decide), cB0]
  rfl
theorem nxA0 : IsNx 3 2 oA (cst 3 2 oA 5) 0 1 := ⟨0, by decide, ⟨by decide, by rw [show goL 3 2 oA 0 0 = 1 by decide, cA1]; decide, by rw [show goL 3 2 oA 0 0 = 1 by decide, cA1, cA0]; decide⟩, fun t ht => absurd ht (by omega), by decide⟩
theorem nxA1 : IsNx 3 2 oA (cst 3 2 oA 5) 1 5 := ⟨1, by decide, ⟨by decide, by rw [show goL 3 2 oA 1 1 = 5 by decide, cA5]; decide, by rw [show goL 3 2 oA 1 1 = 5 by decide, cA5, cA1]; decide⟩, fun t ht => by
  obtain rfl : t = 0 := by omega
  rintro ⟨_, _, h⟩
  rw [show goL 3 2 oA 1 0 = 2 by decide, cA2, cA1] at h
  exact absurd h (by decide), by decide⟩
theorem pathA {l : List Int} (h : Pth 3 2 oA (cst 3 2 oA 5) 5 0 l) : l = [0, 1, 5] := by
  generalize hz : (0 : Int) = z at h
  cases h with
  | last => omega
  | more h1 h2 h3 =>
    subst hz
    obtain rfl := nxA0.same h2
    generalize hz : (1 : Int) = z at h3
    cases h3 with
    | last => omega
    | more h4 h5 h6 =>
      subst hz
      obtain rfl := nxA1.same h5
      generalize hz : (5 : Int) = z at h6
      cases h6 with
      | last => subst hz; rfl
      | more h7 h8 h9 => subst hz; rw [cA5] at h7; omega

theorem three13_any (w : World) : Calls Tryd.prog 26 #[] w fun e w' =>
    ∃ g, e = .returned (.agg #[.int .i64 3, .int .i64 2, .slice (some ⟨g, 0, none⟩) 6 6]) ∧ w.heap.size ≤ g ∧ w'.heap[g]? = some (.cells #[.bool true, .bool true, .bool true, .bool true, .bool true, .bool true] 4 (0, 0)) ∧ RowKit.Below w.heap.size w w' := by
  go_enter Tryd.func26, Tryd.ntmps26
  go_wp2
  have HB : Hid (((w.alloc (.cells #[.int .i64 3, .int .i64 2, .slice (some ⟨w.heap.size + 1, 0, none⟩) 6 6] 24)).alloc (.cells #[.bool true, .bool true, .bool true, .bool true, .bool true, .bool true] 4)).heap[w.heap.size + 1]? = some (.cells #[.bool true, .bool true, .bool true, .bool true, .bool true, .bool true] 4 (0, 0))) := by
    show _ = _
    have := World.alloc_heap_new (w.alloc (.cells #[.int .i64 3, .int .i64 2, .slice (some ⟨w.heap.size + 1, 0, none⟩) 6 6] 24)) (.cells #[.bool true, .bool true, .bool true, .bool true, .bool true, .bool true] 4)
    rw [size_alloc] at this
    exact this
  have K0 := (Kx.new w 24 #[.int .i64 3, .int .i64 2, .slice (some ⟨w.heap.size + 1, 0, none⟩) 6 6]).alloc (.cells #[.bool true, .bool true, .bool true, .bool true, .bool true, .bool true] 4)
  have e0 := K0.cell 0 rfl
  have e1 := K0.cell 1 rfl
  have e2 := K0.cell 2 rfl
  have HK := Lib.hid K0.below
  clear K0
  generalize (w.alloc (.cells #[.int .i64 3, .int .i64 2, .slice (some ⟨w.heap.size + 1, 0, none⟩) 6 6] 24)).alloc (.cells #[.bool true, .bool true, .bool true, .bool true, .bool true, .bool true] 4) = X at *
  refine bodyPost_ret (v := .agg #[.int .i64 3, .int .i64 2, .slice (some ⟨w.heap.size + 1, 0, none⟩) 6 6]) (by simp [results, Tryd.results26, go_sem, e0, e1, e2]) rfl ?_
  exact ⟨w.heap.size + 1, rfl, by omega, HB.out, HK.out⟩
end Go.Proofs.YtcipedijjemghaaDoor
