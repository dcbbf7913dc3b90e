/- Contracts of package relief, first part: bytes that lie in memory; whether a map may be; whether a place is on it: the program's and the reference's. -/
import Derived.Test.YtcipedijjemghaaDoorRows
import Derived.WalkKit
import Derived.WalkSpells
import Derived.WalkLawsBesides
import Derived.Lib.Hide
import Derived.Deep.QuietTactic
import Derived.BigQuiet
namespace Go.Proofs.YtcipedijjemghaaDoor
open Go.RowKit
set_option linter.unusedVariables false

/-- The call returns the value v; nothing that was there has turned. -/
def Ret (v : Value) (w : World) (e : Ending) (w' : World) : Prop := e = .returned v ∧ Below w.heap.size w w'
theorem Ret.mk {v u : Value} {w w' : World} (h : u = v) (hb : Below w.heap.size w w') : Ret v w (.returned u) w' := ⟨by rw [h], hb⟩
theorem two_eq {k j : IntKind} {a b c d : Int} (h : a = c) (g : b = d) : Value.tuple #[.int k a, .int j b] = .tuple #[.int k c, .int j d] := by rw [h, g]

/-- The bytes p 0 .. p (n - 1) lie at A. -/
def Bs (w : World) (A : Option Addr) (n : Nat) (p : Nat → Nat) : Prop :=
  0 < n → ∃ g o, A = some ⟨g, o, none⟩ ∧ g < w.heap.size ∧ ∀ i, i < n → w.cell? ⟨g, o + i, none⟩ = some (.int .u8 (p i : Int))
theorem Bs.keep {w w' : World} {A : Option Addr} {n : Nat} {p : Nat → Nat} (h : Bs w A n p) (hb : Below w.heap.size w w') : Bs w' A n p := by
  intro hn
  obtain ⟨g, o, e, hg, hc⟩ := h hn
  exact ⟨g, o, e, Nat.lt_of_lt_of_le hg hb.size, fun i hi => (hb.cell (p := ⟨g, o + i, none⟩) hg).trans (hc i hi)⟩
theorem Bs.alloc {w : World} {A : Option Addr} {n : Nat} {p : Nat → Nat} (h : Bs w A n p) (o : Obj) : Bs (w.alloc o) A n p :=
  h.keep ((Below.refl _ _).alloc (Nat.le_refl _) _)
theorem Bs.setNew {w : World} {A : Option Addr} {n : Nat} {p : Nat → Nat} {B : Nat} (h : Bs w A n p) (hB : ∀ g o, A = some ⟨g, o, none⟩ → g < B) {q : Addr} (hq : B ≤ q.block) (u : Value) : Bs (w.setCell q u) A n p := by
  intro hn
  obtain ⟨g, o, e, hg, hc⟩ := h hn
  have := hB g o e
  exact ⟨g, o, e, by simpa using hg, fun i hi => (World.cell?_setCell_other _ _ _ _ (fun he => by subst he; simp at hq; omega)).trans (hc i hi)⟩
theorem Bs.take {w : World} {A : Option Addr} {n m : Nat} {p : Nat → Nat} (h : Bs w A n p) (hm : m ≤ n) : Bs w A m p := by
  intro hn
  obtain ⟨g, o, e, hg, hc⟩ := h (by omega)
  exact ⟨g, o, e, hg, fun i hi => hc i (by omega)⟩
theorem Bs.congr {w : World} {A : Option Addr} {n : Nat} {p q : Nat → Nat} (h : Bs w A n p) (e : ∀ i, i < n → p i = q i) : Bs w A n q := by
  intro hn
  obtain ⟨g, o, e1, hg, hc⟩ := h hn
  exact ⟨g, o, e1, hg, fun i hi => by rw [← e i hi]; exact hc i hi⟩

theorem cell_old (w : World) (o : Obj) (b i : Nat) (h : b < w.heap.size) : (w.alloc o).cell? ⟨b, i, none⟩ = w.cell? ⟨b, i, none⟩ := ((Below.refl w.heap.size w).alloc (Nat.le_refl _) o).cell (p := ⟨b, i, none⟩) h
theorem frozen_old (w : World) (o : Obj) (b i : Nat) (h : b < w.heap.size) : (w.alloc o).frozen? ⟨b, i, none⟩ = w.frozen? ⟨b, i, none⟩ := ((Below.refl w.heap.size w).alloc (Nat.le_refl _) o).frozen (p := ⟨b, i, none⟩) h
theorem cell_new (w : World) (cs : Array Value) (t : TypeId) (n i : Nat) (h : w.heap.size = n) : (w.alloc (.cells cs t)).cell? ⟨n, i, none⟩ = cs[i]? := by subst h; simp
theorem frozen_new (w : World) (cs : Array Value) (t : TypeId) (n i : Nat) (h : w.heap.size = n) : (w.alloc (.cells cs t)).frozen? ⟨n, i, none⟩ = false := by subst h; simp
theorem size_alloc (w : World) (o : Obj) : (w.alloc o).heap.size = w.heap.size + 1 := by simp
theorem kc {W w1 : World} {v : Value} {b i : Nat} (hb : Below W.heap.size W w1) (hc : W.cell? ⟨b, i, none⟩ = some v) : w1.cell? ⟨b, i, none⟩ = some v :=
  (hb.cell (p := ⟨b, i, none⟩) (World.block_lt_of_cell? W _ hc)).trans hc
theorem kf {W w1 : World} {v : Value} {b i : Nat} (hb : Below W.heap.size W w1) (hc : W.cell? ⟨b, i, none⟩ = some v) (hf : W.frozen? ⟨b, i, none⟩ = false) : w1.frozen? ⟨b, i, none⟩ = false :=
  (hb.frozen (p := ⟨b, i, none⟩) (World.block_lt_of_cell? W _ hc)).trans hf
theorem cell_set {w : World} {b i : Nat} {u v : Value} (h : w.cell? ⟨b, i, none⟩ = some u) : (w.setCell ⟨b, i, none⟩ v).cell? ⟨b, i, none⟩ = some v := World.cell?_setCell_same _ _ _ h
theorem cell_far {w : World} {b i c j : Nat} {u v : Value} (h : w.cell? ⟨b, i, none⟩ = some u) (hne : c ≠ b ∨ j ≠ i) : (w.setCell ⟨c, j, none⟩ v).cell? ⟨b, i, none⟩ = some u :=
  (World.cell?_setCell_other _ _ _ _ (fun e => by injection e with e1 e2; omega)).trans h

/-- Block g holds the four values, and may be written; it is newer than w, and what is older than it is as it was. -/
structure Bx (w : World) (g : Nat) (X : World) (a b c d : Value) : Prop where
  ge : w.heap.size ≤ g
  c0 : X.cell? ⟨g, 0, none⟩ = some a
  c1 : X.cell? ⟨g, 1, none⟩ = some b
  c2 : X.cell? ⟨g, 2, none⟩ = some c
  c3 : X.cell? ⟨g, 3, none⟩ = some d
  f0 : X.frozen? ⟨g, 0, none⟩ = false
  f1 : X.frozen? ⟨g, 1, none⟩ = false
  f2 : X.frozen? ⟨g, 2, none⟩ = false
  f3 : X.frozen? ⟨g, 3, none⟩ = false
  below : Below w.heap.size w X
theorem Bx.keep {w X Y : World} {g : Nat} {a b c d : Value} (h : Bx w g X a b c d) (hb : Below X.heap.size X Y) : Bx w g Y a b c d :=
  ⟨h.ge, kc hb h.c0, kc hb h.c1, kc hb h.c2, kc hb h.c3, kf hb h.c0 h.f0, kf hb h.c1 h.f1, kf hb h.c2 h.f2, kf hb h.c3 h.f3, h.below.trans (hb.mono h.below.size)⟩
theorem Bx.drew {w X : World} {g : Nat} {a b c d : Value} (h : Bx w g X a b c d) : Bx w g X.drew a b c d := h.keep (Below.refl _ _).drew
theorem Bx.new (w : World) (a b c d : Value) (t : TypeId) : Bx w w.heap.size (w.alloc (.cells #[a, b, c, d] t)) a b c d :=
  ⟨Nat.le_refl _, by rw [cell_new _ _ _ _ _ rfl]; rfl, by rw [cell_new _ _ _ _ _ rfl]; rfl, by rw [cell_new _ _ _ _ _ rfl]; rfl, by rw [cell_new _ _ _ _ _ rfl]; rfl,
    frozen_new _ _ _ _ _ rfl, frozen_new _ _ _ _ _ rfl, frozen_new _ _ _ _ _ rfl, frozen_new _ _ _ _ _ rfl, (Below.refl _ _).alloc (Nat.le_refl _) _⟩
/-- A new box behind another world. -/
theorem Bx.next {w X : World} (hb : Below w.heap.size w X) (a b c d : Value) (t : TypeId) : Bx w X.heap.size (X.alloc (.cells #[a, b, c, d] t)) a b c d :=
  ⟨hb.size, by rw [cell_new _ _ _ _ _ rfl]; rfl, by rw [cell_new _ _ _ _ _ rfl]; rfl, by rw [cell_new _ _ _ _ _ rfl]; rfl, by rw [cell_new _ _ _ _ _ rfl]; rfl,
    frozen_new _ _ _ _ _ rfl, frozen_new _ _ _ _ _ rfl, frozen_new _ _ _ _ _ rfl, frozen_new _ _ _ _ _ rfl, hb.alloc hb.size _⟩
/-- The world with four cells of a block written. -/
def put4 (X : World) (g : Nat) (a b c d : Value) : World := (((X.setCell ⟨g, 0, none⟩ a).setCell ⟨g, 1, none⟩ b).setCell ⟨g, 2, none⟩ c).setCell ⟨g, 3, none⟩ d
theorem Bx.put {w X : World} {g : Nat} {a b c d : Value} (h : Bx w g X a b c d) (a' b' c' d' : Value) : Bx w g (put4 X g a' b' c' d') a' b' c' d' := by
  unfold put4
  refine ⟨h.ge, ?_, ?_, ?_, ?_, ?_, ?_, ?_, ?_, ?_⟩
  · exact cell_far (cell_far (cell_far (cell_set h.c0) (by omega)) (by omega)) (by omega)
  · exact cell_far (cell_far (cell_set (cell_far h.c1 (by omega))) (by omega)) (by omega)
  · exact cell_far (cell_set (cell_far (cell_far h.c2 (by omega)) (by omega))) (by omega)
  · exact cell_set (cell_far (cell_far (cell_far h.c3 (by omega)) (by omega)) (by omega))
  · simpa [World.frozen?_setCell] using h.f0
  · simpa [World.frozen?_setCell] using h.f1
  · simpa [World.frozen?_setCell] using h.f2
  · simpa [World.frozen?_setCell] using h.f3
  · exact (((h.below.setCell (p := ⟨g, 0, none⟩) h.ge _).setCell (p := ⟨g, 1, none⟩) h.ge _).setCell (p := ⟨g, 2, none⟩) h.ge _).setCell (p := ⟨g, 3, none⟩) h.ge _
/-- Bytes of another block are not touched by it. -/
theorem Bs.put {w : World} {A : Option Addr} {n : Nat} {p : Nat → Nat} (h : Bs w A n p) {g : Nat} (hA : ∀ x, A = some x → x.block ≠ g) (a b c d : Value) : Bs (put4 w g a b c d) A n p := by
  intro hn
  obtain ⟨g0, o, e, hg, hc⟩ := h hn
  have hne : g ≠ g0 := fun e1 => hA _ e e1.symm
  unfold put4
  refine ⟨g0, o, e, by simpa using hg, fun i hi => ?_⟩
  exact cell_far (cell_far (cell_far (cell_far (hc i hi) (.inl hne)) (.inl hne)) (.inl hne)) (.inl hne)
theorem below_put {w X : World} {g : Nat} (h : Below w.heap.size w X) (hg : w.heap.size ≤ g) (a b c d : Value) : Below w.heap.size w (put4 X g a b c d) := by
  unfold put4
  exact (((h.setCell (p := ⟨g, 0, none⟩) hg _).setCell (p := ⟨g, 1, none⟩) hg _).setCell (p := ⟨g, 2, none⟩) hg _).setCell (p := ⟨g, 3, none⟩) hg _

/-- W, H and Water as they must be. -/
def Sides (W H T : Int) : Prop := 1 ≤ W ∧ W ≤ 64 ∧ 1 ≤ H ∧ H ≤ 64 ∧ 0 ≤ T ∧ T ≤ 255
instance (W H T : Int) : Decidable (Sides W H T) := by unfold Sides; exact inferInstance
/-- The number of Check's error. -/
def chk (W H T : Int) (n : Nat) : Int := if Sides W H T then (if (n : Int) < (W + 1) * (H + 1) then 2 else if (W + 1) * (H + 1) < (n : Int) then 7 else 0) else 1
theorem area_bd {W H : Int} (a : 1 ≤ W) (b : W ≤ 64) (c : 1 ≤ H) (d : H ≤ 64) : 0 ≤ (W + 1) * (H + 1) ∧ (W + 1) * (H + 1) ≤ 4225 := by
  constructor
  · exact Int.mul_nonneg (by omega) (by omega)
  · have h : (W + 1) * (H + 1) ≤ 65 * 65 := Int.mul_le_mul (by omega) (by omega) (by omega) (by omega)
    omega

set_option maxHeartbeats 400000 in
theorem side_in (c : Int) (w : World) (h1 : 1 ≤ c) (h2 : c ≤ 64) : Calls Tryd.prog 46 #[.int .i64 c] w fun e w' => e = .returned (.bool true) ∧ w = w' := by
  go_enter Tryd.func46, Tryd.ntmps46
  go_wp2
  go_ret
  exact ⟨by simp, rfl⟩
set_option maxHeartbeats 400000 in
theorem side_out (c : Int) (w : World) (h : c < 1 ∨ 64 < c) : Calls Tryd.prog 46 #[.int .i64 c] w fun e w' => e = .returned (.bool false) ∧ w = w' := by
  rcases h with h | h
  · go_enter Tryd.func46, Tryd.ntmps46
    go_wp2
    go_ret
    exact ⟨rfl, rfl⟩
  · have h' : 1 ≤ c := by omega
    have hb : decide (c ≤ 64) = false := by simp; omega
    go_enter Tryd.func46, Tryd.ntmps46
    go_wp2
    go_ret
    exact ⟨rfl, rfl⟩

set_option maxHeartbeats 1000000 in
theorem check_any (W H T : Int) (A : Option Addr) (n c : Nat) (w : World) (hn : n ≤ maxLen) :
    Calls Tryd.prog 33 #[.agg #[.int .i64 W, .int .i64 H, .int .i64 T, .slice A n c]] w (Ret (.int .i64 (chk W H T n)) w) := by
  unfold maxLen at hn
  by_cases hW : W < 1 ∨ 64 < W
  · have HE : Hid (chk W H T n = 1) := by show _ = _; unfold chk; rw [if_neg (by unfold Sides; omega)]
    go_enter Tryd.func33, Tryd.ntmps33
    go_wp2_with fail
    refine (side_out W _ hW).mono ?_
    rintro e w1 ⟨rfl, rfl⟩
    clear hW
    go_wp2
    go_ret
    exact Ret.mk (congrArg _ HE.out.symm) ((Below.refl _ _).alloc (Nat.le_refl _) _)
  · have hW1 : 1 ≤ W := by omega
    have hW2 : W ≤ 64 := by omega
    clear hW
    by_cases hH : H < 1 ∨ 64 < H
    · have HE : Hid (chk W H T n = 1) := by show _ = _; unfold chk; rw [if_neg (by unfold Sides; omega)]
      go_enter Tryd.func33, Tryd.ntmps33
      go_wp2_with fail
      refine (side_in W _ hW1 hW2).mono ?_
      rintro e w1 ⟨rfl, rfl⟩
      go_wp2_with fail
      refine (side_out H _ hH).mono ?_
      rintro e w1 ⟨rfl, rfl⟩
      clear hH
      go_wp2
      go_ret
      exact Ret.mk (congrArg _ HE.out.symm) ((Below.refl _ _).alloc (Nat.le_refl _) _)
    · have hH1 : 1 ≤ H := by omega
      have hH2 : H ≤ 64 := by omega
      clear hH
      obtain ⟨a0, a1⟩ := area_bd hW1 hW2 hH1 hH2
      rcases Int.lt_or_le T 0 with hT | hT
      · have HE : Hid (chk W H T n = 1) := by show _ = _; unfold chk; rw [if_neg (by unfold Sides; omega)]
        go_enter Tryd.func33, Tryd.ntmps33
        go_wp2_with fail
        refine (side_in W _ hW1 hW2).mono ?_
        rintro e w1 ⟨rfl, rfl⟩
        go_wp2_with fail
        refine (side_in H _ hH1 hH2).mono ?_
        rintro e w1 ⟨rfl, rfl⟩
        go_wp2
        go_ret
        exact Ret.mk (congrArg _ HE.out.symm) ((Below.refl _ _).alloc (Nat.le_refl _) _)
      · rcases Int.lt_or_le 255 T with hT2 | hT2
        · have HE : Hid (chk W H T n = 1) := by show _ = _; unfold chk; rw [if_neg (by unfold Sides; omega)]
          go_enter Tryd.func33, Tryd.ntmps33
          go_wp2_with fail
          refine (side_in W _ hW1 hW2).mono ?_
          rintro e w1 ⟨rfl, rfl⟩
          go_wp2_with fail
          refine (side_in H _ hH1 hH2).mono ?_
          rintro e w1 ⟨rfl, rfl⟩
          go_wp2
          go_ret
          exact Ret.mk (congrArg _ HE.out.symm) ((Below.refl _ _).alloc (Nat.le_refl _) _)
        · have hS : Sides W H T := ⟨hW1, hW2, hH1, hH2, hT, hT2⟩
          rcases Int.lt_trichotomy (n : Int) ((W + 1) * (H + 1)) with hc | hc | hc
          · have HE : Hid (chk W H T n = 2) := by show _ = _; unfold chk; rw [if_pos hS, if_pos hc]
            go_enter Tryd.func33, Tryd.ntmps33
            go_wp2_with fail
            refine (side_in W _ hW1 hW2).mono ?_
            rintro e w1 ⟨rfl, rfl⟩
            go_wp2_with fail
            refine (side_in H _ hH1 hH2).mono ?_
            rintro e w1 ⟨rfl, rfl⟩
            go_wp2
            go_ret
            exact Ret.mk (congrArg _ HE.out.symm) ((Below.refl _ _).alloc (Nat.le_refl _) _)
          · have HE : Hid (chk W H T n = 0) := by show _ = _; unfold chk; rw [if_pos hS, if_neg (by omega), if_neg (by omega)]
            have hc1 : ¬ (n : Int) < (W + 1) * (H + 1) := by omega
            have hc2 : ¬ (W + 1) * (H + 1) < (n : Int) := by omega
            clear hc
            go_enter Tryd.func33, Tryd.ntmps33
            go_wp2_with fail
            refine (side_in W _ hW1 hW2).mono ?_
            rintro e w1 ⟨rfl, rfl⟩
            go_wp2_with fail
            refine (side_in H _ hH1 hH2).mono ?_
            rintro e w1 ⟨rfl, rfl⟩
            go_wp2
            go_ret
            exact Ret.mk (congrArg _ HE.out.symm) ((Below.refl _ _).alloc (Nat.le_refl _) _)
          · have HE : Hid (chk W H T n = 7) := by show _ = _; unfold chk; rw [if_pos hS, if_neg (by omega), if_pos hc]
            have hc1 : ¬ (n : Int) < (W + 1) * (H + 1) := by omega
            go_enter Tryd.func33, Tryd.ntmps33
            go_wp2_with fail
            refine (side_in W _ hW1 hW2).mono ?_
            rintro e w1 ⟨rfl, rfl⟩
            go_wp2_with fail
            refine (side_in H _ hH1 hH2).mono ?_
            rintro e w1 ⟨rfl, rfl⟩
            go_wp2
            go_ret
            exact Ret.mk (congrArg _ HE.out.symm) ((Below.refl _ _).alloc (Nat.le_refl _) _)

end Go.Proofs.YtcipedijjemghaaDoor
