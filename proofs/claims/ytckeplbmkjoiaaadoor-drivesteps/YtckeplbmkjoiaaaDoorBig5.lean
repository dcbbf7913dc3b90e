/- Contracts of the reference's numbers without end, fifth part: Sub, Cmp, Fits, Is. -/
import Derived.Test.YtckeplbmkjoiaaaDoorBig4
namespace Go.Proofs.YtckeplbmkjoiaaaDoor
open Go.RowKit
set_option linter.unusedVariables false

theorem BigIs.out {w : World} {v : Value} {z : Int} (h : BigIs w v z) : ∃ A c ds, v = .agg #[.bool (decide (z < 0)), .slice A ds.length c] ∧ Hid (BigAt w A c ds z) ∧ Hid (∀ W, Below w.heap.size w W → BigIs W (.agg #[.bool (decide (z < 0)), .slice A ds.length c]) z) := by
  obtain ⟨A, c, ds, rfl, hat⟩ := h
  exact ⟨A, c, ds, rfl, hat, fun W hb => ⟨A, c, ds, rfl, hat.keep hb⟩⟩
/-- The same with letters for what is known of it. -/
theorem BigIs.letters {w : World} {v : Value} {z : Int} (h : BigIs w v z) : ∃ A c n neg, v = .agg #[.bool neg, .slice A n c] ∧ Hid (neg = decide (z < 0)) ∧ Hid ((n = 0) = (z = 0)) ∧ n ≤ c ∧ Hid (∀ W, Below w.heap.size w W → BigIs W (.agg #[.bool neg, .slice A n c]) z) := by
  obtain ⟨A, c, ds, rfl, hat⟩ := h
  refine ⟨A, c, ds.length, _, rfl, rfl, ?_, hat.cap, fun W hb => ⟨A, c, ds, rfl, hat.keep hb⟩⟩
  have h1 := canon_zero hat.canon
  rw [hat.is] at h1
  have h2 : ds.length = 0 ↔ ds = [] := List.length_eq_zero_iff
  apply propext
  rw [h2, ← h1, Int.natAbs_eq_zero]

/-- A box that lies elsewhere is written: the number stays. -/
theorem BigIs.store {w : World} {v u : Value} {z : Int} {B : Nat} {b0 b : Bool} (h : BigIs w v z) (hB : w.cell? ⟨B, 0, none⟩ = some (.bool b0)) : BigIs ((w.setCell ⟨B, 0, none⟩ (.bool b)).setCell ⟨B, 1, none⟩ u) v z := by
  obtain ⟨A, c, ds, rfl, hat⟩ := h
  exact ⟨A, c, ds, rfl, hat.store hB⟩

set_option maxHeartbeats 2000000 in
theorem subB_any (v u : Value) (x y : Int) (w : World) (hv : BigIs w v x) (hu : BigIs w u y) (hx : Small x) (hy : Small y) :
    Calls Tryd.prog 50 #[v, u] w (RetBig (x - y) w) := by
  obtain ⟨A, c, na, nx, rfl, _, _, _, HV⟩ := hv.letters
  obtain ⟨B, d, nb, ny, rfl, _, _, _, HU⟩ := hu.letters
  have SX := Lib.hid hx
  have SY := Lib.hid hy
  have SY' : Hid (Small (-y)) := by show Small (-y); unfold Small at *; omega
  clear hx hy hv hu
  go_enter Tryd.func50, Tryd.ntmps50
  go_wp2_with fail
  have hX := Boxes.mk3 w nx ny (.slice A na c) (.slice B nb d) 59
  generalize ((w.alloc (Obj.cells #[Value.bool nx, Value.slice A na c] 59)).alloc (Obj.cells #[Value.bool ny, Value.slice B nb d] 59)).alloc (Obj.cells #[Value.bool false, Value.slice none 0 0] 59) = W at hX ⊢
  have HX := Lib.hid hX
  obtain ⟨c0, c1, c2, c3, c4, c5, f4, f5, _, _⟩ := hX
  go_region_held3 (fun w' => w'.cell? ⟨w.heap.size, 0, none⟩ = some (.bool nx) ∧ w'.cell? ⟨w.heap.size, 1, none⟩ = some (.slice A na c) ∧ w'.cell? ⟨w.heap.size + 1, 0, none⟩ = some (.bool ny) ∧ w'.cell? ⟨w.heap.size + 1, 1, none⟩ = some (.slice B nb d))
    (go_keep)
    (first
      | (go_at_call 58; refine (neg_any _ y _ (HU.out _ HX.out.below.drew) SY.out).mono ?_; rintro e w1 ⟨v1, rfl, hbig1, hb1'⟩; have HB1 : Hid (Below W.heap.size W w1) := (Below.refl W.heap.size W).drew.trans hb1'; clear hb1'; have HV1 := Lib.hid hbig1; clear hbig1; obtain ⟨k0, k1, k2, k3, k4, k5, g4, g5, _, _⟩ := HX.out.keep HB1.out)
      | (go_at_call 54; refine (addB_any _ v1 x (-y) _ (HV.out _ (HX.out.below.trans (HB1.out.mono HX.out.below.size))) HV1.out SX.out SY'.out).mono ?_; rintro e w2 ⟨v2, rfl, ⟨A2, c2', ds2, rfl, hat2⟩, hb2'⟩; have HB2 : Hid (Below W.heap.size W w2) := HB1.out.trans (hb2'.mono HB1.out.size); clear hb2'; have HAT2 := Lib.hid hat2; clear hat2; obtain ⟨k0, k1, k2, k3, k4, k5, g4, g5, _, _⟩ := HX.out.keep HB2.out; have m0 := fun x y => two_far (x := x) (y := y) (show w.heap.size ≠ w.heap.size + 1 + 1 by omega) k0; have m1 := fun x y => two_far (x := x) (y := y) (show w.heap.size ≠ w.heap.size + 1 + 1 by omega) k1; have m2 := fun x y => two_far (x := x) (y := y) (show w.heap.size + 1 ≠ w.heap.size + 1 + 1 by omega) k2; have m3 := fun x y => two_far (x := x) (y := y) (show w.heap.size + 1 ≠ w.heap.size + 1 + 1 by omega) k3))
  clear m0 m1 m2 m3
  go_wp2
  refine bodyPost_ret (v := .agg #[.bool (decide (x + -y < 0)), .slice A2 ds2.length c2']) (by simp [results, Tryd.results50, go_sem, k4, k5]) rfl ?_
  rw [show x - y = x + -y by omega]
  exact RetBig.box (b0 := false) HAT2.out k4 (HX.out.below.trans (HB2.out.mono HX.out.below.size)) (by omega)

/-- Which of two numbers is the greater one. -/
def cmpZ (x y : Int) : Int := if x = y then 0 else if x < y then -1 else 1

set_option maxHeartbeats 2000000 in
theorem cmp_any (v u : Value) (x y : Int) (w : World) (hv : BigIs w v x) (hu : BigIs w u y) (hx : Small x) (hy : Small y) :
    Calls Tryd.prog 59 #[v, u] w (Ret (.int .i64 (cmpZ x y)) w) := by
  obtain ⟨A, c, na, nx, rfl, _, _, _, HV⟩ := hv.letters
  obtain ⟨B, d, nb, ny, rfl, _, _, _, HU⟩ := hu.letters
  have SX := Lib.hid hx
  have SY := Lib.hid hy
  clear hx hy hv hu
  go_enter Tryd.func59, Tryd.ntmps59
  go_wp2_with fail
  refine (subB_any _ _ x y _ (HV.out _ (((Below.refl _ _).alloc (Nat.le_refl _) _).alloc (by simp) _)) (HU.out _ (((Below.refl _ _).alloc (Nat.le_refl _) _).alloc (by simp) _)) SX.out SY.out).mono ?_
  rintro e w1 ⟨v1, rfl, hbig1, hb1⟩
  obtain ⟨A1, c1, n1, neg1, rfl, HN, HZ, hnc, _⟩ := hbig1.letters
  have HB : Hid (Below w.heap.size w w1) := (((Below.refl _ _).alloc (Nat.le_refl _) _).alloc (by simp) _).trans (hb1.mono (by simp; omega))
  clear hbig1 hb1
  rcases Int.lt_trichotomy x y with h | h | h
  · have HC : Hid (cmpZ x y = -1) := by show cmpZ x y = -1; unfold cmpZ; rw [if_neg (by omega), if_pos h]
    have hn1 : neg1 = true := by rw [HN.out]; simp; omega
    subst hn1
    have hz1 : ((n1 : Int) == 0) = false := by
      have : ¬ n1 = 0 := by rw [HZ.out]; omega
      simpa using this
    clear h
    go_wp2
    go_ret
    exact Ret.mk (by rw [HC.out]; rfl) (HB.out.alloc HB.out.size _)
  · have HC : Hid (cmpZ x y = 0) := by show cmpZ x y = 0; unfold cmpZ; rw [if_pos h]
    have hz1 : n1 = 0 := by rw [HZ.out]; omega
    subst hz1
    clear h
    go_wp2
    go_ret
    exact Ret.mk (by rw [HC.out]; rfl) (HB.out.alloc HB.out.size _)
  · have HC : Hid (cmpZ x y = 1) := by show cmpZ x y = 1; unfold cmpZ; rw [if_neg (by omega), if_neg (by omega)]
    have hn1 : neg1 = false := by rw [HN.out]; simp; omega
    subst hn1
    have hz1 : ((n1 : Int) == 0) = false := by
      have : ¬ n1 = 0 := by rw [HZ.out]; omega
      simpa using this
    clear h
    go_wp2
    go_ret
    exact Ret.mk (by rw [HC.out]; rfl) (HB.out.alloc HB.out.size _)

theorem small64 {a : Int} (h0 : -9223372036854775808 ≤ a) (h1 : a ≤ 9223372036854775807) : Small a := by
  unfold Small
  have h : a.natAbs ≤ 9223372036854775808 := by omega
  exact Nat.lt_of_le_of_lt h (by decide)

/-- A box of a number's two cells, in a world behind it. -/
structure Box1 (w W : World) (p : Bool) (s : Value) : Prop where
  c0 : W.cell? ⟨w.heap.size, 0, none⟩ = some (.bool p)
  c1 : W.cell? ⟨w.heap.size, 1, none⟩ = some s
  below : Below w.heap.size w W
theorem Box1.mk1 (w : World) (p : Bool) (s : Value) (T : TypeId) : Box1 w (w.alloc (Obj.cells #[.bool p, s] T)) p s :=
  ⟨by rw [cell_newB _ _ _ _ _ rfl]; rfl, by rw [cell_newB _ _ _ _ _ rfl]; rfl, (Below.refl _ _).alloc (Nat.le_refl _) _⟩
theorem Box1.keep {w W w1 : World} {p : Bool} {s : Value} (h : Box1 w W p s) (hb : Below W.heap.size W w1) : Box1 w w1 p s :=
  ⟨kcB hb h.c0, kcB hb h.c1, h.below.trans (hb.mono h.below.size)⟩

end Go.Proofs.YtckeplbmkjoiaaaDoor
