/- Contracts of the reference's numbers without end, ninth part: Below. -/
import Derived.Test.YtnneinjmdkoopaaBig8
import Derived.Deep.RegionWith
namespace Go.Proofs.Ytnneinjmdkoopaa
open Go.RowKit
set_option linter.unusedVariables false

/-- A number no greater than any product of two int64s. -/
def Prod (x : Int) : Prop := x.natAbs ≤ 85070591730234615865843651857942052864
/-- A number no greater than an int64's size. -/
def Word (y : Int) : Prop := y.natAbs ≤ 9223372036854775808
theorem small_prod {x : Int} (h : Prod x) : Small x := Nat.lt_of_le_of_lt h (by decide)
theorem small_word {y : Int} (h : Word y) : Small y := Nat.lt_of_le_of_lt h (by decide)
theorem small_by {y : Int} (h : Word y) : Small (-9223372036854775808 * y) ∧ Small ((9223372036854775807 + 1) * y) ∧ Small (9223372036854775807 + 1) := by
  unfold Small
  rw [Int.natAbs_mul, Int.natAbs_mul]
  exact ⟨Nat.lt_of_le_of_lt (Nat.mul_le_mul (Nat.le_refl _) h) (by decide), Nat.lt_of_le_of_lt (Nat.mul_le_mul (Nat.le_refl _) h) (by decide), by decide⟩

/-- Two boxes. -/
structure Box2 (w W : World) (p q : Bool) (s t : Value) : Prop where
  c0 : W.cell? ⟨w.heap.size, 0, none⟩ = some (.bool p)
  c1 : W.cell? ⟨w.heap.size, 1, none⟩ = some s
  c2 : W.cell? ⟨w.heap.size + 1, 0, none⟩ = some (.bool q)
  c3 : W.cell? ⟨w.heap.size + 1, 1, none⟩ = some t
  f0 : W.frozen? ⟨w.heap.size, 0, none⟩ = false
  f1 : W.frozen? ⟨w.heap.size, 1, none⟩ = false
  f2 : W.frozen? ⟨w.heap.size + 1, 0, none⟩ = false
  f3 : W.frozen? ⟨w.heap.size + 1, 1, none⟩ = false
  below : Below w.heap.size w W
theorem Box2.mk2 (w : World) (p q : Bool) (s t : Value) (T : TypeId) : Box2 w ((w.alloc (Obj.cells #[.bool p, s] T)).alloc (Obj.cells #[.bool q, t] T)) p q s t := by
  have z1 := size_alloc w (Obj.cells #[.bool p, s] T)
  refine ⟨?_, ?_, ?_, ?_, ?_, ?_, ?_, ?_, ?_⟩
  · rw [cell_old _ _ _ _ (by omega), cell_new _ _ _ _ _ rfl]; rfl
  · rw [cell_old _ _ _ _ (by omega), cell_new _ _ _ _ _ rfl]; rfl
  · rw [cell_new _ _ _ _ _ z1]; rfl
  · rw [cell_new _ _ _ _ _ z1]; rfl
  · rw [frozen_old _ _ _ _ (by omega), frozen_new _ _ _ _ _ rfl]
  · rw [frozen_old _ _ _ _ (by omega), frozen_new _ _ _ _ _ rfl]
  · rw [frozen_new _ _ _ _ _ z1]
  · rw [frozen_new _ _ _ _ _ z1]
  · exact ((Below.refl _ _).alloc (Nat.le_refl _) _).alloc (by simp) _
theorem Box2.keep {w W w1 : World} {p q : Bool} {s t : Value} (h : Box2 w W p q s t) (hb : Below W.heap.size W w1) : Box2 w w1 p q s t :=
  ⟨kc hb h.c0, kc hb h.c1, kc hb h.c2, kc hb h.c3, kf hb h.c0 h.f0, kf hb h.c1 h.f1, kf hb h.c2 h.f2, kf hb h.c3 h.f3, h.below.trans (hb.mono h.below.size)⟩

set_option maxHeartbeats 4000000 in
theorem below_plus (v u : Value) (x y : Int) (w : World) (hv : BigIs w v x) (hu : BigIs w u y) (hx : Prod x) (hy : Word y) (hpos : 0 ≤ y) :
    Calls Try.prog 30 #[v, u] w (Ret (.tuple #[.bool (decide (cmpZ x (-9223372036854775808 * y) < 0)), .bool (decide (0 ≤ cmpZ x ((9223372036854775807 + 1) * y)))]) w) := by
  obtain ⟨A, ca, na, nx, rfl, _, _, _, HV⟩ := hv.letters
  obtain ⟨B, cb, nb, ny, rfl, HN, _, _, HU⟩ := hu.letters
  have SX := Lib.hid (small_prod hx)
  have SY := Lib.hid (small_word hy)
  have SP := Lib.hid (small_by hy)
  have SL := Lib.hid (small64 (a := -9223372036854775808) (by omega) (by omega))
  have SH := Lib.hid (small64 (a := 9223372036854775807) (by omega) (by omega))
  have S1 := Lib.hid (small64 (a := 1) (by omega) (by omega))
  have hny : ny = false := by rw [HN.out]; exact decide_eq_false (by omega)
  subst hny
  clear hv hu hx hy HN hpos
  generalize el : cmpZ x (-9223372036854775808 * y) = cl
  generalize eh : cmpZ x ((9223372036854775807 + 1) * y) = ch
  have HCL := Lib.hid el
  have HCH := Lib.hid eh
  clear el eh
  go_enter Try.func30, Try.ntmps30
  go_wp2_with fail
  have hX := Box2.mk2 w nx false (.slice A na ca) (.slice B nb cb) 28
  generalize (w.alloc (Obj.cells #[Value.bool nx, Value.slice A na ca] 28)).alloc (Obj.cells #[Value.bool false, Value.slice B nb cb] 28) = W at hX ⊢
  have HX := Lib.hid hX
  have HVW : Hid (∀ W', Below W.heap.size W W' → BigIs W' (.agg #[.bool nx, .slice A na ca]) x) := fun W' h => HV.out _ (HX.out.keep h).below
  have HUW : Hid (∀ W', Below W.heap.size W W' → BigIs W' (.agg #[.bool false, .slice B nb cb]) y) := fun W' h => HU.out _ (HX.out.keep h).below
  clear HV HU
  obtain ⟨c0, c1, c2, c3, _, _, _, _, _⟩ := hX
  go_region_held3 (fun w' => w'.cell? ⟨w.heap.size, 0, none⟩ = some (.bool nx) ∧ w'.cell? ⟨w.heap.size, 1, none⟩ = some (.slice A na ca) ∧ w'.cell? ⟨w.heap.size + 1, 0, none⟩ = some (.bool false) ∧ w'.cell? ⟨w.heap.size + 1, 1, none⟩ = some (.slice B nb cb))
    (go_keep)
    (first
      | (go_at_call 13; refine (of_any _ _ (by omega) (by omega)).mono ?_; rintro e w1 ⟨v1, rfl, hbig1, hb1'⟩; have HB1 : Hid (Below W.heap.size W w1) := (Below.refl W.heap.size W).drew.trans hb1'; have HV1 := Lib.hid hbig1; clear hb1' hbig1; obtain ⟨k0, k1, k2, k3, _, _, _, _, _⟩ := HX.out.keep HB1.out)
      | (go_at_call 20; refine (mulB_any v1 _ (-9223372036854775808) y _ HV1.out (HUW.out _ HB1.out) SL.out SY.out SP.out.1).mono ?_; rintro e w2 ⟨v2, rfl, hbig2, hb2'⟩; have HB2 : Hid (Below W.heap.size W w2) := HB1.out.trans (hb2'.mono HB1.out.size); have HV2 := Lib.hid hbig2; clear hb2' hbig2; obtain ⟨k0, k1, k2, k3, _, _, _, _, _⟩ := HX.out.keep HB2.out)
      | (go_at_call 36; refine (cmp_any _ v2 x (-9223372036854775808 * y) _ (HVW.out _ HB2.out) HV2.out SX.out SP.out.1).mono ?_; rw [HCL.out]; rintro e w3 ⟨rfl, hb3'⟩; have HB3 : Hid (Below W.heap.size W w3) := HB2.out.trans (hb3'.mono HB2.out.size); clear hb3'; obtain ⟨k0, k1, k2, k3, _, _, _, _, _⟩ := HX.out.keep HB3.out))
  have HY := Lib.hid (HX.out.keep HB3.out)
  have HVY : Hid (∀ W', Below w3.heap.size w3 W' → BigIs W' (.agg #[.bool nx, .slice A na ca]) x) := fun W' h => HVW.out _ (HB3.out.trans (h.mono HB3.out.size))
  have HUY : Hid (∀ W', Below w3.heap.size w3 W' → BigIs W' (.agg #[.bool false, .slice B nb cb]) y) := fun W' h => HUW.out _ (HB3.out.trans (h.mono HB3.out.size))
  clear HX HVW HUW HB1 HB2 HB3 HV1 HV2 c0 c1 c2 c3
  go_wp2_with fail
  obtain ⟨c0, c1, c2, c3, _, _, _, _, _⟩ := HY.out
  go_region_held3 (fun w' => w'.cell? ⟨w.heap.size, 0, none⟩ = some (.bool nx) ∧ w'.cell? ⟨w.heap.size, 1, none⟩ = some (.slice A na ca) ∧ w'.cell? ⟨w.heap.size + 1, 0, none⟩ = some (.bool false) ∧ w'.cell? ⟨w.heap.size + 1, 1, none⟩ = some (.slice B nb cb))
    (go_keep)
    (first
      | (go_at_call_of 13 (Value.int IntKind.i64 9223372036854775807); refine (of_any _ _ (by omega) (by omega)).mono ?_; rintro e w4 ⟨v4, rfl, hbig4, hb4'⟩; have HB4 : Hid (Below w3.heap.size w3 w4) := (Below.refl w3.heap.size w3).drew.trans hb4'; have HV4 := Lib.hid hbig4; clear hb4' hbig4; obtain ⟨k0, k1, k2, k3, _, _, _, _, _⟩ := HY.out.keep HB4.out)
      | (go_at_call_of 13 (Value.int IntKind.i64 1); refine (of_any _ _ (by omega) (by omega)).mono ?_; rintro e w5 ⟨v5, rfl, hbig5, hb5'⟩; have HB5 : Hid (Below w3.heap.size w3 w5) := HB4.out.trans (hb5'.mono HB4.out.size); have HV5 := Lib.hid hbig5; have HV4' := Lib.hid (HV4.out.keep hb5'); clear hb5' hbig5; obtain ⟨k0, k1, k2, k3, _, _, _, _, _⟩ := HY.out.keep HB5.out)
      | (go_at_call 21; refine (addB_any v4 v5 9223372036854775807 1 _ HV4'.out HV5.out SH.out S1.out).mono ?_; rintro e w6 ⟨v6, rfl, hbig6, hb6'⟩; have HB6 : Hid (Below w3.heap.size w3 w6) := HB5.out.trans (hb6'.mono HB5.out.size); have HV6 := Lib.hid hbig6; clear hb6' hbig6; obtain ⟨k0, k1, k2, k3, _, _, _, _, _⟩ := HY.out.keep HB6.out)
      | (go_at_call 20; refine (mulB_any v6 _ (9223372036854775807 + 1) y _ HV6.out (HUY.out _ HB6.out) SP.out.2.2 SY.out SP.out.2.1).mono ?_; rintro e w7 ⟨v7, rfl, hbig7, hb7'⟩; have HB7 : Hid (Below w3.heap.size w3 w7) := HB6.out.trans (hb7'.mono HB6.out.size); have HV7 := Lib.hid hbig7; clear hb7' hbig7; obtain ⟨k0, k1, k2, k3, _, _, _, _, _⟩ := HY.out.keep HB7.out)
      | (go_at_call 36; refine (cmp_any _ v7 x ((9223372036854775807 + 1) * y) _ (HVY.out _ HB7.out) HV7.out SX.out SP.out.2.1).mono ?_; rw [HCH.out]; rintro e w8 ⟨rfl, hb8'⟩; have HB8 : Hid (Below w3.heap.size w3 w8) := HB7.out.trans (hb8'.mono HB7.out.size); clear hb8'; obtain ⟨k0, k1, k2, k3, _, _, _, _, _⟩ := HY.out.keep HB8.out))
  go_wp2
  go_ret2
  exact Ret.mk rfl (HY.out.keep HB8.out).below

theorem Box2.store {w w2 : World} {p q p' q' : Bool} {s t s' t' : Value} (h : Box2 w w2 p q s t) :
    Box2 w ((((w2.setCell ⟨w.heap.size, 0, none⟩ (.bool p')).setCell ⟨w.heap.size, 1, none⟩ s').setCell ⟨w.heap.size + 1, 0, none⟩ (.bool q')).setCell ⟨w.heap.size + 1, 1, none⟩ t') p' q' s' t' := by
  have e0 : (w2.setCell ⟨w.heap.size, 0, none⟩ (.bool p')).cell? ⟨w.heap.size, 1, none⟩ = some s := by
    rw [World.cell?_setCell_other _ _ _ _ (fun e => by injection e with _ e2; cases e2)]
    exact h.c1
  have d0 : ((w2.setCell ⟨w.heap.size, 0, none⟩ (.bool p')).setCell ⟨w.heap.size, 1, none⟩ s').cell? ⟨w.heap.size, 0, none⟩ = some (.bool p') := by
    rw [World.cell?_setCell_other _ _ _ _ (fun e => by injection e with _ e2; cases e2)]
    exact World.cell?_setCell_same _ _ _ h.c0
  have d1 : ((w2.setCell ⟨w.heap.size, 0, none⟩ (.bool p')).setCell ⟨w.heap.size, 1, none⟩ s').cell? ⟨w.heap.size, 1, none⟩ = some s' := World.cell?_setCell_same _ _ _ e0
  have d2 : ((w2.setCell ⟨w.heap.size, 0, none⟩ (.bool p')).setCell ⟨w.heap.size, 1, none⟩ s').cell? ⟨w.heap.size + 1, 0, none⟩ = some (.bool q) := two_far (by omega) h.c2
  have d3 : ((w2.setCell ⟨w.heap.size, 0, none⟩ (.bool p')).setCell ⟨w.heap.size, 1, none⟩ s').cell? ⟨w.heap.size + 1, 1, none⟩ = some t := two_far (by omega) h.c3
  have hb : Below w.heap.size w ((w2.setCell ⟨w.heap.size, 0, none⟩ (.bool p')).setCell ⟨w.heap.size, 1, none⟩ s') := (h.below.setCell (p := ⟨w.heap.size, 0, none⟩) (Nat.le_refl _) _).setCell (p := ⟨w.heap.size, 1, none⟩) (Nat.le_refl _) _
  refine ⟨two_far (by omega) d0, two_far (by omega) d1, ?_, ?_, by simpa using h.f0, by simpa using h.f1, by simpa using h.f2, by simpa using h.f3, (hb.setCell (p := ⟨w.heap.size + 1, 0, none⟩) (Nat.le_succ _) _).setCell (p := ⟨w.heap.size + 1, 1, none⟩) (Nat.le_succ _) _⟩
  · rw [World.cell?_setCell_other _ _ _ _ (fun e => by injection e with _ e2; cases e2)]
    exact World.cell?_setCell_same _ _ _ d2
  · apply World.cell?_setCell_same (u := t)
    rw [World.cell?_setCell_other _ _ _ _ (fun e => by injection e with _ e2; cases e2)]
    exact d3
theorem BigIs.letters2 {w : World} {v : Value} {z : Int} (h : BigIs w v z) : ∃ A c n neg, v = .agg #[.bool neg, .slice A n c] ∧ Hid (neg = decide (z < 0)) ∧ Hid (∀ (B : Nat) (b0 b : Bool) (u : Value), w.cell? ⟨B, 0, none⟩ = some (.bool b0) → BigIs ((w.setCell ⟨B, 0, none⟩ (.bool b)).setCell ⟨B, 1, none⟩ u) (.agg #[.bool neg, .slice A n c]) z) := by
  obtain ⟨A, c, ds, rfl, hat⟩ := h
  exact ⟨A, c, ds.length, _, rfl, rfl, fun B b0 b u hB => ⟨A, c, ds, rfl, hat.store hB⟩⟩

set_option maxHeartbeats 4000000 in
theorem below_minus (v u : Value) (x y : Int) (w : World) (hv : BigIs w v (-x)) (hu : BigIs w u (-y)) (hx : Prod x) (hy : Word y) (hpos : 0 < y) :
    Calls Try.prog 30 #[v, u] w (Ret (.tuple #[.bool (decide (cmpZ x (-9223372036854775808 * y) < 0)), .bool (decide (0 ≤ cmpZ x ((9223372036854775807 + 1) * y)))]) w) := by
  obtain ⟨A0, ca0, na0, nx0, rfl, _, _, _, HV⟩ := hv.letters
  obtain ⟨B0, cb0, nb0, ny0, rfl, HN, _, _, HU⟩ := hu.letters
  have SX := Lib.hid (small_prod hx)
  have SY := Lib.hid (small_word hy)
  have SXN : Hid (Small (-x)) := by have := SX.out; show Small (-x); unfold Small at *; omega
  have SYN : Hid (Small (-y)) := by have := SY.out; show Small (-y); unfold Small at *; omega
  have SP := Lib.hid (small_by hy)
  have SL := Lib.hid (small64 (a := -9223372036854775808) (by omega) (by omega))
  have SH := Lib.hid (small64 (a := 9223372036854775807) (by omega) (by omega))
  have S1 := Lib.hid (small64 (a := 1) (by omega) (by omega))
  have HNY : Hid (decide (y < 0) = false) := decide_eq_false (by omega)
  have hny : ny0 = true := by rw [HN.out]; exact decide_eq_true (by omega)
  subst hny
  clear hv hu hx hy HN hpos
  generalize el : cmpZ x (-9223372036854775808 * y) = cl
  generalize eh : cmpZ x ((9223372036854775807 + 1) * y) = ch
  have HCL := Lib.hid el
  have HCH := Lib.hid eh
  clear el eh
  go_enter Try.func30, Try.ntmps30
  go_wp2_with fail
  have hX0 := Box2.mk2 w nx0 true (.slice A0 na0 ca0) (.slice B0 nb0 cb0) 28
  generalize (w.alloc (Obj.cells #[Value.bool nx0, Value.slice A0 na0 ca0] 28)).alloc (Obj.cells #[Value.bool true, Value.slice B0 nb0 cb0] 28) = W0 at hX0 ⊢
  have HX0 := Lib.hid hX0
  obtain ⟨c0, c1, c2, c3, f0, f1, f2, f3, _⟩ := hX0
  go_region_with (first
    | (go_at_call_of 35 (Value.agg #[Value.bool nx0, Value.slice A0 na0 ca0]); refine (neg_any _ (-x) _ (HV.out _ HX0.out.below.drew) SXN.out).mono ?_; rintro e w1 ⟨v1, rfl, hbig1, hb1'⟩; rw [Int.neg_neg] at hbig1; have HB1 : Hid (Below W0.heap.size W0 w1) := (Below.refl W0.heap.size W0).drew.trans hb1'; have HV1 := Lib.hid hbig1; clear hb1' hbig1; obtain ⟨k0, k1, k2, k3, g0, g1, g2, g3, _⟩ := HX0.out.keep HB1.out)
    | (go_at_call_of 35 (Value.agg #[Value.bool true, Value.slice B0 nb0 cb0]); refine (neg_any _ (-y) _ (HU.out _ (HX0.out.keep HB1.out).below) SYN.out).mono ?_; rintro e w2 ⟨v2, rfl, hbig2, hb2'⟩; rw [Int.neg_neg] at hbig2; have HB2 : Hid (Below W0.heap.size W0 w2) := HB1.out.trans (hb2'.mono HB1.out.size); obtain ⟨A, ca, na, nx, rfl, _, _, _, _⟩ := HV1.out.letters; obtain ⟨B, cb, nb, ny, rfl, HNB, _, _, _⟩ := hbig2.letters; have HV1' := Lib.hid (HV1.out.keep hb2'); have HV2 := Lib.hid hbig2; clear hb2' hbig2; obtain ⟨k0, k1, k2, k3, g0, g1, g2, g3, _⟩ := HX0.out.keep HB2.out))
  all_goals
    obtain rfl : ny = false := by rw [HNB.out]; exact HNY.out
    have hX := (HX0.out.keep HB2.out).store (p' := nx) (q' := false) (s' := .slice A na ca) (t' := .slice B nb cb)
    have hVW := (HV1'.out.store (b := nx) (u := .slice A na ca) k0).store (b := false) (u := .slice B nb cb) (two_far (show w.heap.size + 1 ≠ w.heap.size by omega) k2)
    have hUW := (HV2.out.store (b := nx) (u := .slice A na ca) k0).store (b := false) (u := .slice B nb cb) (two_far (show w.heap.size + 1 ≠ w.heap.size by omega) k2)
    go_wp2_with fail
    generalize (((w2.setCell ⟨w.heap.size, 0, none⟩ (.bool nx)).setCell ⟨w.heap.size, 1, none⟩ (.slice A na ca)).setCell ⟨w.heap.size + 1, 0, none⟩ (.bool false)).setCell ⟨w.heap.size + 1, 1, none⟩ (.slice B nb cb) = W at hX hVW hUW ⊢
    have HX := Lib.hid hX
    have HVW : Hid (∀ W', Below W.heap.size W W' → BigIs W' (.agg #[.bool nx, .slice A na ca]) x) := fun W' h => hVW.keep h
    have HUW : Hid (∀ W', Below W.heap.size W W' → BigIs W' (.agg #[.bool false, .slice B nb cb]) y) := fun W' h => hUW.keep h
    clear hVW hUW HX0 HV HU HV1 HV1' HV2 HB1 HB2 c0 c1 c2 c3 f0 f1 f2 f3 k0 k1 k2 k3 g0 g1 g2 g3
    obtain ⟨c0, c1, c2, c3, _, _, _, _, _⟩ := hX
    go_region_held3 (fun w' => w'.cell? ⟨w.heap.size, 0, none⟩ = some (.bool nx) ∧ w'.cell? ⟨w.heap.size, 1, none⟩ = some (.slice A na ca) ∧ w'.cell? ⟨w.heap.size + 1, 0, none⟩ = some (.bool false) ∧ w'.cell? ⟨w.heap.size + 1, 1, none⟩ = some (.slice B nb cb))
      (go_keep)
      (first
        | (go_at_call 13; refine (of_any _ _ (by omega) (by omega)).mono ?_; rintro e w1 ⟨v1, rfl, hbig1, hb1'⟩; have HB1 : Hid (Below W.heap.size W w1) := (Below.refl W.heap.size W).drew.trans hb1'; have HV1 := Lib.hid hbig1; clear hb1' hbig1; obtain ⟨k0, k1, k2, k3, _, _, _, _, _⟩ := HX.out.keep HB1.out)
        | (go_at_call 20; refine (mulB_any v1 _ (-9223372036854775808) y _ HV1.out (HUW.out _ HB1.out) SL.out SY.out SP.out.1).mono ?_; rintro e w2 ⟨v2, rfl, hbig2, hb2'⟩; have HB2 : Hid (Below W.heap.size W w2) := HB1.out.trans (hb2'.mono HB1.out.size); have HV2 := Lib.hid hbig2; clear hb2' hbig2; obtain ⟨k0, k1, k2, k3, _, _, _, _, _⟩ := HX.out.keep HB2.out)
        | (go_at_call 36; refine (cmp_any _ v2 x (-9223372036854775808 * y) _ (HVW.out _ HB2.out) HV2.out SX.out SP.out.1).mono ?_; rw [HCL.out]; rintro e w3 ⟨rfl, hb3'⟩; have HB3 : Hid (Below W.heap.size W w3) := HB2.out.trans (hb3'.mono HB2.out.size); clear hb3'; obtain ⟨k0, k1, k2, k3, _, _, _, _, _⟩ := HX.out.keep HB3.out))
    have HY := Lib.hid (HX.out.keep HB3.out)
    have HVY : Hid (∀ W', Below w3.heap.size w3 W' → BigIs W' (.agg #[.bool nx, .slice A na ca]) x) := fun W' h => HVW.out _ (HB3.out.trans (h.mono HB3.out.size))
    have HUY : Hid (∀ W', Below w3.heap.size w3 W' → BigIs W' (.agg #[.bool false, .slice B nb cb]) y) := fun W' h => HUW.out _ (HB3.out.trans (h.mono HB3.out.size))
    clear HX HVW HUW HB1 HB2 HB3 HV1 HV2 c0 c1 c2 c3
    go_wp2_with fail
    obtain ⟨c0, c1, c2, c3, _, _, _, _, _⟩ := HY.out
    go_region_held3 (fun w' => w'.cell? ⟨w.heap.size, 0, none⟩ = some (.bool nx) ∧ w'.cell? ⟨w.heap.size, 1, none⟩ = some (.slice A na ca) ∧ w'.cell? ⟨w.heap.size + 1, 0, none⟩ = some (.bool false) ∧ w'.cell? ⟨w.heap.size + 1, 1, none⟩ = some (.slice B nb cb))
      (go_keep)
      (first
        | (go_at_call_of 13 (Value.int IntKind.i64 9223372036854775807); refine (of_any _ _ (by omega) (by omega)).mono ?_; rintro e w4 ⟨v4, rfl, hbig4, hb4'⟩; have HB4 : Hid (Below w3.heap.size w3 w4) := (Below.refl w3.heap.size w3).drew.trans hb4'; have HV4 := Lib.hid hbig4; clear hb4' hbig4; obtain ⟨k0, k1, k2, k3, _, _, _, _, _⟩ := HY.out.keep HB4.out)
        | (go_at_call_of 13 (Value.int IntKind.i64 1); refine (of_any _ _ (by omega) (by omega)).mono ?_; rintro e w5 ⟨v5, rfl, hbig5, hb5'⟩; have HB5 : Hid (Below w3.heap.size w3 w5) := HB4.out.trans (hb5'.mono HB4.out.size); have HV5 := Lib.hid hbig5; have HV4' := Lib.hid (HV4.out.keep hb5'); clear hb5' hbig5; obtain ⟨k0, k1, k2, k3, _, _, _, _, _⟩ := HY.out.keep HB5.out)
        | (go_at_call 21; refine (addB_any v4 v5 9223372036854775807 1 _ HV4'.out HV5.out SH.out S1.out).mono ?_; rintro e w6 ⟨v6, rfl, hbig6, hb6'⟩; have HB6 : Hid (Below w3.heap.size w3 w6) := HB5.out.trans (hb6'.mono HB5.out.size); have HV6 := Lib.hid hbig6; clear hb6' hbig6; obtain ⟨k0, k1, k2, k3, _, _, _, _, _⟩ := HY.out.keep HB6.out)
        | (go_at_call 20; refine (mulB_any v6 _ (9223372036854775807 + 1) y _ HV6.out (HUY.out _ HB6.out) SP.out.2.2 SY.out SP.out.2.1).mono ?_; rintro e w7 ⟨v7, rfl, hbig7, hb7'⟩; have HB7 : Hid (Below w3.heap.size w3 w7) := HB6.out.trans (hb7'.mono HB6.out.size); have HV7 := Lib.hid hbig7; clear hb7' hbig7; obtain ⟨k0, k1, k2, k3, _, _, _, _, _⟩ := HY.out.keep HB7.out)
        | (go_at_call 36; refine (cmp_any _ v7 x ((9223372036854775807 + 1) * y) _ (HVY.out _ HB7.out) HV7.out SX.out SP.out.2.1).mono ?_; rw [HCH.out]; rintro e w8 ⟨rfl, hb8'⟩; have HB8 : Hid (Below w3.heap.size w3 w8) := HB7.out.trans (hb8'.mono HB7.out.size); clear hb8'; obtain ⟨k0, k1, k2, k3, _, _, _, _, _⟩ := HY.out.keep HB8.out))
    go_wp2
    go_ret2
    exact Ret.mk rfl (HY.out.keep HB8.out).below


end Go.Proofs.Ytnneinjmdkoopaa
