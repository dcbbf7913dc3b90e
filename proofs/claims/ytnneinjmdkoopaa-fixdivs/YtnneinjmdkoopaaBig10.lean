/- Contracts of the reference's numbers without end, tenth part: Floor, where it answers true. -/
import Derived.Test.YtnneinjmdkoopaaBig9
import Derived.Test.YtnneinjmdkoopaaBig6
namespace Go.Proofs.Ytnneinjmdkoopaa
open Go.RowKit
set_option linter.unusedVariables false

theorem qbox (w : World) (p q r : Bool) (s t u : Value) (T : TypeId) : Box2 w (((w.alloc (Obj.cells #[.bool p, s] T)).alloc (Obj.cells #[.bool q, t] T)).alloc (Obj.cells #[.bool r, u] T)) p q s t ∧
    (((w.alloc (Obj.cells #[.bool p, s] T)).alloc (Obj.cells #[.bool q, t] T)).alloc (Obj.cells #[.bool r, u] T)).cell? ⟨w.heap.size + 1 + 1, 0, none⟩ = some (.bool r) ∧
    (((w.alloc (Obj.cells #[.bool p, s] T)).alloc (Obj.cells #[.bool q, t] T)).alloc (Obj.cells #[.bool r, u] T)).cell? ⟨w.heap.size + 1 + 1, 1, none⟩ = some u := by
  refine ⟨(Box2.mk2 w p q s t T).keep ((Below.refl _ _).alloc (Nat.le_refl _) _), ?_, ?_⟩
  · rw [cell_new _ _ _ _ _ (by simp)]; rfl
  · rw [cell_new _ _ _ _ _ (by simp)]; rfl

theorem below_chain {W C w1 : World} (hb : Below C.heap.size C w1) (h : Below W.heap.size W C) : Below W.heap.size W w1 := h.trans (hb.mono h.size)

/-- A box that was made ahead of a call is there behind it. -/
theorem new_kept {W w1 : World} {T : TypeId} (hb : Below (W.alloc (.cells #[.bool false, .slice none 0 0] T)).heap.size (W.alloc (.cells #[.bool false, .slice none 0 0] T)) w1) :
    w1.cell? ⟨W.heap.size, 0, none⟩ = some (.bool false) ∧ w1.cell? ⟨W.heap.size, 1, none⟩ = some (.slice none 0 0) ∧ w1.frozen? ⟨W.heap.size, 0, none⟩ = false ∧ w1.frozen? ⟨W.heap.size, 1, none⟩ = false := by
  have c0 : (W.alloc (.cells #[.bool false, .slice none 0 0] T)).cell? ⟨W.heap.size, 0, none⟩ = some (.bool false) := by rw [cell_new _ _ _ _ _ rfl]; rfl
  have c1 : (W.alloc (.cells #[.bool false, .slice none 0 0] T)).cell? ⟨W.heap.size, 1, none⟩ = some (.slice none 0 0) := by rw [cell_new _ _ _ _ _ rfl]; rfl
  exact ⟨kc hb c0, kc hb c1, kf hb c0 (frozen_new _ _ _ _ _ rfl), kf hb c1 (frozen_new _ _ _ _ _ rfl)⟩
theorem new_kept' {W w1 : World} {T : TypeId} (hb : Below (W.alloc (.cells #[.bool false, .slice none 0 0] T)).drew.heap.size (W.alloc (.cells #[.bool false, .slice none 0 0] T)).drew w1) :
    w1.cell? ⟨W.heap.size, 0, none⟩ = some (.bool false) ∧ w1.cell? ⟨W.heap.size, 1, none⟩ = some (.slice none 0 0) ∧ w1.frozen? ⟨W.heap.size, 0, none⟩ = false ∧ w1.frozen? ⟨W.heap.size, 1, none⟩ = false :=
  new_kept ((Below.refl _ _).drew.trans hb)

/-- All that Floor needs to be known of its numbers. -/
structure FloorH (x y q : Int) : Prop where
  sx : Small x
  sy : Small y
  sq : Small q
  sm : Small (q * y)
  sr : Small (x - q * y)
  r0 : 0 ≤ x - q * y
  r1 : x - q * y < y

set_option maxHeartbeats 4000000 in
theorem floor_plus (v u t : Value) (x y q : Int) (w : World) (hv : BigIs w v x) (hu : BigIs w u y) (ht : BigIs w t q) (h : FloorH x y q) :
    Calls Try.prog 31 #[v, u, t] w (Ret (.bool true) w) := by
  obtain ⟨A, ca, na, nx, rfl, _, _, _, HV⟩ := hv.letters
  obtain ⟨B, cb, nb, ny, rfl, HN, _, _, HU⟩ := hu.letters
  obtain ⟨C, cc, nc, nq, rfl, _, _, _, HT⟩ := ht.letters
  have HH := Lib.hid h
  have hny : ny = false := by have := HH.out.r0; have := HH.out.r1; rw [HN.out]; exact decide_eq_false (by omega)
  subst hny
  have HNR : Hid (decide (x - q * y < 0) = false) := decide_eq_false (by have := HH.out.r0; omega)
  have HC : Hid (cmpZ (x - q * y) y = -1) := cmpZ_lt HH.out.r1
  clear hv hu ht h HN
  go_enter Try.func31, Try.ntmps31
  go_wp2_with fail
  obtain ⟨hX, hq0, hq1⟩ := qbox w nx false nq (.slice A na ca) (.slice B nb cb) (.slice C nc cc) 28
  have hS : w.heap.size + 3 ≤ (((w.alloc (Obj.cells #[Value.bool nx, Value.slice A na ca] 28)).alloc (Obj.cells #[Value.bool false, Value.slice B nb cb] 28)).alloc (Obj.cells #[Value.bool nq, Value.slice C nc cc] 28)).heap.size := by simp
  generalize (((w.alloc (Obj.cells #[Value.bool nx, Value.slice A na ca] 28)).alloc (Obj.cells #[Value.bool false, Value.slice B nb cb] 28)).alloc (Obj.cells #[Value.bool nq, Value.slice C nc cc] 28)) = W at hX hq0 hq1 hS ⊢
  have HX := Lib.hid hX
  have HVW : Hid (∀ W', Below W.heap.size W W' → BigIs W' (.agg #[.bool nx, .slice A na ca]) x) := fun W' h => HV.out _ (HX.out.keep h).below
  have HUW : Hid (∀ W', Below W.heap.size W W' → BigIs W' (.agg #[.bool false, .slice B nb cb]) y) := fun W' h => HU.out _ (HX.out.keep h).below
  have HTW : Hid (∀ W', Below W.heap.size W W' → BigIs W' (.agg #[.bool nq, .slice C nc cc]) q) := fun W' h => HT.out _ (HX.out.keep h).below
  clear HV HU HT
  obtain ⟨c0, c1, c2, c3, _, _, _, _, _⟩ := hX
  have hd0 : Below W.heap.size W W.drew := (Below.refl W.heap.size W).drew
  have hd1 : Below W.heap.size W (W.alloc (Obj.cells #[Value.bool false, Value.slice none 0 0] 28)).drew := ((Below.refl W.heap.size W).alloc (Nat.le_refl _) _).drew
  have hBa : Below W.heap.size W (W.alloc (Obj.cells #[Value.bool false, Value.slice none 0 0] 28)) := (Below.refl W.heap.size W).alloc (Nat.le_refl _) _
  have a0 := kc hBa c0
  have a1 := kc hBa c1
  have a2 := kc hBa c2
  have a3 := kc hBa c3
  have a4 := kc hBa hq0
  have a5 := kc hBa hq1
  go_region_held3 (fun w' => w'.cell? ⟨w.heap.size, 0, none⟩ = some (.bool nx) ∧ w'.cell? ⟨w.heap.size, 1, none⟩ = some (.slice A na ca) ∧ w'.cell? ⟨w.heap.size + 1, 0, none⟩ = some (.bool false) ∧ w'.cell? ⟨w.heap.size + 1, 1, none⟩ = some (.slice B nb cb) ∧ w'.cell? ⟨w.heap.size + 1 + 1, 0, none⟩ = some (.bool nq) ∧ w'.cell? ⟨w.heap.size + 1 + 1, 1, none⟩ = some (.slice C nc cc))
    (go_keep)
    (first
      | (go_at_call 20; ((with_reducible refine (mulB_any _ _ q y W.drew (HTW.out _ hd0) (HUW.out _ hd0) HH.out.sq HH.out.sy HH.out.sm).mono ?_); rintro e w1 ⟨v1, rfl, hv1, hb1'⟩; have hB1 := below_chain (W := W) hb1' hd0; have hB1a := hB1.alloc hB1.size (Obj.cells #[Value.bool false, Value.slice none 0 0] 28); have m0 := kc hB1a c0; have m1 := kc hB1a c1; have m2 := kc hB1a c2; have m3 := kc hB1a c3; have m4 := kc hB1a hq0; have m5 := kc hB1a hq1; have k0 := kc hB1 c0; have k1 := kc hB1 c1; have k2 := kc hB1 c2; have k3 := kc hB1 c3; have k4 := kc hB1 hq0; have k5 := kc hB1 hq1; have hv1a := hv1.keep ((Below.refl w1.heap.size w1).alloc (Nat.le_refl _) (Obj.cells #[Value.bool false, Value.slice none 0 0] 28)); clear hb1'))
      | (go_at_call 20; ((with_reducible refine (mulB_any _ _ q y (W.alloc (Obj.cells #[Value.bool false, Value.slice none 0 0] 28)).drew (HTW.out _ hd1) (HUW.out _ hd1) HH.out.sq HH.out.sy HH.out.sm).mono ?_); rintro e u1 ⟨v1, rfl, hv1, hb1'⟩; obtain ⟨p0, p1, p2, p3⟩ := new_kept' (W := W) hb1'; have hB1 := below_chain (W := W) hb1' hd1; have k0 := kc hB1 c0; have k1 := kc hB1 c1; have k2 := kc hB1 c2; have k3 := kc hB1 c3; have k4 := kc hB1 hq0; have k5 := kc hB1 hq1; clear hb1'))
      | (go_at_call 17; ((with_reducible refine (subB_any _ v1 x (q * y) (w1.alloc (Obj.cells #[Value.bool false, Value.slice none 0 0] 28)) (HVW.out _ hB1a) hv1a HH.out.sx HH.out.sm).mono ?_); rintro e w2 ⟨v2, rfl, hbig2, hb2'⟩; obtain ⟨o0, o1, o2, o3⟩ := new_kept (W := w1) hb2'; have hB2 := below_chain (W := W) hb2' hB1a; obtain ⟨D, cd, nd, nr, rfl, HNR2, _, _, HRW⟩ := hbig2.letters; obtain rfl : nr = false := HNR2.out.trans HNR.out; have HR2 := Lib.hid hbig2; have k0 := kc hB2 c0; have k1 := kc hB2 c1; have k2 := kc hB2 c2; have k3 := kc hB2 c3; have k4 := kc hB2 hq0; have k5 := kc hB2 hq1; have hz1 := hB1.size; have z0 := fun x y => two_far (x := x) (y := y) (show w.heap.size ≠ w1.heap.size by omega) k0; have z1 := fun x y => two_far (x := x) (y := y) (show w.heap.size ≠ w1.heap.size by omega) k1; have z2 := fun x y => two_far (x := x) (y := y) (show w.heap.size + 1 ≠ w1.heap.size by omega) k2; have z3 := fun x y => two_far (x := x) (y := y) (show w.heap.size + 1 ≠ w1.heap.size by omega) k3; have z4 := fun x y => two_far (x := x) (y := y) (show w.heap.size + 1 + 1 ≠ w1.heap.size by omega) k4; have z5 := fun x y => two_far (x := x) (y := y) (show w.heap.size + 1 + 1 ≠ w1.heap.size by omega) k5; clear hb2' hbig2))
      | (go_at_call 17; ((with_reducible refine (subB_any _ v1 x (q * y) w1 (HVW.out _ hB1) hv1 HH.out.sx HH.out.sm).mono ?_); rintro e w2 ⟨v2, rfl, hbig2, hb2'⟩; have hB2 := below_chain (W := W) hb2' hB1; obtain ⟨D, cd, nd, nr, rfl, HNR2, _, _, HRW⟩ := hbig2.letters; obtain rfl : nr = false := HNR2.out.trans HNR.out; have HR2 := Lib.hid hbig2; have k0 := kc hB2 c0; have k1 := kc hB2 c1; have k2 := kc hB2 c2; have k3 := kc hB2 c3; have k4 := kc hB2 hq0; have k5 := kc hB2 hq1; have y0 := fun o => kc ((Below.refl w2.heap.size w2).alloc (Nat.le_refl _) o) k0; have y1 := fun o => kc ((Below.refl w2.heap.size w2).alloc (Nat.le_refl _) o) k1; have y2 := fun o => kc ((Below.refl w2.heap.size w2).alloc (Nat.le_refl _) o) k2; have y3 := fun o => kc ((Below.refl w2.heap.size w2).alloc (Nat.le_refl _) o) k3; have y4 := fun o => kc ((Below.refl w2.heap.size w2).alloc (Nat.le_refl _) o) k4; have y5 := fun o => kc ((Below.refl w2.heap.size w2).alloc (Nat.le_refl _) o) k5; clear hb2' hbig2))
      | (go_at_call 17; ((with_reducible refine (subB_any _ v1 x (q * y) u1 (HVW.out _ hB1) hv1 HH.out.sx HH.out.sm).mono ?_); rintro e w2 ⟨v2, rfl, hbig2, hb2'⟩; have o0 := kc hb2' p0; have o1 := kc hb2' p1; have o2 := kf hb2' p0 p2; have o3 := kf hb2' p1 p3; have hB2 := below_chain (W := W) hb2' hB1; obtain ⟨D, cd, nd, nr, rfl, HNR2, _, _, HRW⟩ := hbig2.letters; obtain rfl : nr = false := HNR2.out.trans HNR.out; have HR2 := Lib.hid hbig2; have k0 := kc hB2 c0; have k1 := kc hB2 c1; have k2 := kc hB2 c2; have k3 := kc hB2 c3; have k4 := kc hB2 hq0; have k5 := kc hB2 hq1; have z0 := fun x y => two_far (x := x) (y := y) (show w.heap.size ≠ W.heap.size by omega) k0; have z1 := fun x y => two_far (x := x) (y := y) (show w.heap.size ≠ W.heap.size by omega) k1; have z2 := fun x y => two_far (x := x) (y := y) (show w.heap.size + 1 ≠ W.heap.size by omega) k2; have z3 := fun x y => two_far (x := x) (y := y) (show w.heap.size + 1 ≠ W.heap.size by omega) k3; have z4 := fun x y => two_far (x := x) (y := y) (show w.heap.size + 1 + 1 ≠ W.heap.size by omega) k4; have z5 := fun x y => two_far (x := x) (y := y) (show w.heap.size + 1 + 1 ≠ W.heap.size by omega) k5; clear hb2' hbig2)))
  all_goals (try go_wp2_with fail)
  · have hW2 : Below W.heap.size W (w2.alloc (Obj.cells #[Value.bool false, Value.slice D nd cd] 28)) := hB2.alloc hB2.size _
    refine (cmp_any _ _ (x - q * y) y _ (HR2.out.keep ((Below.refl w2.heap.size w2).alloc (Nat.le_refl _) _)) (HUW.out _ hW2) HH.out.sr HH.out.sy).mono ?_
    rw [HC.out]
    rintro e w3 ⟨rfl, b3⟩
    have HF : Hid (Below w.heap.size w w3) := (HX.out.below.trans (hW2.mono HX.out.below.size)).trans (b3.mono (Nat.le_trans HX.out.below.size hW2.size))
    clear b3 hW2
    go_wp2
    go_ret
    exact Ret.mk rfl HF.out
  · have hW2 : Below W.heap.size W ((w2.setCell ⟨w1.heap.size, 0, none⟩ (.bool false)).setCell ⟨w1.heap.size, 1, none⟩ (.slice D nd cd)) := (hB2.setCell (p := ⟨w1.heap.size, 0, none⟩) hB1.size _).setCell (p := ⟨w1.heap.size, 1, none⟩) hB1.size _
    refine (cmp_any _ _ (x - q * y) y _ (HR2.out.store o0) (HUW.out _ hW2) HH.out.sr HH.out.sy).mono ?_
    rw [HC.out]
    rintro e w3 ⟨rfl, b3⟩
    have HF : Hid (Below w.heap.size w w3) := (HX.out.below.trans (hW2.mono HX.out.below.size)).trans (b3.mono (Nat.le_trans HX.out.below.size hW2.size))
    clear b3 hW2
    go_wp2
    go_ret
    exact Ret.mk rfl HF.out
  · have hW2 : Below W.heap.size W ((w2.setCell ⟨W.heap.size, 0, none⟩ (.bool false)).setCell ⟨W.heap.size, 1, none⟩ (.slice D nd cd)) := (hB2.setCell (p := ⟨W.heap.size, 0, none⟩) (Nat.le_refl _) _).setCell (p := ⟨W.heap.size, 1, none⟩) (Nat.le_refl _) _
    refine (cmp_any _ _ (x - q * y) y _ (HR2.out.store o0) (HUW.out _ hW2) HH.out.sr HH.out.sy).mono ?_
    rw [HC.out]
    rintro e w3 ⟨rfl, b3⟩
    have HF : Hid (Below w.heap.size w w3) := (HX.out.below.trans (hW2.mono HX.out.below.size)).trans (b3.mono (Nat.le_trans HX.out.below.size hW2.size))
    clear b3 hW2
    go_wp2
    go_ret
    exact Ret.mk rfl HF.out


set_option maxHeartbeats 8000000 in
theorem floor_minus (v u t : Value) (x y q : Int) (w : World) (hv : BigIs w v (-x)) (hu : BigIs w u (-y)) (ht : BigIs w t q) (h : FloorH x y q) :
    Calls Try.prog 31 #[v, u, t] w (Ret (.bool true) w) := by
  obtain ⟨A0, ca0, na0, nx0, rfl, _, _, _, HV⟩ := hv.letters
  obtain ⟨B0, cb0, nb0, ny0, rfl, HN, _, _, HU⟩ := hu.letters
  obtain ⟨C, cc, nc, nq, rfl, _, _, _, HT⟩ := ht.letters
  have HH := Lib.hid h
  have hny : ny0 = true := by have := HH.out.r0; have := HH.out.r1; rw [HN.out]; exact decide_eq_true (by omega)
  subst hny
  have SXN : Hid (Small (-x)) := by have := HH.out.sx; show Small (-x); unfold Small at *; omega
  have SYN : Hid (Small (-y)) := by have := HH.out.sy; show Small (-y); unfold Small at *; omega
  have HNY : Hid (decide (y < 0) = false) := decide_eq_false (by have := HH.out.r0; have := HH.out.r1; omega)
  have HNR : Hid (decide (x - q * y < 0) = false) := decide_eq_false (by have := HH.out.r0; omega)
  have HC : Hid (cmpZ (x - q * y) y = -1) := cmpZ_lt HH.out.r1
  clear hv hu ht h HN
  go_enter Try.func31, Try.ntmps31
  go_wp2_with fail
  obtain ⟨hX0, hq00, hq10⟩ := qbox w nx0 true nq (.slice A0 na0 ca0) (.slice B0 nb0 cb0) (.slice C nc cc) 28
  have hS0 : w.heap.size + 3 ≤ (((w.alloc (Obj.cells #[Value.bool nx0, Value.slice A0 na0 ca0] 28)).alloc (Obj.cells #[Value.bool true, Value.slice B0 nb0 cb0] 28)).alloc (Obj.cells #[Value.bool nq, Value.slice C nc cc] 28)).heap.size := by simp
  generalize (((w.alloc (Obj.cells #[Value.bool nx0, Value.slice A0 na0 ca0] 28)).alloc (Obj.cells #[Value.bool true, Value.slice B0 nb0 cb0] 28)).alloc (Obj.cells #[Value.bool nq, Value.slice C nc cc] 28)) = W0 at hX0 hq00 hq10 hS0 ⊢
  have HX0 := Lib.hid hX0
  obtain ⟨c0, c1, c2, c3, f0, f1, f2, f3, _⟩ := hX0
  go_region_with (first
    | (go_at_call_of 35 (Value.agg #[Value.bool nx0, Value.slice A0 na0 ca0]); refine (neg_any _ (-x) _ (HV.out _ HX0.out.below.drew) SXN.out).mono ?_; rintro e w1 ⟨v1, rfl, hbig1, hb1'⟩; rw [Int.neg_neg] at hbig1; have HB1 : Hid (Below W0.heap.size W0 w1) := (Below.refl W0.heap.size W0).drew.trans hb1'; have HV1 := Lib.hid hbig1; clear hb1' hbig1; obtain ⟨k0, k1, k2, k3, g0, g1, g2, g3, _⟩ := HX0.out.keep HB1.out)
    | (go_at_call_of 35 (Value.agg #[Value.bool true, Value.slice B0 nb0 cb0]); refine (neg_any _ (-y) _ (HU.out _ (HX0.out.keep HB1.out).below) SYN.out).mono ?_; rintro e w2 ⟨v2, rfl, hbig2, hb2'⟩; rw [Int.neg_neg] at hbig2; have HB2 : Hid (Below W0.heap.size W0 w2) := HB1.out.trans (hb2'.mono HB1.out.size); obtain ⟨A, ca, na, nx, rfl, _, _, _, _⟩ := HV1.out.letters; obtain ⟨B, cb, nb, ny, rfl, HNB, _, _, _⟩ := hbig2.letters; have HV1' := Lib.hid (HV1.out.keep hb2'); have HV2 := Lib.hid hbig2; clear hb2' hbig2; obtain ⟨k0, k1, k2, k3, g0, g1, g2, g3, _⟩ := HX0.out.keep HB2.out))
  all_goals
    obtain rfl : ny = false := HNB.out.trans HNY.out
    have hX := (HX0.out.keep HB2.out).store (p' := nx) (q' := false) (s' := .slice A na ca) (t' := .slice B nb cb)
    have hVW := (HV1'.out.store (b := nx) (u := .slice A na ca) k0).store (b := false) (u := .slice B nb cb) (two_far (show w.heap.size + 1 ≠ w.heap.size by omega) k2)
    have hUW := (HV2.out.store (b := nx) (u := .slice A na ca) k0).store (b := false) (u := .slice B nb cb) (two_far (show w.heap.size + 1 ≠ w.heap.size by omega) k2)
    have hTW := ((HT.out w2 (HX0.out.keep HB2.out).below).store (b := nx) (u := .slice A na ca) k0).store (b := false) (u := .slice B nb cb) (two_far (show w.heap.size + 1 ≠ w.heap.size by omega) k2)
    have hq0 := two_far (x := .bool false) (y := .slice B nb cb) (show w.heap.size + 1 + 1 ≠ w.heap.size + 1 by omega) (two_far (x := .bool nx) (y := .slice A na ca) (show w.heap.size + 1 + 1 ≠ w.heap.size by omega) (kc HB2.out hq00))
    have hq1 := two_far (x := .bool false) (y := .slice B nb cb) (show w.heap.size + 1 + 1 ≠ w.heap.size + 1 by omega) (two_far (x := .bool nx) (y := .slice A na ca) (show w.heap.size + 1 + 1 ≠ w.heap.size by omega) (kc HB2.out hq10))
    have hS : w.heap.size + 3 ≤ ((((w2.setCell ⟨w.heap.size, 0, none⟩ (.bool nx)).setCell ⟨w.heap.size, 1, none⟩ (.slice A na ca)).setCell ⟨w.heap.size + 1, 0, none⟩ (.bool false)).setCell ⟨w.heap.size + 1, 1, none⟩ (.slice B nb cb)).heap.size := by
      have h2 := HB2.out.size
      simp [World.setCell]
      omega
    go_wp2_with fail
    generalize (((w2.setCell ⟨w.heap.size, 0, none⟩ (.bool nx)).setCell ⟨w.heap.size, 1, none⟩ (.slice A na ca)).setCell ⟨w.heap.size + 1, 0, none⟩ (.bool false)).setCell ⟨w.heap.size + 1, 1, none⟩ (.slice B nb cb) = W at hX hVW hUW hTW hq0 hq1 hS ⊢
    have HX := Lib.hid hX
    have HVW : Hid (∀ W', Below W.heap.size W W' → BigIs W' (.agg #[.bool nx, .slice A na ca]) x) := fun W' h => hVW.keep h
    have HUW : Hid (∀ W', Below W.heap.size W W' → BigIs W' (.agg #[.bool false, .slice B nb cb]) y) := fun W' h => hUW.keep h
    have HTW : Hid (∀ W', Below W.heap.size W W' → BigIs W' (.agg #[.bool nq, .slice C nc cc]) q) := fun W' h => hTW.keep h
    clear hVW hUW hTW HX0 HV HU HT HV1 HV1' HV2 HB1 HB2 c0 c1 c2 c3 f0 f1 f2 f3 k0 k1 k2 k3 g0 g1 g2 g3 hq00 hq10 hS0
    obtain ⟨c0, c1, c2, c3, _, _, _, _, _⟩ := hX
    have hd0 : Below W.heap.size W W.drew := (Below.refl W.heap.size W).drew
    have hd1 : Below W.heap.size W (W.alloc (Obj.cells #[Value.bool false, Value.slice none 0 0] 28)).drew := ((Below.refl W.heap.size W).alloc (Nat.le_refl _) _).drew
    have hBa : Below W.heap.size W (W.alloc (Obj.cells #[Value.bool false, Value.slice none 0 0] 28)) := (Below.refl W.heap.size W).alloc (Nat.le_refl _) _
    have a0 := kc hBa c0
    have a1 := kc hBa c1
    have a2 := kc hBa c2
    have a3 := kc hBa c3
    have a4 := kc hBa hq0
    have a5 := kc hBa hq1
    go_region_held3 (fun w' => w'.cell? ⟨w.heap.size, 0, none⟩ = some (.bool nx) ∧ w'.cell? ⟨w.heap.size, 1, none⟩ = some (.slice A na ca) ∧ w'.cell? ⟨w.heap.size + 1, 0, none⟩ = some (.bool false) ∧ w'.cell? ⟨w.heap.size + 1, 1, none⟩ = some (.slice B nb cb) ∧ w'.cell? ⟨w.heap.size + 1 + 1, 0, none⟩ = some (.bool nq) ∧ w'.cell? ⟨w.heap.size + 1 + 1, 1, none⟩ = some (.slice C nc cc))
      (go_keep)
      (first
        | (go_at_call 20; ((with_reducible refine (mulB_any _ _ q y W.drew (HTW.out _ hd0) (HUW.out _ hd0) HH.out.sq HH.out.sy HH.out.sm).mono ?_); rintro e w1 ⟨v1, rfl, hv1, hb1'⟩; have hB1 := below_chain (W := W) hb1' hd0; have hB1a := hB1.alloc hB1.size (Obj.cells #[Value.bool false, Value.slice none 0 0] 28); have m0 := kc hB1a c0; have m1 := kc hB1a c1; have m2 := kc hB1a c2; have m3 := kc hB1a c3; have m4 := kc hB1a hq0; have m5 := kc hB1a hq1; have k0 := kc hB1 c0; have k1 := kc hB1 c1; have k2 := kc hB1 c2; have k3 := kc hB1 c3; have k4 := kc hB1 hq0; have k5 := kc hB1 hq1; have hv1a := hv1.keep ((Below.refl w1.heap.size w1).alloc (Nat.le_refl _) (Obj.cells #[Value.bool false, Value.slice none 0 0] 28)); clear hb1'))
        | (go_at_call 20; ((with_reducible refine (mulB_any _ _ q y (W.alloc (Obj.cells #[Value.bool false, Value.slice none 0 0] 28)).drew (HTW.out _ hd1) (HUW.out _ hd1) HH.out.sq HH.out.sy HH.out.sm).mono ?_); rintro e u1 ⟨v1, rfl, hv1, hb1'⟩; obtain ⟨p0, p1, p2, p3⟩ := new_kept' (W := W) hb1'; have hB1 := below_chain (W := W) hb1' hd1; have k0 := kc hB1 c0; have k1 := kc hB1 c1; have k2 := kc hB1 c2; have k3 := kc hB1 c3; have k4 := kc hB1 hq0; have k5 := kc hB1 hq1; clear hb1'))
        | (go_at_call 17; ((with_reducible refine (subB_any _ v1 x (q * y) (w1.alloc (Obj.cells #[Value.bool false, Value.slice none 0 0] 28)) (HVW.out _ hB1a) hv1a HH.out.sx HH.out.sm).mono ?_); rintro e w2 ⟨v2, rfl, hbig2, hb2'⟩; obtain ⟨o0, o1, o2, o3⟩ := new_kept (W := w1) hb2'; have hB2 := below_chain (W := W) hb2' hB1a; obtain ⟨D, cd, nd, nr, rfl, HNR2, _, _, HRW⟩ := hbig2.letters; obtain rfl : nr = false := HNR2.out.trans HNR.out; have HR2 := Lib.hid hbig2; have k0 := kc hB2 c0; have k1 := kc hB2 c1; have k2 := kc hB2 c2; have k3 := kc hB2 c3; have k4 := kc hB2 hq0; have k5 := kc hB2 hq1; have hz1 := hB1.size; have z0 := fun x y => two_far (x := x) (y := y) (show w.heap.size ≠ w1.heap.size by omega) k0; have z1 := fun x y => two_far (x := x) (y := y) (show w.heap.size ≠ w1.heap.size by omega) k1; have z2 := fun x y => two_far (x := x) (y := y) (show w.heap.size + 1 ≠ w1.heap.size by omega) k2; have z3 := fun x y => two_far (x := x) (y := y) (show w.heap.size + 1 ≠ w1.heap.size by omega) k3; have z4 := fun x y => two_far (x := x) (y := y) (show w.heap.size + 1 + 1 ≠ w1.heap.size by omega) k4; have z5 := fun x y => two_far (x := x) (y := y) (show w.heap.size + 1 + 1 ≠ w1.heap.size by omega) k5; clear hb2' hbig2))
        | (go_at_call 17; ((with_reducible refine (subB_any _ v1 x (q * y) w1 (HVW.out _ hB1) hv1 HH.out.sx HH.out.sm).mono ?_); rintro e w2 ⟨v2, rfl, hbig2, hb2'⟩; have hB2 := below_chain (W := W) hb2' hB1; obtain ⟨D, cd, nd, nr, rfl, HNR2, _, _, HRW⟩ := hbig2.letters; obtain rfl : nr = false := HNR2.out.trans HNR.out; have HR2 := Lib.hid hbig2; have k0 := kc hB2 c0; have k1 := kc hB2 c1; have k2 := kc hB2 c2; have k3 := kc hB2 c3; have k4 := kc hB2 hq0; have k5 := kc hB2 hq1; have y0 := fun o => kc ((Below.refl w2.heap.size w2).alloc (Nat.le_refl _) o) k0; have y1 := fun o => kc ((Below.refl w2.heap.size w2).alloc (Nat.le_refl _) o) k1; have y2 := fun o => kc ((Below.refl w2.heap.size w2).alloc (Nat.le_refl _) o) k2; have y3 := fun o => kc ((Below.refl w2.heap.size w2).alloc (Nat.le_refl _) o) k3; have y4 := fun o => kc ((Below.refl w2.heap.size w2).alloc (Nat.le_refl _) o) k4; have y5 := fun o => kc ((Below.refl w2.heap.size w2).alloc (Nat.le_refl _) o) k5; clear hb2' hbig2))
        | (go_at_call 17; ((with_reducible refine (subB_any _ v1 x (q * y) u1 (HVW.out _ hB1) hv1 HH.out.sx HH.out.sm).mono ?_); rintro e w2 ⟨v2, rfl, hbig2, hb2'⟩; have o0 := kc hb2' p0; have o1 := kc hb2' p1; have o2 := kf hb2' p0 p2; have o3 := kf hb2' p1 p3; have hB2 := below_chain (W := W) hb2' hB1; obtain ⟨D, cd, nd, nr, rfl, HNR2, _, _, HRW⟩ := hbig2.letters; obtain rfl : nr = false := HNR2.out.trans HNR.out; have HR2 := Lib.hid hbig2; have k0 := kc hB2 c0; have k1 := kc hB2 c1; have k2 := kc hB2 c2; have k3 := kc hB2 c3; have k4 := kc hB2 hq0; have k5 := kc hB2 hq1; have z0 := fun x y => two_far (x := x) (y := y) (show w.heap.size ≠ W.heap.size by omega) k0; have z1 := fun x y => two_far (x := x) (y := y) (show w.heap.size ≠ W.heap.size by omega) k1; have z2 := fun x y => two_far (x := x) (y := y) (show w.heap.size + 1 ≠ W.heap.size by omega) k2; have z3 := fun x y => two_far (x := x) (y := y) (show w.heap.size + 1 ≠ W.heap.size by omega) k3; have z4 := fun x y => two_far (x := x) (y := y) (show w.heap.size + 1 + 1 ≠ W.heap.size by omega) k4; have z5 := fun x y => two_far (x := x) (y := y) (show w.heap.size + 1 + 1 ≠ W.heap.size by omega) k5; clear hb2' hbig2)))
    all_goals (try go_wp2_with fail)
    · have hW2 : Below W.heap.size W (w2.alloc (Obj.cells #[Value.bool false, Value.slice D nd cd] 28)) := hB2.alloc hB2.size _
      refine (cmp_any _ _ (x - q * y) y _ (HR2.out.keep ((Below.refl w2.heap.size w2).alloc (Nat.le_refl _) _)) (HUW.out _ hW2) HH.out.sr HH.out.sy).mono ?_
      rw [HC.out]
      rintro e w3 ⟨rfl, b3⟩
      have HF : Hid (Below w.heap.size w w3) := (HX.out.below.trans (hW2.mono HX.out.below.size)).trans (b3.mono (Nat.le_trans HX.out.below.size hW2.size))
      clear b3 hW2
      go_wp2
      go_ret
      exact Ret.mk rfl HF.out
    · have hW2 : Below W.heap.size W ((w2.setCell ⟨w1.heap.size, 0, none⟩ (.bool false)).setCell ⟨w1.heap.size, 1, none⟩ (.slice D nd cd)) := (hB2.setCell (p := ⟨w1.heap.size, 0, none⟩) hB1.size _).setCell (p := ⟨w1.heap.size, 1, none⟩) hB1.size _
      refine (cmp_any _ _ (x - q * y) y _ (HR2.out.store o0) (HUW.out _ hW2) HH.out.sr HH.out.sy).mono ?_
      rw [HC.out]
      rintro e w3 ⟨rfl, b3⟩
      have HF : Hid (Below w.heap.size w w3) := (HX.out.below.trans (hW2.mono HX.out.below.size)).trans (b3.mono (Nat.le_trans HX.out.below.size hW2.size))
      clear b3 hW2
      go_wp2
      go_ret
      exact Ret.mk rfl HF.out
    · have hW2 : Below W.heap.size W ((w2.setCell ⟨W.heap.size, 0, none⟩ (.bool false)).setCell ⟨W.heap.size, 1, none⟩ (.slice D nd cd)) := (hB2.setCell (p := ⟨W.heap.size, 0, none⟩) (Nat.le_refl _) _).setCell (p := ⟨W.heap.size, 1, none⟩) (Nat.le_refl _) _
      refine (cmp_any _ _ (x - q * y) y _ (HR2.out.store o0) (HUW.out _ hW2) HH.out.sr HH.out.sy).mono ?_
      rw [HC.out]
      rintro e w3 ⟨rfl, b3⟩
      have HF : Hid (Below w.heap.size w w3) := (HX.out.below.trans (hW2.mono HX.out.below.size)).trans (b3.mono (Nat.le_trans HX.out.below.size hW2.size))
      clear b3 hW2
      go_wp2
      go_ret
      exact Ret.mk rfl HF.out

end Go.Proofs.Ytnneinjmdkoopaa
