/- Contracts of the reference's numbers without end, fourth part: Minus, Add, Sub, Cmp. -/
import Derived.Test.YtckeplbmkjoiaaaDoorBig3
import Derived.Deep.RegionHeld3
namespace Go.Proofs.YtckeplbmkjoiaaaDoor
open Go.RowKit
set_option linter.unusedVariables false

theorem ofSign_not (z : Int) : ofSign (!decide (z < 0)) z.natAbs = -z := by
  unfold ofSign
  by_cases h : z < 0 <;> simp [h] <;> omega
theorem ofSign_add (x y : Int) (h : (decide (x < 0) == decide (y < 0)) = true) : ofSign (decide (x < 0)) (x.natAbs + y.natAbs) = x + y := by
  unfold ofSign
  by_cases hx : x < 0 <;> by_cases hy : y < 0 <;> simp [hx, hy] at h ⊢ <;> omega
theorem ofSign_sub (x y : Int) (h : (decide (x < 0) == decide (y < 0)) = false) (hle : y.natAbs ≤ x.natAbs) : ofSign (decide (x < 0)) (x.natAbs - y.natAbs) = x + y := by
  unfold ofSign
  by_cases hx : x < 0 <;> by_cases hy : y < 0 <;> simp [hx, hy] at h ⊢ <;> omega

set_option maxHeartbeats 1000000 in
theorem neg_any (v : Value) (z : Int) (w : World) (hv : BigIs w v z) (hz : Small z) :
    Calls Tryd.prog 58 #[v] w (RetBig (-z) w) := by
  obtain ⟨A, c, ds, rfl, hat⟩ := hv
  have HAT := Lib.hid hat
  have HS := Lib.hid (hat.few hz)
  clear hat hz
  have hno : ∀ (x : Bool) (w : World), (Op.unary .not (.bool x)).run Tryd.prog w = .ok (.bool (!x)) w := fun _ _ => rfl
  generalize hneg : decide (z < 0) = neg
  have HN := Lib.hid hneg
  clear hneg
  go_enter Tryd.func58, Tryd.ntmps58
  go_wp2_with fail
  refine (trim_any (!neg) A c ds _ ((HAT.out.row.keep ((Below.refl _ _).alloc (Nat.le_refl _) _)).keep ((Below.refl _ _).alloc (Nat.le_refl _) _)) HAT.out.cap HAT.out.top HAT.out.dok (by have := HS.out; omega)).mono ?_
  rintro e w2 ⟨v2, rfl, hbig, hb2⟩
  rw [HAT.out.is, ← HN.out, ofSign_not z] at hbig
  obtain ⟨A2, c2, ds2, rfl, hat2⟩ := hbig
  have HAT2 := Lib.hid hat2
  obtain ⟨hf2, hc2⟩ := kept_of hb2
  have HB := Lib.hid hb2
  clear hat2 hb2
  go_wp2
  refine bodyPost_ret (v := .agg #[.bool (decide (-z < 0)), .slice A2 ds2.length c2]) (by simp [results, Tryd.results58, go_sem, hc2]) rfl ?_
  exact RetBig.box (b0 := false) HAT2.out (by rw [hc2 _ _ (by simp)]; simp) ((((Below.refl _ _).alloc (Nat.le_refl _) _).alloc (by simp) _).trans (HB.out.mono (by simp; omega))) (by omega)

theorem cell_old (w : World) (o : Obj) (b i : Nat) (h : b < w.heap.size) : (w.alloc o).cell? ⟨b, i, none⟩ = w.cell? ⟨b, i, none⟩ := ((Below.refl w.heap.size w).alloc (Nat.le_refl _) o).cell (p := ⟨b, i, none⟩) h
theorem frozen_old (w : World) (o : Obj) (b i : Nat) (h : b < w.heap.size) : (w.alloc o).frozen? ⟨b, i, none⟩ = w.frozen? ⟨b, i, none⟩ := ((Below.refl w.heap.size w).alloc (Nat.le_refl _) o).frozen (p := ⟨b, i, none⟩) h
theorem cell_newB (w : World) (cs : Array Value) (t : TypeId) (n i : Nat) (h : w.heap.size = n) : (w.alloc (.cells cs t)).cell? ⟨n, i, none⟩ = cs[i]? := by subst h; simp
theorem frozen_new (w : World) (cs : Array Value) (t : TypeId) (n i : Nat) (h : w.heap.size = n) : (w.alloc (.cells cs t)).frozen? ⟨n, i, none⟩ = false := by subst h; simp
theorem size_alloc (w : World) (o : Obj) : (w.alloc o).heap.size = w.heap.size + 1 := by simp

/-- The world behind the entry of a method of two numbers and one result: two boxes and the result's. -/
structure Boxes (w W : World) (p q : Bool) (s t : Value) : Prop where
  c0 : W.cell? ⟨w.heap.size, 0, none⟩ = some (.bool p)
  c1 : W.cell? ⟨w.heap.size, 1, none⟩ = some s
  c2 : W.cell? ⟨w.heap.size + 1, 0, none⟩ = some (.bool q)
  c3 : W.cell? ⟨w.heap.size + 1, 1, none⟩ = some t
  c4 : W.cell? ⟨w.heap.size + 1 + 1, 0, none⟩ = some (.bool false)
  c5 : W.cell? ⟨w.heap.size + 1 + 1, 1, none⟩ = some (.slice none 0 0)
  f4 : W.frozen? ⟨w.heap.size + 1 + 1, 0, none⟩ = false
  f5 : W.frozen? ⟨w.heap.size + 1 + 1, 1, none⟩ = false
  below : Below w.heap.size w W
  size : w.heap.size + 3 ≤ W.heap.size
theorem Boxes.mk3 (w : World) (p q : Bool) (s t : Value) (T : TypeId) : Boxes w (((w.alloc (Obj.cells #[.bool p, s] T)).alloc (Obj.cells #[.bool q, t] T)).alloc (Obj.cells #[.bool false, .slice none 0 0] T)) p q s t := by
  have z1 := size_alloc w (Obj.cells #[.bool p, s] T)
  have z2 := size_alloc (w.alloc (Obj.cells #[.bool p, s] T)) (Obj.cells #[.bool q, t] T)
  refine ⟨?_, ?_, ?_, ?_, ?_, ?_, ?_, ?_, ?_, ?_⟩
  · rw [cell_old _ _ _ _ (by omega), cell_old _ _ _ _ (by omega)]; simp
  · rw [cell_old _ _ _ _ (by omega), cell_old _ _ _ _ (by omega)]; simp
  · rw [cell_old _ _ _ _ (by omega), cell_newB _ _ _ _ _ z1]; rfl
  · rw [cell_old _ _ _ _ (by omega), cell_newB _ _ _ _ _ z1]; rfl
  · rw [cell_newB _ _ _ _ _ (by omega)]; rfl
  · rw [cell_newB _ _ _ _ _ (by omega)]; rfl
  · rw [frozen_new _ _ _ _ _ (by omega)]
  · rw [frozen_new _ _ _ _ _ (by omega)]
  · exact (((Below.refl _ _).alloc (Nat.le_refl _) _).alloc (by simp) _).alloc (by simp; omega) _
  · rw [size_alloc, z2, z1]; omega
theorem kcB {W w1 : World} {v : Value} {b i : Nat} (hb : Below W.heap.size W w1) (hc : W.cell? ⟨b, i, none⟩ = some v) : w1.cell? ⟨b, i, none⟩ = some v :=
  (hb.cell (p := ⟨b, i, none⟩) (World.block_lt_of_cell? W _ hc)).trans hc
theorem kfB {W w1 : World} {v : Value} {b i : Nat} (hb : Below W.heap.size W w1) (hc : W.cell? ⟨b, i, none⟩ = some v) (hf : W.frozen? ⟨b, i, none⟩ = false) : w1.frozen? ⟨b, i, none⟩ = false :=
  (hb.frozen (p := ⟨b, i, none⟩) (World.block_lt_of_cell? W _ hc)).trans hf
theorem Boxes.keep {w W w1 : World} {p q : Bool} {s t : Value} (h : Boxes w W p q s t) (hb : Below W.heap.size W w1) : Boxes w w1 p q s t :=
  ⟨kcB hb h.c0, kcB hb h.c1, kcB hb h.c2, kcB hb h.c3, kcB hb h.c4, kcB hb h.c5, kfB hb h.c4 h.f4, kfB hb h.c5 h.f5, h.below.trans (hb.mono h.below.size), Nat.le_trans h.size hb.size⟩

theorem two_far {w : World} {B b i : Nat} {v x y : Value} (hne : b ≠ B) (h : w.cell? ⟨b, i, none⟩ = some v) : ((w.setCell ⟨B, 0, none⟩ x).setCell ⟨B, 1, none⟩ y).cell? ⟨b, i, none⟩ = some v := by
  rw [World.cell?_setCell_other _ _ _ _ (fun e => hne (by injection e with e1; exact e1.symm)), World.cell?_setCell_other _ _ _ _ (fun e => hne (by injection e with e1; exact e1.symm))]
  exact h

set_option maxHeartbeats 2000000 in
theorem add_same (v u : Value) (x y : Int) (w : World) (hv : BigIs w v x) (hu : BigIs w u y) (hx : Small x) (hy : Small y) (hs : (decide (x < 0) == decide (y < 0)) = true) :
    Calls Tryd.prog 54 #[v, u] w (RetBig (x + y) w) := by
  obtain ⟨A, c, a, rfl, hat⟩ := hv
  obtain ⟨B, d, b, rfl, hbt⟩ := hu
  have HA := Lib.hid hat
  have HB := Lib.hid hbt
  have SA := Lib.hid (hat.few hx)
  have SB := Lib.hid (hbt.few hy)
  have HE := Lib.hid (ofSign_add x y hs)
  clear hat hbt hx hy
  generalize hnx : decide (x < 0) = nx at hs
  generalize hny : decide (y < 0) = ny at hs
  have HNX := Lib.hid hnx
  have HNY := Lib.hid hny
  clear hnx hny
  have hW : Hid (∀ W, Below w.heap.size w W → Row W A a ∧ Row W B b) := fun W hb => ⟨HA.out.row.keep hb, HB.out.row.keep hb⟩
  go_enter Tryd.func54, Tryd.ntmps54
  go_wp2_with fail
  have hX := Boxes.mk3 w nx ny (.slice A a.length c) (.slice B b.length d) 59
  generalize ((w.alloc (Obj.cells #[Value.bool nx, Value.slice A a.length c] 59)).alloc (Obj.cells #[Value.bool ny, Value.slice B b.length d] 59)).alloc (Obj.cells #[Value.bool false, Value.slice none 0 0] 59) = W at hX ⊢
  have HX := Lib.hid hX
  obtain ⟨c0, c1, c2, c3, c4, c5, f4, f5, _, _⟩ := hX
  go_region_held3 (fun w' => w'.cell? ⟨w.heap.size, 0, none⟩ = some (.bool nx) ∧ w'.cell? ⟨w.heap.size, 1, none⟩ = some (.slice A a.length c) ∧ w'.cell? ⟨w.heap.size + 1, 1, none⟩ = some (.slice B b.length d))
    (go_keep)
    (first
      | (go_at_call 60; refine (plus_any A B c d a b _ (hW.out _ HX.out.below.drew).1 (hW.out _ HX.out.below.drew).2 (by have := SA.out; omega) (by have := SB.out; omega) HA.out.dok HB.out.dok).mono ?_; rintro e w1 ⟨A3, c3', ds3, rfl, hr3, hc3, hm3, hd3, hv3, hl3, hb1'⟩; have HB1 : Hid (Below W.heap.size W w1) := (Below.refl W.heap.size W).drew.trans hb1'; clear hb1'; have HR3 := Lib.hid hr3; have HV3 := Lib.hid hv3; have HD3 := Lib.hid hd3; clear hr3 hv3 hd3; obtain ⟨k0, k1, k2, k3, k4, k5, g4, g5, _, _⟩ := HX.out.keep HB1.out)
      | (go_at_call 49; refine (trim_any nx A3 c3' ds3 _ HR3.out hc3 hm3 HD3.out (by have := SA.out; have := SB.out; omega)).mono ?_; rintro e w2 ⟨v2, rfl, ⟨A2, c2', ds2, rfl, hat2⟩, hb2'⟩; have HB2 : Hid (Below W.heap.size W w2) := HB1.out.trans (hb2'.mono HB1.out.size); clear hb2'; have HAT2 := Lib.hid hat2; clear hat2; obtain ⟨k0, k1, k2, k3, k4, k5, g4, g5, _, _⟩ := HX.out.keep HB2.out; have m0 := fun x y => two_far (x := x) (y := y) (show w.heap.size ≠ w.heap.size + 1 + 1 by omega) k0; have m1 := fun x y => two_far (x := x) (y := y) (show w.heap.size ≠ w.heap.size + 1 + 1 by omega) k1; have m3 := fun x y => two_far (x := x) (y := y) (show w.heap.size + 1 ≠ w.heap.size + 1 + 1 by omega) k3))
  have HZ : Hid (ofSign nx (val ds3) = x + y) := by
    show ofSign nx (val ds3) = x + y
    rw [HV3.out, HA.out.is, HB.out.is, ← HNX.out]
    exact HE.out
  clear m0 m1 m3
  go_wp2
  refine bodyPost_ret (v := .agg #[.bool (decide (ofSign nx (val ds3) < 0)), .slice A2 ds2.length c2']) (by simp [results, Tryd.results54, go_sem, k4, k5]) rfl ?_
  rw [← HZ.out]
  exact RetBig.box (b0 := false) HAT2.out k4 (HX.out.below.trans (HB2.out.mono HX.out.below.size)) (by omega)

set_option maxHeartbeats 2000000 in
theorem add_big (v u : Value) (x y : Int) (w : World) (hv : BigIs w v x) (hu : BigIs w u y) (hx : Small x) (hy : Small y) (hs : (decide (x < 0) == decide (y < 0)) = false) (hle : y.natAbs ≤ x.natAbs) :
    Calls Tryd.prog 54 #[v, u] w (RetBig (x + y) w) := by
  obtain ⟨A, c, a, rfl, hat⟩ := hv
  obtain ⟨B, d, b, rfl, hbt⟩ := hu
  have HA := Lib.hid hat
  have HB := Lib.hid hbt
  have SA := Lib.hid (hat.few hx)
  have SB := Lib.hid (hbt.few hy)
  have HE := Lib.hid (ofSign_sub x y hs hle)
  have HC : Hid (0 ≤ cmpN (val a) (val b)) := by
    show 0 ≤ cmpN (val a) (val b)
    rw [hat.is, hbt.is]
    unfold cmpN
    rw [if_neg (by omega)]
    split <;> omega
  have HLE : Hid (val b ≤ val a) := by show val b ≤ val a; rw [hat.is, hbt.is]; exact hle
  clear hat hbt hx hy hle
  generalize hnx : decide (x < 0) = nx at hs
  generalize hny : decide (y < 0) = ny at hs
  have HNX := Lib.hid hnx
  have HNY := Lib.hid hny
  clear hnx hny
  have hW : Hid (∀ W, Below w.heap.size w W → Row W A a ∧ Row W B b) := fun W hb => ⟨HA.out.row.keep hb, HB.out.row.keep hb⟩
  go_enter Tryd.func54, Tryd.ntmps54
  go_wp2_with fail
  have hX := Boxes.mk3 w nx ny (.slice A a.length c) (.slice B b.length d) 59
  generalize ((w.alloc (Obj.cells #[Value.bool nx, Value.slice A a.length c] 59)).alloc (Obj.cells #[Value.bool ny, Value.slice B b.length d] 59)).alloc (Obj.cells #[Value.bool false, Value.slice none 0 0] 59) = W at hX ⊢
  have HX := Lib.hid hX
  clear hX
  refine (sizes_any A B c d a b W (hW.out _ HX.out.below).1 (hW.out _ HX.out.below).2 (by have := SA.out; omega) (by have := SB.out; omega) HA.out.dok HB.out.dok).mono ?_
  rintro e w' ⟨rfl, rfl⟩
  have hcmp := HC.out
  generalize cmpN (val a) (val b) = cv at hcmp ⊢
  obtain ⟨c0, c1, c2, c3, c4, c5, f4, f5, _, _⟩ := HX.out
  go_wp2_with fail
  go_region_held3 (fun w' => w'.cell? ⟨w.heap.size, 0, none⟩ = some (.bool nx) ∧ w'.cell? ⟨w.heap.size, 1, none⟩ = some (.slice A a.length c) ∧ w'.cell? ⟨w.heap.size + 1, 1, none⟩ = some (.slice B b.length d))
    (go_keep)
    (first
      | (go_at_call 62; refine (minus_any A B c d a b _ (hW.out _ HX.out.below.drew).1 (hW.out _ HX.out.below.drew).2 (by have := SA.out; omega) (by have := SB.out; omega) HA.out.dok HB.out.dok HB.out.canon HLE.out).mono ?_; rintro e w1 ⟨A3, c3', ds3, rfl, hr3, hc3, hm3, hd3, hv3, hl3, hb1'⟩; have HB1 : Hid (Below W.heap.size W w1) := (Below.refl W.heap.size W).drew.trans hb1'; clear hb1'; have HR3 := Lib.hid hr3; have HV3 := Lib.hid hv3; have HD3 := Lib.hid hd3; clear hr3 hv3 hd3; obtain ⟨k0, k1, k2, k3, k4, k5, g4, g5, _, _⟩ := HX.out.keep HB1.out)
      | (go_at_call 49; refine (trim_any nx A3 c3' ds3 _ HR3.out hc3 hm3 HD3.out (by have := SA.out; have := SB.out; omega)).mono ?_; rintro e w2 ⟨v2, rfl, ⟨A2, c2', ds2, rfl, hat2⟩, hb2'⟩; have HB2 : Hid (Below W.heap.size W w2) := HB1.out.trans (hb2'.mono HB1.out.size); clear hb2'; have HAT2 := Lib.hid hat2; clear hat2; obtain ⟨k0, k1, k2, k3, k4, k5, g4, g5, _, _⟩ := HX.out.keep HB2.out; have m0 := fun x y => two_far (x := x) (y := y) (show w.heap.size ≠ w.heap.size + 1 + 1 by omega) k0; have m1 := fun x y => two_far (x := x) (y := y) (show w.heap.size ≠ w.heap.size + 1 + 1 by omega) k1; have m3 := fun x y => two_far (x := x) (y := y) (show w.heap.size + 1 ≠ w.heap.size + 1 + 1 by omega) k3))
  have HZ : Hid (ofSign nx (val ds3) = x + y) := by
    show ofSign nx (val ds3) = x + y
    rw [HV3.out, HA.out.is, HB.out.is, ← HNX.out]
    exact HE.out
  clear m0 m1 m3
  go_wp2
  refine bodyPost_ret (v := .agg #[.bool (decide (ofSign nx (val ds3) < 0)), .slice A2 ds2.length c2']) (by simp [results, Tryd.results54, go_sem, k4, k5]) rfl ?_
  rw [← HZ.out]
  exact RetBig.box (b0 := false) HAT2.out k4 (HX.out.below.trans (HB2.out.mono HX.out.below.size)) (by omega)

set_option maxHeartbeats 2000000 in
theorem add_small (v u : Value) (x y : Int) (w : World) (hv : BigIs w v x) (hu : BigIs w u y) (hx : Small x) (hy : Small y) (hs : (decide (x < 0) == decide (y < 0)) = false) (hle : x.natAbs < y.natAbs) :
    Calls Tryd.prog 54 #[v, u] w (RetBig (x + y) w) := by
  obtain ⟨A, c, a, rfl, hat⟩ := hv
  obtain ⟨B, d, b, rfl, hbt⟩ := hu
  have HA := Lib.hid hat
  have HB := Lib.hid hbt
  have SA := Lib.hid (hat.few hx)
  have SB := Lib.hid (hbt.few hy)
  have HE : Hid (ofSign (decide (y < 0)) (y.natAbs - x.natAbs) = x + y) := by
    show ofSign (decide (y < 0)) (y.natAbs - x.natAbs) = x + y
    rw [Int.add_comm x y]
    apply ofSign_sub y x _ (by omega)
    rw [Bool.beq_comm]
    exact hs
  have HC : Hid (cmpN (val a) (val b) < 0) := by
    show cmpN (val a) (val b) < 0
    rw [hat.is, hbt.is]
    unfold cmpN
    rw [if_pos hle]
    omega
  have HLE : Hid (val a ≤ val b) := by show val a ≤ val b; rw [hat.is, hbt.is]; omega
  clear hat hbt hx hy hle
  generalize hnx : decide (x < 0) = nx at hs
  generalize hny : decide (y < 0) = ny at hs
  have HNX := Lib.hid hnx
  have HNY := Lib.hid hny
  clear hnx hny
  have hW : Hid (∀ W, Below w.heap.size w W → Row W A a ∧ Row W B b) := fun W hb => ⟨HA.out.row.keep hb, HB.out.row.keep hb⟩
  go_enter Tryd.func54, Tryd.ntmps54
  go_wp2_with fail
  have hX := Boxes.mk3 w nx ny (.slice A a.length c) (.slice B b.length d) 59
  generalize ((w.alloc (Obj.cells #[Value.bool nx, Value.slice A a.length c] 59)).alloc (Obj.cells #[Value.bool ny, Value.slice B b.length d] 59)).alloc (Obj.cells #[Value.bool false, Value.slice none 0 0] 59) = W at hX ⊢
  have HX := Lib.hid hX
  clear hX
  refine (sizes_any A B c d a b W (hW.out _ HX.out.below).1 (hW.out _ HX.out.below).2 (by have := SA.out; omega) (by have := SB.out; omega) HA.out.dok HB.out.dok).mono ?_
  rintro e w' ⟨rfl, rfl⟩
  have hcmp := HC.out
  generalize cmpN (val a) (val b) = cv at hcmp ⊢
  obtain ⟨c0, c1, c2, c3, c4, c5, f4, f5, _, _⟩ := HX.out
  go_wp2_with fail
  go_region_held3 (fun w' => w'.cell? ⟨w.heap.size + 1, 0, none⟩ = some (.bool ny) ∧ w'.cell? ⟨w.heap.size + 1, 1, none⟩ = some (.slice B b.length d) ∧ w'.cell? ⟨w.heap.size, 1, none⟩ = some (.slice A a.length c))
    (go_keep)
    (first
      | (go_at_call 62; refine (minus_any B A d c b a _ (hW.out _ HX.out.below.drew).2 (hW.out _ HX.out.below.drew).1 (by have := SB.out; omega) (by have := SA.out; omega) HB.out.dok HA.out.dok HA.out.canon HLE.out).mono ?_; rintro e w1 ⟨A3, c3', ds3, rfl, hr3, hc3, hm3, hd3, hv3, hl3, hb1'⟩; have HB1 : Hid (Below W.heap.size W w1) := (Below.refl W.heap.size W).drew.trans hb1'; clear hb1'; have HR3 := Lib.hid hr3; have HV3 := Lib.hid hv3; have HD3 := Lib.hid hd3; clear hr3 hv3 hd3; obtain ⟨k0, k1, k2, k3, k4, k5, g4, g5, _, _⟩ := HX.out.keep HB1.out)
      | (go_at_call 49; refine (trim_any ny A3 c3' ds3 _ HR3.out hc3 hm3 HD3.out (by have := SA.out; have := SB.out; omega)).mono ?_; rintro e w2 ⟨v2, rfl, ⟨A2, c2', ds2, rfl, hat2⟩, hb2'⟩; have HB2 : Hid (Below W.heap.size W w2) := HB1.out.trans (hb2'.mono HB1.out.size); clear hb2'; have HAT2 := Lib.hid hat2; clear hat2; obtain ⟨k0, k1, k2, k3, k4, k5, g4, g5, _, _⟩ := HX.out.keep HB2.out; have m0 := fun x y => two_far (x := x) (y := y) (show w.heap.size + 1 ≠ w.heap.size + 1 + 1 by omega) k2; have m1 := fun x y => two_far (x := x) (y := y) (show w.heap.size ≠ w.heap.size + 1 + 1 by omega) k1; have m3 := fun x y => two_far (x := x) (y := y) (show w.heap.size + 1 ≠ w.heap.size + 1 + 1 by omega) k3))
  have HZ : Hid (ofSign ny (val ds3) = x + y) := by
    show ofSign ny (val ds3) = x + y
    rw [HV3.out, HA.out.is, HB.out.is, ← HNY.out]
    exact HE.out
  clear m0 m1 m3
  go_wp2
  refine bodyPost_ret (v := .agg #[.bool (decide (ofSign ny (val ds3) < 0)), .slice A2 ds2.length c2']) (by simp [results, Tryd.results54, go_sem, k4, k5]) rfl ?_
  rw [← HZ.out]
  exact RetBig.box (b0 := false) HAT2.out k4 (HX.out.below.trans (HB2.out.mono HX.out.below.size)) (by omega)

theorem addB_any (v u : Value) (x y : Int) (w : World) (hv : BigIs w v x) (hu : BigIs w u y) (hx : Small x) (hy : Small y) :
    Calls Tryd.prog 54 #[v, u] w (RetBig (x + y) w) := by
  cases hs : (decide (x < 0) == decide (y < 0)) with
  | true => exact add_same v u x y w hv hu hx hy hs
  | false =>
    by_cases hle : y.natAbs ≤ x.natAbs
    · exact add_big v u x y w hv hu hx hy hs hle
    · exact add_small v u x y w hv hu hx hy hs (by omega)

end Go.Proofs.YtckeplbmkjoiaaaDoor
