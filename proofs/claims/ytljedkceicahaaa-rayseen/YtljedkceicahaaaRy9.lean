/- Contracts of package ray, eighth part: Sees. -/
import Derived.Test.YtljedkceicahaaaRy8
namespace Go.Proofs.Ytljedkceicahaaa
open Go.RowKit Go.Shelf
set_option linter.unusedVariables false

/-- Heights that an eye may have. -/
def Hs (high low : Int) : Prop := 0 ≤ high ∧ high ≤ 255 ∧ 0 ≤ low ∧ low ≤ 255
instance (x y : Int) : Decidable (Hs x y) := by unfold Hs; exact inferInstance

theorem two_ints {u : World} {g : Nat} {x y : Int} (h0 : u.cell? ⟨g, 0, none⟩ = some (.int .i64 x)) (h1 : u.cell? ⟨g, 1, none⟩ = some (.int .i64 y)) :
    ∀ i, i < 2 → u.cell? ⟨g, i, none⟩ = some (.int .i64 ((fun i => if i = 0 then x else y) i)) := by
  intro i hi
  have e : i = 0 ∨ i = 1 := by omega
  rcases e with rfl | rfl
  · exact h0
  · exact h1
theorem Hs.upto {x y : Int} (h : Hs x y) : Upto 255 (fun i => if i = 0 then x else y) 2 := by
  intro i hi
  have e : i = 0 ∨ i = 1 := by omega
  obtain ⟨h1, h2, h3, h4⟩ := h
  rcases e with rfl | rfl
  · exact ⟨h1, h2⟩
  · exact ⟨h3, h4⟩
theorem Hs.not_upto {x y : Int} (h : ¬ Hs x y) : ¬ Upto 255 (fun i => if i = 0 then x else y) 2 := by
  intro g
  have g0 := g 0 (by decide)
  have g1 := g 1 (by decide)
  simp only [if_pos, Nat.one_ne_zero, if_false] at g0 g1
  exact h ⟨g0.1, g0.2, g1.1, g1.2⟩

/-- The boxes of the map and of both cells. -/
structure S3 (w V : World) (m0 m1 m2 m3 : Value) (a b c d : Int) : Prop where
  bx : Bx w w.heap.size V m0 m1 m2 m3
  pf : P2 V (w.heap.size + 1) a b
  pt : P2 V (w.heap.size + 2) c d
theorem S3.keep {w V V' : World} {m0 m1 m2 m3 : Value} {a b c d : Int} (h : S3 w V m0 m1 m2 m3 a b c d) (hb : Below V.heap.size V V') : S3 w V' m0 m1 m2 m3 a b c d :=
  ⟨h.bx.keep hb, h.pf.keep hb, h.pt.keep hb⟩
theorem S3.new (w : World) (m0 m1 m2 m3 : Value) (a b c d : Int) :
    S3 w (((w.alloc (.cells #[m0, m1, m2, m3] 24)).alloc (.cells #[.int .i64 a, .int .i64 b] 36)).alloc (.cells #[.int .i64 c, .int .i64 d] 36)) m0 m1 m2 m3 a b c d := by
  obtain ⟨V1, h1⟩ : ∃ V1, w.alloc (.cells #[m0, m1, m2, m3] 24) = V1 := ⟨_, rfl⟩
  have s1 : V1.heap.size = w.heap.size + 1 := by rw [← h1]; simp
  have x1 : Bx w w.heap.size V1 m0 m1 m2 m3 := by rw [← h1]; exact Bx.new w m0 m1 m2 m3 _
  rw [h1]
  obtain ⟨V2, h2⟩ : ∃ V2, V1.alloc (.cells #[.int .i64 a, .int .i64 b] 36) = V2 := ⟨_, rfl⟩
  have s2 : V2.heap.size = w.heap.size + 2 := by rw [← h2]; simp; omega
  have b2 : Below V1.heap.size V1 V2 := by rw [← h2]; exact (Below.refl _ _).alloc (Nat.le_refl _) _
  have p2 : P2 V2 (w.heap.size + 1) a b := by rw [← h2, ← s1]; exact P2.new V1 a b
  rw [h2]
  have b3 : Below V2.heap.size V2 (V2.alloc (.cells #[.int .i64 c, .int .i64 d] 36)) := (Below.refl _ _).alloc (Nat.le_refl _) _
  exact ⟨(x1.keep b2).keep b3, p2.keep b3, by rw [← s2]; exact P2.new V2 c d⟩

set_option maxHeartbeats 400000 in
theorem Sees_arg (W H T a b c d high low : Int) (D : Option Addr) (n cp : Nat) (w : World) (hh : ¬ Hs high low) :
    Calls Try.prog 20 #[.agg #[.int .i64 W, .int .i64 H, .int .i64 T, .slice D n cp], .agg #[.int .i64 a, .int .i64 b], .agg #[.int .i64 c, .int .i64 d], .int .i64 high, .int .i64 low] w
      (Ret (.tuple #[.bool false, .int .i64 1]) w) := by
  have U := Lib.hid (fun (u : World) (g : Nat) h0 h1 => upTo_no 255 (fun i => if i = 0 then high else low) g 2 2 u (by decide) (two_ints h0 h1) (Hs.not_upto hh))
  have HX := Lib.hid ((S3.new w (.int .i64 W) (.int .i64 H) (.int .i64 T) (.slice D n cp) a b c d).keep ((Below.refl _ _).alloc (Nat.le_refl _) (.cells #[.int .i64 high, .int .i64 low] 3)))
  clear hh
  go_enter Try.func20, Try.ntmps20
  go_wp2_with fail
  refine (U.out _ _ ?h0 ?h1).mono ?_
  case h0 => rw [cell_new _ _ _ _ _ (by simp)]; rfl
  case h1 => rw [cell_new _ _ _ _ _ (by simp)]; rfl
  rintro e w1 ⟨rfl, rfl⟩
  go_wp2
  go_ret2
  exact Ret.mk rfl HX.out.bx.below

set_option maxHeartbeats 400000 in
theorem Sees_err (W H T a b c d high low k : Int) (D : Option Addr) (n cp : Nat) (w : World) (hh : Hs high low) (hk : (k != 0) = true)
    (C : Hid (∀ (u : World) (g : Nat), u.cell? ⟨g, 0, none⟩ = some (.int .i64 a) → u.cell? ⟨g, 1, none⟩ = some (.int .i64 b) → u.cell? ⟨g, 2, none⟩ = some (.int .i64 c) → u.cell? ⟨g, 3, none⟩ = some (.int .i64 d) → Calls Try.prog 29 #[.agg #[.int .i64 W, .int .i64 H, .int .i64 T, .slice D n cp], .slice (some ⟨g, 0, none⟩) 2 2] u (Ret (.int .i64 k) u))) :
    Calls Try.prog 20 #[.agg #[.int .i64 W, .int .i64 H, .int .i64 T, .slice D n cp], .agg #[.int .i64 a, .int .i64 b], .agg #[.int .i64 c, .int .i64 d], .int .i64 high, .int .i64 low] w
      (Ret (.tuple #[.bool false, .int .i64 k]) w) := by
  have U := Lib.hid (fun (u : World) (g : Nat) h0 h1 => upTo_yes 255 (fun i => if i = 0 then high else low) g 2 2 u (by decide) (two_ints h0 h1) hh.upto)
  obtain ⟨V, hV⟩ : ∃ V, (((w.alloc (.cells #[.int .i64 W, .int .i64 H, .int .i64 T, .slice D n cp] 24)).alloc (.cells #[.int .i64 a, .int .i64 b] 36)).alloc (.cells #[.int .i64 c, .int .i64 d] 36)).alloc (.cells #[.int .i64 high, .int .i64 low] 3) = V := ⟨_, rfl⟩
  have S := (S3.new w (.int .i64 W) (.int .i64 H) (.int .i64 T) (.slice D n cp) a b c d).keep ((Below.refl _ _).alloc (Nat.le_refl _) (.cells #[.int .i64 high, .int .i64 low] 3))
  rw [hV] at S
  have HX := Lib.hid S
  have m0 := S.bx.c0
  have m1 := S.bx.c1
  have m2 := S.bx.c2
  have m3 := S.bx.c3
  have m4 := S.pf.c0
  have m5 := S.pf.c1
  have m6 := S.pt.c0
  have m7 := S.pt.c1
  have HV := Lib.hid hV
  clear hh hV S
  go_enter Try.func20, Try.ntmps20
  go_wp2_with fail
  refine (U.out _ _ ?h0 ?h1).mono ?_
  case h0 => rw [cell_new _ _ _ _ _ (by simp)]; rfl
  case h1 => rw [cell_new _ _ _ _ _ (by simp)]; rfl
  rintro e w1 ⟨rfl, rfl⟩
  rw [HV.out]
  go_wp2_with fail
  refine (C.out _ _ ?h0 ?h1 ?h2 ?h3).mono ?_
  case h0 => rw [cell_new _ _ _ _ _ (by simp)]; rfl
  case h1 => rw [cell_new _ _ _ _ _ (by simp)]; rfl
  case h2 => rw [cell_new _ _ _ _ _ (by simp)]; rfl
  case h3 => rw [cell_new _ _ _ _ _ (by simp)]; rfl
  rintro e w2 ⟨rfl, b2⟩
  have B2 := Lib.hid (HX.out.bx.below.trans ((below_box b2).mono HX.out.bx.below.size))
  clear b2
  go_wp2
  go_ret2
  exact Ret.mk rfl B2.out

set_option maxHeartbeats 400000 in
theorem Sees_in (W H T a b c d high low : Int) (D : Option Addr) (n cp : Nat) (p : Nat → Nat) (w : World) (hn : n ≤ maxLen) (hb : Bs w D n p) (hp : ∀ i, p i < 256) (hv : Val W H T n) (hf : InC W H a b) (ht : InC W H c d) (hh : Hs high low) :
    Calls Try.prog 20 #[.agg #[.int .i64 W, .int .i64 H, .int .i64 T, .slice D n cp], .agg #[.int .i64 a, .int .i64 b], .agg #[.int .i64 c, .int .i64 d], .int .i64 high, .int .i64 low] w
      (Ret (.tuple #[.bool (seesB p W a b c d (cLo p W a b + high) (cLo p W c d + low)), .int .i64 0]) w) := by
  have U := Lib.hid (fun (u : World) (g : Nat) h0 h1 => upTo_yes 255 (fun i => if i = 0 then high else low) g 2 2 u (by decide) (two_ints h0 h1) hh.upto)
  have C := Lib.hid (fun (u : World) (g : Nat) h0 h1 h2 h3 => check_two W H T a b c d D n cp g u hn hv 0 ⟨fun _ => rfl, fun h => absurd ⟨hf, ht⟩ h⟩ h0 h1 h2 h3)
  have G := Lib.hid (fun (u : World) hb => sees_any W H T a b c d high low D n cp p u hb hp hv hf ht hh.1 hh.2.1 hh.2.2.1 hh.2.2.2)
  obtain ⟨V, hV⟩ : ∃ V, (((w.alloc (.cells #[.int .i64 W, .int .i64 H, .int .i64 T, .slice D n cp] 24)).alloc (.cells #[.int .i64 a, .int .i64 b] 36)).alloc (.cells #[.int .i64 c, .int .i64 d] 36)).alloc (.cells #[.int .i64 high, .int .i64 low] 3) = V := ⟨_, rfl⟩
  have S := (S3.new w (.int .i64 W) (.int .i64 H) (.int .i64 T) (.slice D n cp) a b c d).keep ((Below.refl _ _).alloc (Nat.le_refl _) (.cells #[.int .i64 high, .int .i64 low] 3))
  rw [hV] at S
  have HX := Lib.hid S
  have m0 := S.bx.c0
  have m1 := S.bx.c1
  have m2 := S.bx.c2
  have m3 := S.bx.c3
  have m4 := S.pf.c0
  have m5 := S.pf.c1
  have m6 := S.pt.c0
  have m7 := S.pt.c1
  have HV := Lib.hid hV
  have HB := Lib.hid hb
  clear hh hV S hb hp hv hf ht
  generalize seesB p W a b c d (cLo p W a b + high) (cLo p W c d + low) = sb at *
  go_enter Try.func20, Try.ntmps20
  go_wp2_with fail
  refine (U.out _ _ ?h0 ?h1).mono ?_
  case h0 => rw [cell_new _ _ _ _ _ (by simp)]; rfl
  case h1 => rw [cell_new _ _ _ _ _ (by simp)]; rfl
  rintro e w1 ⟨rfl, rfl⟩
  rw [HV.out]
  go_wp2_with fail
  refine (C.out _ _ ?h0 ?h1 ?h2 ?h3).mono ?_
  case h0 => rw [cell_new _ _ _ _ _ (by simp)]; rfl
  case h1 => rw [cell_new _ _ _ _ _ (by simp)]; rfl
  case h2 => rw [cell_new _ _ _ _ _ (by simp)]; rfl
  case h3 => rw [cell_new _ _ _ _ _ (by simp)]; rfl
  rintro e w2 ⟨rfl, b2⟩
  have S2 := Lib.hid (HX.out.keep (below_box b2))
  have n0 := S2.out.bx.c0
  have n1 := S2.out.bx.c1
  have n2 := S2.out.bx.c2
  have n3 := S2.out.bx.c3
  have n4 := S2.out.pf.c0
  have n5 := S2.out.pf.c1
  have n6 := S2.out.pt.c0
  have n7 := S2.out.pt.c1
  clear b2 m0 m1 m2 m3 m4 m5 m6 m7 HX HV
  go_wp2_with fail
  refine (G.out _ (HB.out.keep S2.out.bx.below)).mono ?_
  rintro e w3 ⟨rfl, b3⟩
  have B3 := Lib.hid (S2.out.bx.keep b3).below
  clear b3 n0 n1 n2 n3 n4 n5 n6 n7
  go_wp2
  go_ret2
  exact Ret.mk rfl B3.out

end Go.Proofs.Ytljedkceicahaaa
