/- Contracts of the reference's numbers without end, seventh part: Mul. -/
import Derived.Test.YtckeplbmkjoiaaaDoorBig5
namespace Go.Proofs.YtckeplbmkjoiaaaDoor
open Go.RowKit
set_option linter.unusedVariables false

/-- One digit's product, behind m rounds. -/
structure MulR (a : List Nat) (bi : Nat) (o : List Nat) (m cy : Nat) : Prop where
  len : o.length = m
  dok : Dok o
  cy9 : cy ≤ 999
  top : m ≤ a.length + 1
  room : 0 < cy → m ≤ a.length
  sum : val o + cy * 1000 ^ m = valTo a m * bi
theorem MulR.start (a : List Nat) (bi : Nat) : MulR a bi [] 0 0 := ⟨rfl, dok_nil, by omega, by omega, by omega, by simp [val, valTo]⟩
theorem mul_step {o c X A d b : Nat} (h : o + c * X = A * b) : (o + (d * b + c) % 1000 * X) + (d * b + c) / 1000 * (X * 1000) = (A + d * X) * b := by
  have e := Nat.mod_add_div (d * b + c) 1000
  generalize (d * b + c) % 1000 = r at *
  generalize (d * b + c) / 1000 = q at *
  grind
theorem MulR.step {a : List Nat} {bi : Nat} {o : List Nat} {m cy : Nat} (h : MulR a bi o m cy) (oa : Dok a) (hb : bi < 1000) (hc : m < a.length ∨ 0 < cy) :
    MulR a bi (o ++ [(dn a m * bi + cy) % 1000]) (m + 1) ((dn a m * bi + cy) / 1000) ∧ dn a m * bi ≤ 998001 := by
  have da := oa m
  have c9 := h.cy9
  have hm : m ≤ a.length := by
    rcases hc with hc | hc
    · omega
    · exact h.room hc
  have hp : dn a m * bi ≤ 999 * 999 := Nat.mul_le_mul (by omega) (by omega)
  refine ⟨⟨by simp [h.len], dok_snoc h.dok (by omega), by omega, by omega, fun hcy => ?_, ?_⟩, by omega⟩
  · rcases Nat.lt_or_ge m a.length with h1 | h1
    · omega
    · exfalso
      rw [dn_past h1] at hcy
      omega
  · rw [val_snoc, h.len, valTo, Nat.pow_succ]
    exact mul_step h.sum
theorem MulR.done {a : List Nat} {bi : Nat} {o : List Nat} {m cy : Nat} (h : MulR a bi o m cy) (h1 : ¬ m < a.length) (h2 : ¬ 0 < cy) : val o = val a * bi := by
  have hs := h.sum
  rw [val_to (by omega)] at hs
  have : cy = 0 := by omega
  subst this
  omega

/-- What lies in memory at the head of a round of Mul: the two numbers, the result's box, the sum's box. -/
structure MulW (w : World) (A B : Option Addr) (a b : List Nat) (ca cb : Nat) (nx ny : Bool) (As : Option Addr) (sds : List Nat) (cs : Nat) (z : Int) (wr : World) : Prop where
  boxes : Boxes w wr nx ny (.slice A a.length ca) (.slice B b.length cb)
  ra : Row wr A a
  rb : Row wr B b
  s0 : wr.cell? ⟨w.heap.size + 1 + 1 + 1, 0, none⟩ = some (.bool false)
  s1 : wr.cell? ⟨w.heap.size + 1 + 1 + 1, 1, none⟩ = some (.slice As sds.length cs)
  g0 : wr.frozen? ⟨w.heap.size + 1 + 1 + 1, 0, none⟩ = false
  g1 : wr.frozen? ⟨w.heap.size + 1 + 1 + 1, 1, none⟩ = false
  big : BigAt wr As cs sds z
  pos : 0 ≤ z
theorem MulW.keep {w : World} {A B : Option Addr} {a b : List Nat} {ca cb : Nat} {nx ny : Bool} {As : Option Addr} {sds : List Nat} {cs : Nat} {z : Int} {wr w1 : World}
    (h : MulW w A B a b ca cb nx ny As sds cs z wr) (hb : Below wr.heap.size wr w1) : MulW w A B a b ca cb nx ny As sds cs z w1 :=
  ⟨h.boxes.keep hb, h.ra.keep hb, h.rb.keep hb, kcB hb h.s0, kcB hb h.s1, kfB hb h.s0 h.g0, kfB hb h.s1 h.g1, h.big.keep hb, h.pos⟩
theorem MulW.store {w : World} {A B : Option Addr} {a b : List Nat} {ca cb : Nat} {nx ny : Bool} {As As' : Option Addr} {sds sds' : List Nat} {cs cs' : Nat} {z z' : Int} {w2 : World}
    (h : MulW w A B a b ca cb nx ny As sds cs z w2) (hn : BigAt w2 As' cs' sds' z') (hz : 0 ≤ z') :
    MulW w A B a b ca cb nx ny As' sds' cs' z' ((w2.setCell ⟨w.heap.size + 1 + 1 + 1, 0, none⟩ (.bool false)).setCell ⟨w.heap.size + 1 + 1 + 1, 1, none⟩ (.slice As' sds'.length cs')) := by
  have hsz := h.boxes.size
  have f1 : ∀ p : Addr, ((w2.setCell ⟨w.heap.size + 1 + 1 + 1, 0, none⟩ (.bool false)).setCell ⟨w.heap.size + 1 + 1 + 1, 1, none⟩ (.slice As' sds'.length cs')).frozen? p = w2.frozen? p := fun p => by simp
  refine ⟨⟨two_far (by omega) h.boxes.c0, two_far (by omega) h.boxes.c1, two_far (by omega) h.boxes.c2, two_far (by omega) h.boxes.c3, two_far (by omega) h.boxes.c4, two_far (by omega) h.boxes.c5,
    (f1 _).trans h.boxes.f4, (f1 _).trans h.boxes.f5, (h.boxes.below.setCell (p := ⟨w.heap.size + 1 + 1 + 1, 0, none⟩) (by show w.heap.size ≤ w.heap.size + 1 + 1 + 1; omega) _).setCell (p := ⟨w.heap.size + 1 + 1 + 1, 1, none⟩) (by show w.heap.size ≤ w.heap.size + 1 + 1 + 1; omega) _, ?_⟩,
    h.ra.store h.s0, h.rb.store h.s0, ?_, ?_, (f1 _).trans h.g0, (f1 _).trans h.g1, hn.store h.s0, hz⟩
  · simpa [World.setCell] using hsz
  · rw [World.cell?_setCell_other _ _ _ _ (fun e => by injection e with _ e2; cases e2)]
    exact World.cell?_setCell_same _ _ _ h.s0
  · apply World.cell?_setCell_same (u := .slice As sds.length cs)
    rw [World.cell?_setCell_other _ _ _ _ (fun e => by injection e with _ e2; cases e2)]
    exact h.s1

theorem big_zero (w : World) : BigAt w none 0 [] 0 := ⟨Row.nil, Nat.le_refl _, by simp [maxLen], dok_nil, canon_nil, rfl⟩
theorem MulW.start (w : World) (A B : Option Addr) (a b : List Nat) (ca cb : Nat) (nx ny : Bool) (W : World) (T : TypeId) (hX : Boxes w W nx ny (.slice A a.length ca) (.slice B b.length cb)) (hs : W.heap.size = w.heap.size + 1 + 1 + 1) (ra : Row W A a) (rb : Row W B b) :
    MulW w A B a b ca cb nx ny none [] 0 0 (W.alloc (.cells #[.bool false, .slice none 0 0] T)) := by
  have hb : Below W.heap.size W (W.alloc (.cells #[.bool false, .slice none 0 0] T)) := (Below.refl _ _).alloc (Nat.le_refl _) _
  refine ⟨hX.keep hb, ra.keep hb, rb.keep hb, ?_, ?_, ?_, ?_, big_zero _, by omega⟩
  · rw [cell_newB _ _ _ _ _ hs]; rfl
  · rw [cell_newB _ _ _ _ _ hs]; rfl
  · rw [frozen_new _ _ _ _ _ hs]
  · rw [frozen_new _ _ _ _ _ hs]

theorem small_part {x y : Int} {p q : Nat} (hs : Small (x * y)) (hp : p ≤ x.natAbs) (hq : q ≤ y.natAbs) : Small ((p * q : Nat) : Int) := by
  unfold Small at *
  rw [Int.natAbs_mul] at hs
  have := Nat.mul_le_mul hp hq
  omega
theorem digit_part (b : List Nat) (k : Nat) : dn b k * 1000 ^ k ≤ val b ∧ valTo b k ≤ val b ∧ valTo b k + dn b k * 1000 ^ k = valTo b (k + 1) := by
  have h := valTo_le b (k + 1)
  rw [valTo] at h
  exact ⟨by omega, by omega, by rw [valTo]⟩
theorem ofSign_mul (x y : Int) : ofSign (!decide (x < 0) == decide (y < 0)) (x.natAbs * y.natAbs) = x * y := by
  have e := Int.natAbs_mul x y
  unfold ofSign
  rw [← e]
  by_cases hx : x < 0 <;> by_cases hy : y < 0 <;> simp [hx, hy]
  · have := Int.mul_nonneg_of_nonpos_of_nonpos (a := x) (b := y) (by omega) (by omega); omega
  · have := Int.mul_nonpos_of_nonpos_of_nonneg (a := x) (b := y) (by omega) (by omega); omega
  · have := Int.mul_nonpos_of_nonneg_of_nonpos (a := x) (b := y) (by omega) (by omega); omega
  · have := Int.mul_nonneg (a := x) (b := y) (by omega) (by omega); omega

end Go.Proofs.YtckeplbmkjoiaaaDoor
