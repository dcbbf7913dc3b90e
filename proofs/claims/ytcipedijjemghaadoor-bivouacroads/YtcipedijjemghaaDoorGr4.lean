/- Contracts of package ground, third part: neighbors, and the iterator that it hands back. -/
import Derived.RangeFuncNested
import Derived.RangeFuncBound
import Derived.RangeFuncCalls
import Derived.RangeFuncLeaves
import Derived.RangeFuncBox
import Derived.Shelf.Abstract
import Derived.OwnWalkIn
import Derived.TacticsInMore
import Derived.LoopNIn
import Derived.LoopIn
import Derived.Test.YtcipedijjemghaaDoorGr3
namespace Go.Proofs.YtcipedijjemghaaDoor
open Go.RowKit Go.Shelf
set_option linter.unusedVariables false

theorem box_keepB {W W' : World} {B b : Nat} {t : TypeId} {v : Value} (h : Boxed W b t v) (hb : Below B W W') (hlt : b < B) : Boxed W' b t v := (hb.block b hlt).trans h
theorem box_drew {W : World} {b : Nat} {t : TypeId} {v : Value} (h : Boxed W b t v) : Boxed W.drew b t v := h
theorem box_far {W : World} {b c i : Nat} {t : TypeId} {v u : Value} (h : Boxed W b t v) (hne : c ≠ b) : Boxed (W.setCell ⟨c, i, none⟩ u) b t v :=
  (Below.heap_setCell W ⟨c, i, none⟩ u b (fun e => hne e.symm)).trans h

/-- The five boxes that the iterator reads. -/
structure Nbx (W : World) (lo bi bj wd ht x : Nat) : Prop where
  i0 : lo ≤ bi
  i1 : bi < lo + 5
  j0 : lo ≤ bj
  j1 : bj < lo + 5
  hw : Boxed W lo 3 (.int .i64 (wd : Int))
  hh : Boxed W (lo + 1) 3 (.int .i64 (ht : Int))
  hx : Boxed W (lo + 2) 3 (.int .i64 (x : Int))
  hi : Boxed W bi 3 (.int .i64 ((x % wd : Nat) : Int))
  hj : Boxed W bj 3 (.int .i64 ((x / wd : Nat) : Int))
  all : ∀ b, lo ≤ b → b < lo + 5 → ∃ u, Boxed W b 3 u

def RetNb (wd ht x : Nat) (w : World) (e : Ending) (w' : World) : Prop :=
  ∃ bi bj, e = .returned (.func (.func 57) #[] #[.pointer (some ⟨bj, 0, none⟩), .pointer (some ⟨w.heap.size + 2, 0, none⟩), .pointer (some ⟨w.heap.size, 0, none⟩), .pointer (some ⟨bi, 0, none⟩), .pointer (some ⟨w.heap.size + 1, 0, none⟩)]) ∧
    Nbx w' w.heap.size bi bj wd ht x ∧ w'.heap.size = w.heap.size + 5 ∧ Below w.heap.size w w'

theorem boxes_all {W : World} {lo : Nat} {t : TypeId} {a b c d e : Value} (h1 : Boxed W lo t a) (h2 : Boxed W (lo + 1) t b) (h3 : Boxed W (lo + 2) t c) (h4 : Boxed W (lo + 3) t d) (h5 : Boxed W (lo + 4) t e) :
    ∀ k, lo ≤ k → k < lo + 5 → ∃ u, Boxed W k t u := by
  intro k k0 k1
  have hk : k = lo ∨ k = lo + 1 ∨ k = lo + 2 ∨ k = lo + 3 ∨ k = lo + 4 := by omega
  rcases hk with rfl | rfl | rfl | rfl | rfl
  · exact ⟨_, h1⟩
  · exact ⟨_, h2⟩
  · exact ⟨_, h3⟩
  · exact ⟨_, h4⟩
  · exact ⟨_, h5⟩
theorem five_boxes (w : World) (a b c d e : Value) (t : TypeId) (X : World) (hX : ((((w.alloc (.cells #[a] t)).alloc (.cells #[b] t)).alloc (.cells #[c] t)).alloc (.cells #[d] t)).alloc (.cells #[e] t) = X) :
    Boxed X w.heap.size t a ∧ Boxed X (w.heap.size + 1) t b ∧ Boxed X (w.heap.size + 2) t c ∧ Boxed X (w.heap.size + 3) t d ∧ Boxed X (w.heap.size + 4) t e ∧ X.heap.size = w.heap.size + 5 ∧ Below w.heap.size w X := by
  subst hX
  have h1 := Boxed.new w t a
  have h2 := Boxed.new (w.alloc (.cells #[a] t)) t b
  have h3 := Boxed.new ((w.alloc (.cells #[a] t)).alloc (.cells #[b] t)) t c
  have h4 := Boxed.new (((w.alloc (.cells #[a] t)).alloc (.cells #[b] t)).alloc (.cells #[c] t)) t d
  have h5 := Boxed.new ((((w.alloc (.cells #[a] t)).alloc (.cells #[b] t)).alloc (.cells #[c] t)).alloc (.cells #[d] t)) t e
  simp only [World.size_alloc, Nat.add_assoc, Nat.reduceAdd] at h2 h3 h4 h5
  exact ⟨(((h1.alloc _).alloc _).alloc _).alloc _, ((h2.alloc _).alloc _).alloc _, (h3.alloc _).alloc _, h4.alloc _, h5, by simp,
    (((((Below.refl _ w).alloc (Nat.le_refl _) _).alloc (by simp) _).alloc (by simp; omega) _).alloc (by simp; omega) _).alloc (by simp; omega) _⟩

set_option maxHeartbeats 1000000 in
theorem neighbors_any (wd ht x : Nat) (w : World) (h1 : 1 ≤ wd) (h2 : wd ≤ 64) (h3 : ht ≤ 64) (hx : x ≤ 4096) :
    Calls Tryd.prog 56 #[.int .i64 (wd : Int), .int .i64 (ht : Int), .int .i64 (x : Int)] w (RetNb wd ht x w) := by
  have hmf : ∀ (fn : Fn) (first cap : Array Value) (w : World), (Instr.makeFunc fn first cap).run Tryd.prog w = .ok (.func fn first cap) w := fun _ _ _ _ => rfl
  have hz : ((wd : Int) == 0) = false := by simp; omega
  have hz2 : ¬ (wd : Int) = 0 := by omega
  have q0 : 0 ≤ x / wd := Nat.zero_le _
  have q1 : x / wd ≤ x := Nat.div_le_self x wd
  have EI : Hid ((x : Int) % (wd : Int) = ((x % wd : Nat) : Int)) := (Int.natCast_emod _ _).symm
  have EJ : Hid ((x : Int) / (wd : Int) = ((x / wd : Nat) : Int)) := (Int.natCast_ediv _ _).symm
  go_enter Tryd.func56, Tryd.ntmps56
  go_wp2
  go_region
  all_goals go_wp2
  all_goals go_ret
  · rw [EI.out, EJ.out]
    obtain ⟨h1, h2, h3, h4, h5, h6, h7⟩ := five_boxes w (.int .i64 (wd : Int)) (.int .i64 (ht : Int)) (.int .i64 (x : Int)) (.int .i64 ((x % wd : Nat) : Int)) (.int .i64 ((x / wd : Nat) : Int)) 3 _ rfl
    exact ⟨w.heap.size + 3, w.heap.size + 4, rfl, ⟨by omega, by omega, by omega, by omega, h1, h2, h3, h4, h5, boxes_all h1 h2 h3 h4 h5⟩, h6, h7.drew⟩
  · rw [EI.out, EJ.out]
    obtain ⟨h1, h2, h3, h4, h5, h6, h7⟩ := five_boxes w (.int .i64 (wd : Int)) (.int .i64 (ht : Int)) (.int .i64 (x : Int)) (.int .i64 ((x / wd : Nat) : Int)) (.int .i64 ((x % wd : Nat) : Int)) 3 _ rfl
    exact ⟨w.heap.size + 4, w.heap.size + 3, rfl, ⟨by omega, by omega, by omega, by omega, h1, h2, h3, h5, h4, boxes_all h1 h2 h3 h4 h5⟩, h6, h7.drew⟩

end Go.Proofs.YtcipedijjemghaaDoor
