/- How BivouacRoads begins. -/
import Derived.Test.YtcipedijjemghaaDoorRel3
import Derived.Test.YtcipedijjemghaaDoorRel6
import Derived.Test.YtcipedijjemghaaDoorGr8
import Derived.Test.YtcipedijjemghaaDoorLRtStart
import Derived.Deep.RegionHeld3
import Derived.Deep.DeepCutAuto
namespace Go.Proofs.YtcipedijjemghaaDoor
open Go.RowKit
set_option linter.unusedVariables false

set_option maxHeartbeats 400000 in
theorem fewT_any (W H T : Int) (A : Option Addr) (n c : Nat) (p : Nat → Nat) (w : World) (hb : Bs w A n p) (hn : n ≤ c) (hc : c ≤ maxLen) :
    Calls Tryd.prog 20 #[.agg #[.int .i64 W, .int .i64 H, .int .i64 T, .slice A n c]] w (Ret (.agg #[.int .i64 W, .int .i64 H, .int .i64 T, .slice A (fewN n) c]) w) := by
  unfold maxLen at hc
  by_cases h : 4300 < n
  · have HE : Hid (fewN n = 4300) := by show _ = _; unfold fewN; rw [if_pos h]
    obtain ⟨g, o, rfl, _, _⟩ := hb (by omega)
    clear hb
    have h' : (4300 : Int) < (n : Int) := by omega
    have hc0 : ¬ c = 0 := by omega
    have hc1 : (4300 : Int) ≤ (c : Int) := by omega
    go_enter Tryd.func20, Tryd.ntmps20
    go_wp2
    refine bodyPost_ret (v := .agg #[.int .i64 W, .int .i64 H, .int .i64 T, .slice (some ⟨g, o, none⟩) 4300 c]) (by simp [results, Tryd.results20, go_sem]) rfl ?_
    rw [HE.out]
    exact Ret.mk rfl (((Below.refl _ _).alloc (Nat.le_refl _) _).alloc (by simp) _)
  · have HE : Hid (fewN n = n) := by show _ = _; unfold fewN; rw [if_neg h]
    clear hb
    have h' : ¬ (4300 : Int) < (n : Int) := by omega
    go_enter Tryd.func20, Tryd.ntmps20
    go_wp2
    refine bodyPost_ret (v := .agg #[.int .i64 W, .int .i64 H, .int .i64 T, .slice A n c]) (by simp [results, Tryd.results20, go_sem]) rfl ?_
    rw [HE.out]
    exact Ret.mk rfl (((Below.refl _ _).alloc (Nat.le_refl _) _).alloc (by simp) _)

instance (W H T : Int) (n : Nat) : Decidable (Val W H T n) := decidable_of_iff (Sides W H T ∧ (n : Int) = (W + 1) * (H + 1)) ⟨fun h => ⟨h.1, h.2⟩, fun h => ⟨h.s, h.e⟩⟩

/-- What each law begins with: the map's box, its bytes. -/
structure Start (w Y : World) (g : Nat) (W H T : Int) (A : Option Addr) (N c : Nat) (p : Nat → Nat) : Prop where
  bx : Bx w g Y (.int .i64 W) (.int .i64 H) (.int .i64 T) (.slice A N c)
  bs : Bs Y A N p
theorem Start.keep {w Y Z : World} {g : Nat} {W H T : Int} {A : Option Addr} {N c : Nat} {p : Nat → Nat} (h : Start w Y g W H T A N c p) (hb : Below Y.heap.size Y Z) : Start w Z g W H T A N c p := ⟨h.bx.keep hb, h.bs.keep hb⟩
/-- Sides are numbers from 0 on. -/
theorem Val.nat {W H T : Int} {n : Nat} (h : Val W H T n) : ∃ wd ht : Nat, W = (wd : Int) ∧ H = (ht : Int) := by
  obtain ⟨h1, h2, h3, h4, _, _⟩ := h.s
  exact ⟨W.toNat, H.toNat, by omega, by omega⟩

/-- The Cell's box. -/
structure B7 (w X : World) (a0 a1 a2 a3 a4 a5 a6 : Value) : Prop where
  c0 : X.cell? ⟨w.heap.size, 0, none⟩ = some a0
  c1 : X.cell? ⟨w.heap.size, 1, none⟩ = some a1
  c2 : X.cell? ⟨w.heap.size, 2, none⟩ = some a2
  c3 : X.cell? ⟨w.heap.size, 3, none⟩ = some a3
  c4 : X.cell? ⟨w.heap.size, 4, none⟩ = some a4
  c5 : X.cell? ⟨w.heap.size, 5, none⟩ = some a5
  c6 : X.cell? ⟨w.heap.size, 6, none⟩ = some a6
  below : Below w.heap.size w X
theorem B7.keep {w X Y : World} {a0 a1 a2 a3 a4 a5 a6 : Value} (h : B7 w X a0 a1 a2 a3 a4 a5 a6) (hb : Below X.heap.size X Y) : B7 w Y a0 a1 a2 a3 a4 a5 a6 :=
  ⟨kc hb h.c0, kc hb h.c1, kc hb h.c2, kc hb h.c3, kc hb h.c4, kc hb h.c5, kc hb h.c6, h.below.trans (hb.mono h.below.size)⟩
theorem B7.drew {w X : World} {a0 a1 a2 a3 a4 a5 a6 : Value} (h : B7 w X a0 a1 a2 a3 a4 a5 a6) : B7 w X.drew a0 a1 a2 a3 a4 a5 a6 := h.keep (Below.refl _ _).drew
theorem B7.new (w : World) (a0 a1 a2 a3 a4 a5 a6 : Value) (t : TypeId) : B7 w (w.alloc (.cells #[a0, a1, a2, a3, a4, a5, a6] t)) a0 a1 a2 a3 a4 a5 a6 :=
  ⟨by rw [cell_new _ _ _ _ _ rfl]; rfl, by rw [cell_new _ _ _ _ _ rfl]; rfl, by rw [cell_new _ _ _ _ _ rfl]; rfl, by rw [cell_new _ _ _ _ _ rfl]; rfl, by rw [cell_new _ _ _ _ _ rfl]; rfl, by rw [cell_new _ _ _ _ _ rfl]; rfl, by rw [cell_new _ _ _ _ _ rfl]; rfl,
    (Below.refl _ _).alloc (Nat.le_refl _) _⟩
/-- The map's box laid behind the call. -/
theorem Start.behind {w X : World} {W H T : Int} {A : Option Addr} {n m c : Nat} {p : Nat → Nat} (hb : Bs w A n p) (hm : m ≤ n) (hB : Below w.heap.size w X) :
    Start w (X.alloc (.cells #[.int .i64 W, .int .i64 H, .int .i64 T, .slice A m c] 45)) X.heap.size W H T A m c p :=
  ⟨Bx.next hB _ _ _ _ _, ((hb.keep hB).take hm).alloc _⟩
/-- The map's box laid ahead of the call. -/
theorem Start.ahead {w X : World} {g : Nat} {W H T : Int} {A : Option Addr} {n m c : Nat} {p : Nat → Nat} {a b e d : Value} (hb : Bs w A n p) (hm : m ≤ n) (hX : Bx w g X a b e d) :
    Start w ((((X.setCell ⟨g, 0, none⟩ (.int .i64 W)).setCell ⟨g, 1, none⟩ (.int .i64 H)).setCell ⟨g, 2, none⟩ (.int .i64 T)).setCell ⟨g, 3, none⟩ (.slice A m c)) g W H T A m c p := by
  refine ⟨hX.put _ _ _ _, fun h0 => ?_⟩
  obtain ⟨g0, o, rfl, hg, _⟩ := hb (by omega)
  have := hX.ge
  exact ((hb.keep hX.below).take hm).put (fun x e => by injection e with e; subst e; show g0 ≠ g; omega) _ _ _ _ h0

end Go.Proofs.YtcipedijjemghaaDoor
