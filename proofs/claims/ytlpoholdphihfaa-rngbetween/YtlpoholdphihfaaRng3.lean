/- Contracts, third part: numbers that lie in memory; ascending; Order. -/
import Derived.Test.YtlpoholdphihfaaRng2
import Derived.Deep.OwnRows
import Derived.BigQuiet
import Derived.Deep.QuietTactic
namespace Go.Proofs.Ytlpoholdphihfaa
open Go.RowKit
set_option linter.unusedVariables false

theorem Try.infoI : (Try.prog.info? 3).map (fun i => (i.zero, i.size, i.bytes)) = some (some (.int .i64 0), 1, 8) := by kernel_rfl

/-- Block g, from block B on, holds the numbers p 0 .. p (c - 1), and may be written. -/
structure Arr (w : World) (B g c : Nat) (p : Nat → Nat) : Prop where
  lo : B ≤ g
  hi : g < w.heap.size
  cell : ∀ i, i < c → w.cell? ⟨g, i, none⟩ = some (.int .i64 (p i : Int))
  free : ∀ i, i < c → w.frozen? ⟨g, i, none⟩ = false
theorem Arr.keep {w w' : World} {B g c : Nat} {p : Nat → Nat} (h : Arr w B g c p) (hb : Below w.heap.size w w') : Arr w' B g c p :=
  ⟨h.lo, Nat.lt_of_lt_of_le h.hi hb.size, fun i hi => (hb.cell (p := ⟨g, i, none⟩) h.hi).trans (h.cell i hi), fun i hi => (hb.frozen (p := ⟨g, i, none⟩) h.hi).trans (h.free i hi)⟩
theorem Arr.congr {w : World} {B g c : Nat} {p q : Nat → Nat} (h : Arr w B g c p) (e : ∀ i, i < c → p i = q i) : Arr w B g c q :=
  ⟨h.lo, h.hi, fun i hi => by rw [← e i hi]; exact h.cell i hi, h.free⟩
theorem Arr.set {w : World} {B g c : Nat} {p : Nat → Nat} (h : Arr w B g c p) {i : Nat} (hi : i < c) (v : Nat) :
    Arr (w.setCell ⟨g, i, none⟩ (.int .i64 (v : Int))) B g c (fun x => if x = i then v else p x) := by
  refine ⟨h.lo, by simpa using h.hi, fun j hj => ?_, fun j hj => (World.frozen?_setCell _ _ _ _).trans (h.free j hj)⟩
  by_cases e : j = i
  · subst e
    rw [if_pos rfl]
    exact World.cell?_setCell_same _ _ _ (h.cell j hj)
  · rw [if_neg e]
    exact (World.cell?_setCell_other _ _ _ _ (fun he => e (by injection he with _ h2; exact h2.symm))).trans (h.cell j hj)
theorem Arr.drew {w : World} {B g c : Nat} {p : Nat → Nat} (h : Arr w B g c p) : Arr w.drew B g c p := ⟨h.lo, h.hi, h.cell, h.free⟩
theorem Arr.base {w : World} {B B' g c : Nat} {p : Nat → Nat} (h : Arr w B g c p) (hB : B' ≤ B) : Arr w B' g c p := ⟨Nat.le_trans hB h.lo, h.hi, h.cell, h.free⟩
theorem Arr.made (w : World) (c : Nat) : Arr (w.alloc (.cells (madeCells #[.int .i64 0] c) 3)) w.heap.size w.heap.size c (fun _ => 0) := by
  have h := World.rowIs_made w (.int .i64 0) c 3
  exact ⟨Nat.le_refl _, h.lt, fun i hi => h.cell hi, fun i _ => h.frozen i⟩
theorem Arr.swap {w : World} {B g c : Nat} {p : Nat → Nat} (h : Arr w B g c p) {i j : Nat} (hi : i < c) (hj : j < c) :
    Arr ((w.setCell ⟨g, i, none⟩ (.int .i64 (p j : Int))).setCell ⟨g, j, none⟩ (.int .i64 (p i : Int))) B g c (swp p i j) :=
  ((h.set hi (p j)).set hj (p i)).congr (fun x _ => rfl)

/-- A slice of numbers comes back, in new memory. -/
def RetArr (c : Nat) (p : Nat → Nat) (w : World) (e : Ending) (w' : World) : Prop :=
  ∃ g, e = .returned (.slice (some ⟨g, 0, none⟩) c c) ∧ Arr w' w.heap.size g c p ∧ Below w.heap.size w w'

set_option maxHeartbeats 400000 in
theorem ascending_any (c : Nat) (w : World) (hc : c ≤ 256) :
    Calls Try.prog 20 #[.int .i64 (c : Int)] w (RetArr c (fun x => x) w) := by
  have hmk := run_make_row' (P := Try.prog) 34 3 (.int .i64 0) 8 Try.underlying34 Try.infoI rfl .i64 .i64 c (by omega) (by omega)
  have HM := Lib.hid (Arr.made w c)
  go_enter Try.func20, Try.ntmps20
  go_wp2
  go_loopw [9] (fun i wr => ∃ k : Nat, k ≤ c ∧ i = .int .i64 (k : Int) ∧ Arr wr w.heap.size w.heap.size c (fun x => if x < k then x else 0) ∧ Below w.heap.size w wr) (fun i _ => c - (intOf i).toNat)
  case atStart =>
    refine ⟨0, by omega, rfl, HM.out.congr (fun i _ => by simp), (Below.refl _ _).alloc (Nat.le_refl _) _⟩
  case round =>
    obtain ⟨k, hk, rfl, hA, hB⟩ := hrel
    clear HM hmk
    by_cases hlt : k < c
    · have hcell := hA.cell k hlt
      have hfree := hA.free k hlt
      have HN : Hid (Arr (wr.setCell ⟨w.heap.size, k, none⟩ (.int .i64 (k : Int))) w.heap.size w.heap.size c (fun x => if x < k + 1 then x else 0)) := by
        refine (hA.set hlt k).congr (fun i hi => ?_)
        by_cases e : i = k
        · subst e; simp
        · rw [if_neg e]
          by_cases h1 : i < k
          · rw [if_pos h1, if_pos (by omega)]
          · rw [if_neg h1, if_neg (by omega)]
      have HB : Hid (Below w.heap.size w (wr.setCell ⟨w.heap.size, k, none⟩ (.int .i64 (k : Int)))) := hB.setCell (Nat.le_refl _) _
      clear hA hB
      simp at hcell
      go_wp2
      go_roundw
      case rel => exact ⟨k + 1, by omega, by go_num, HN, HB⟩
      case measure => simp [intOf]; omega
    · have e : k = c := by omega
      subst e
      have HA := Lib.hid hA
      have HB := Lib.hid hB
      clear hA hB
      go_wp2
      go_ret
      exact ⟨_, rfl, HA.out.congr (fun i hi => by rw [if_pos hi]), HB.out⟩

end Go.Proofs.Ytlpoholdphihfaa
