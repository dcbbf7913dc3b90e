/- Contracts of package ground, second part: Grid; the reference's Grid. -/
import Derived.Test.YtcneilhhpblclaaGr2
import Derived.OwnWalk
import Derived.Laws.OwnMore
namespace Go.Proofs.Ytcneilhhpblclaa
open Go.RowKit
set_option linter.unusedVariables false

theorem Try.infoT : (Try.prog.info? 4).map (fun i => (i.zero, i.size, i.bytes)) = some (some (.bool false), 1, 1) := by kernel_rfl

theorem Bx.keepB {w X Y : World} {g B : Nat} {a b c d : Value} (h : Bx w g X a b c d) (hb : Below B X Y) (hg : g < B) (hB : w.heap.size ≤ B) : Bx w g Y a b c d :=
  ⟨h.ge, (hb.cell (p := ⟨g, 0, none⟩) hg).trans h.c0, (hb.cell (p := ⟨g, 1, none⟩) hg).trans h.c1, (hb.cell (p := ⟨g, 2, none⟩) hg).trans h.c2, (hb.cell (p := ⟨g, 3, none⟩) hg).trans h.c3,
    (hb.frozen (p := ⟨g, 0, none⟩) hg).trans h.f0, (hb.frozen (p := ⟨g, 1, none⟩) hg).trans h.f1, (hb.frozen (p := ⟨g, 2, none⟩) hg).trans h.f2, (hb.frozen (p := ⟨g, 3, none⟩) hg).trans h.f3, h.below.trans (hb.mono hB)⟩

/-- The first m answers, as values. -/
def bl (g : Nat → Bool) (m : Nat) : List Value := (List.range m).map fun i => Value.bool (g i)
theorem bl_length (g : Nat → Bool) (m : Nat) : (bl g m).length = m := by simp [bl]
theorem bl_at (g : Nat → Bool) (m i : Nat) (h : i < m) : (bl g m)[i]? = some (.bool (g i)) := by simp [bl, h]
theorem bl_succ (g : Nat → Bool) (m : Nat) : bl g (m + 1) = bl g m ++ [.bool (g m)] := by simp [bl, List.range_succ]

/-- N answers lie at A. -/
def Bv (w : World) (A : Option Addr) (N : Nat) (g : Nat → Bool) : Prop :=
  ∃ b, A = some ⟨b, 0, none⟩ ∧ b < w.heap.size ∧ ∀ i, i < N → w.cell? ⟨b, i, none⟩ = some (.bool (g i))
theorem Bv.keep {w w' : World} {A : Option Addr} {N : Nat} {g : Nat → Bool} (h : Bv w A N g) (hb : Below w.heap.size w w') : Bv w' A N g := by
  obtain ⟨b, e, hlt, hc⟩ := h
  exact ⟨b, e, Nat.lt_of_lt_of_le hlt hb.size, fun i hi => (hb.cell (p := ⟨b, i, none⟩) hlt).trans (hc i hi)⟩
theorem bv_own {w : World} {base N : Nat} {v : Value} {g : Nat → Bool} (hN : 0 < N) (h : w.ownsRow base 4 1 v N (bl g N)) :
    ∃ A k, v = .slice A N k ∧ N ≤ k ∧ k ≤ maxLen ∧ Bv w A N g := by
  rcases h.2 with ⟨rfl, hn⟩ | ⟨b, cap, cur, rfl, hg, hh, hnc, hcm, _, _⟩
  · omega
  · refine ⟨_, cap, rfl, hnc, hcm, b, rfl, (Array.getElem?_eq_some_iff.1 hh).1, fun i hi => ?_⟩
    rw [World.ownsRow.cellAt h i (by omega)]
    exact bl_at g N i hi

/-- The open cells, by number. -/
def gr (p : Nat → Nat) (wd : Nat) (T c : Int) (k : Nat) : Bool := opAt p (wd : Int) T c ((k % wd : Nat) : Int) ((k / wd : Nat) : Int)
theorem gr_at (p : Nat → Nat) (wd : Nat) (T c : Int) {i j : Nat} (hi : i < wd) : gr p wd T c (wd * j + i) = opAt p (wd : Int) T c (i : Int) (j : Int) := by
  unfold gr
  have e1 : (wd * j + i) % wd = i := by rw [Nat.mul_add_mod, Nat.mod_eq_of_lt hi]
  have e2 : (wd * j + i) / wd = j := by rw [Nat.mul_add_div (by omega), Nat.div_eq_of_lt hi]; omega
  rw [e1, e2]
theorem land_bd {wd ht : Nat} (a : wd ≤ 64) (b : ht ≤ 64) : wd * ht ≤ 4096 := Nat.mul_le_mul a b
theorem row_bd {wd ht j i : Nat} (hj : j < ht) (hi : i ≤ wd) : wd * j + i ≤ wd * ht := by
  have := Nat.mul_le_mul_left wd (show j + 1 ≤ ht by omega)
  rw [Nat.mul_add] at this
  omega

/-- A grid comes back. -/
def RetGrid (N : Nat) (g : Nat → Bool) (w : World) (e : Ending) (w' : World) : Prop :=
  ∃ A K, e = .returned (.tuple #[.slice A N K, .int .i64 0]) ∧ N ≤ K ∧ K ≤ maxLen ∧ Bv w' A N g ∧ Below w.heap.size w w'
def RetRef (N : Nat) (g : Nat → Bool) (w : World) (e : Ending) (w' : World) : Prop :=
  ∃ A K, e = .returned (.slice A N K) ∧ N ≤ K ∧ K ≤ maxLen ∧ Bv w' A N g ∧ Below w.heap.size w w'
theorem nil_back {a b : Int} (f : a = b) : Value.tuple #[.slice none 0 0, .int .i64 a] = .tuple #[.slice none 0 0, .int .i64 b] := by rw [f]

end Go.Proofs.Ytcneilhhpblclaa
