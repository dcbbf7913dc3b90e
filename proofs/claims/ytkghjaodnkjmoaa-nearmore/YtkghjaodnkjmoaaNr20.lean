/- Contracts of the law's helpers: made. -/
import Derived.Test.YtkghjaodnkjmoaaNr19
namespace Go.Proofs.Ytkghjaodnkjmoaa
open Go.RowKit Go.Sort Go.Shelf
set_option linter.unusedVariables false

section
variable (X Y : Nat → Int)
/-- What New hands back, of any spots that few lets through. -/
theorem new_any (A : Option Addr) (n c : Nat) (w : World) (hn : n ≤ 258) (hP : Ps X Y w A n) : Calls Try.prog 18 #[.slice A n c] w fun e w' =>
    Below w.heap.size w w' ∧ ((may X Y n = true ∧ ∃ p, e = .returned (.tuple #[.pointer (some ⟨p, 0, none⟩), .int .i64 0]) ∧ ∀ u, w'.heap.size ≤ u.heap.size → (∀ k, w.heap.size ≤ k → k < w'.heap.size → u.heap[k]? = w'.heap[k]?) → Ix X Y u p n) ∨ (may X Y n = false ∧ e = .returned (.tuple #[.pointer none, .int .i64 1]))) := by
  by_cases h : n ≤ 256
  · refine (new_few X Y A n c w h hP).mono ?_
    rintro e w' ⟨hb, ⟨ho, h2⟩ | ⟨ho, h2⟩⟩
    · exact ⟨hb, .inl ⟨(may_iff X Y).2 ⟨h, ho⟩, h2⟩⟩
    · refine ⟨hb, .inr ⟨?_, h2⟩⟩
      cases hm : may X Y n
      · rfl
      · exact absurd ((may_iff X Y).1 hm).2 ho
  · refine (new_many A n c w (by omega) (by unfold maxLen; omega)).mono ?_
    rintro e w' ⟨rfl, hb⟩
    refine ⟨hb, .inr ⟨?_, rfl⟩⟩
    cases hm : may X Y n
    · rfl
    · exact absurd ((may_iff X Y).1 hm).1 h
/-- What made hands back. -/
def RetMd (n : Nat) (w : World) (e : Ending) (w' : World) : Prop :=
  Below w.heap.size w w' ∧ ((may X Y n = true ∧ ∃ p, e = .returned (.tuple #[.pointer (some ⟨p, 0, none⟩), .bool true]) ∧ Ix X Y w' p n) ∨ (may X Y n = false ∧ e = .returned (.tuple #[.pointer none, .bool true])))
/-- While own is overwritten: w2 is where New began, w3 where it ended. -/
structure Ow (w w2 w3 : World) (A : Option Addr) (n c : Nat) (W : World) : Prop where
  below : Below w.heap.size w W
  size : w3.heap.size ≤ W.heap.size
  rest : ∀ j, w2.heap.size ≤ j → j < w3.heap.size → W.heap[j]? = w3.heap[j]?
  nc : n ≤ c
  own : 0 < n → ∃ g cur, A = some ⟨g, 0, none⟩ ∧ w.heap.size ≤ g ∧ g < w2.heap.size ∧ W.heap[g]? = some (.cells cur 46 (0, 0)) ∧ cur.size = c * 2
theorem Ow.at {w w2 w3 W : World} {A : Option Addr} {n c i : Nat} (h : Ow w w2 w3 A n c W) (hi : i < n) :
    ∃ g u0 u1, A = some ⟨g, 0, none⟩ ∧ W.cell? ⟨g, i * 2, none⟩ = some u0 ∧ W.cell? ⟨g, i * 2 + 1, none⟩ = some u1 ∧ W.frozen? ⟨g, i * 2, none⟩ = false ∧ W.frozen? ⟨g, i * 2 + 1, none⟩ = false ∧
      ∀ v0 v1, Ow w w2 w3 A n c ((W.setCell ⟨g, i * 2, none⟩ v0).setCell ⟨g, i * 2 + 1, none⟩ v1) := by
  obtain ⟨b, hs, hr, hnc, ho⟩ := h
  obtain ⟨g, cur, rfl, hg, hg2, hh, hc⟩ := ho (by omega)
  refine ⟨g, cur[i * 2]'(by omega), cur[i * 2 + 1]'(by omega), rfl, ?_, ?_, frozen_of_row W g _ _ _ hh, frozen_of_row W g _ _ _ hh, ?_⟩
  · rw [cell_of_row W g _ _ _ (0, 0) hh, Array.getElem?_eq_getElem]
  · rw [cell_of_row W g _ _ _ (0, 0) hh, Array.getElem?_eq_getElem]
  · intro v0 v1
    have hV : W.grownBy ((W.setCell ⟨g, i * 2, none⟩ v0).setCell ⟨g, i * 2 + 1, none⟩ v1) (some g) := (setCell_grown W g (i * 2) v0).andThen (setCell_grown _ g (i * 2 + 1) v1) (fun j e => .inr e)
    have h1 := setCell_blk (i := i * 2 + 1) (setCell_blk (i := i * 2) hh v0) v1
    refine ⟨b.grown hV b.size (fun r er => by injection er with er; omega), Nat.le_trans hs hV.size, fun j h3 h4 => ?_, hnc, fun _ => ⟨g, _, rfl, hg, hg2, h1, by simp [hc]⟩⟩
    exact (hV.block j (by omega) (fun e => by injection e with e; omega)).trans (hr j h3 h4)
set_option maxRecDepth 100000 in
set_option maxHeartbeats 2000000 in
theorem made_any (A : Option Addr) (n c : Nat) (w : World) (hP : Ps X Y w A n) (hA : A = none → c = 0) (hn : n ≤ 258) :
    Calls Try.prog 8 #[.slice A n c] w (RetMd X Y n w) := by
  have HP := Lib.hid hP
  have HA := Lib.hid hA
  have HB1 := Lib.hid (below_box (w := w) (.cells #[] 46))
  have HG1 : Hid ((w.alloc (.cells #[] 46)).heap[w.heap.size]? = some (.cells #[] 46 (0, 0))) := World.alloc_heap_new w _
  clear hP hA
  go_enter Try.func8, Try.ntmps8
  go_wp2_with (at_builtin; refine append_spots X Y rfl (.tmp 8) (.tmp 9) rfl w.heap.size w.heap.size n c A _ rfl (Nat.le_refl _) HG1.out rfl (HP.out.keep X Y HB1.out) HA.out hn HB1.out.size ?_; intro v2 w2 hr2 hb2; obtain ⟨A2, c2, rfl, q1, q2, q3, q4⟩ := hr2.ps X Y; (have HB2 : Hid (Below w.heap.size w w2) := HB1.out.trans hb2); (have HQ := Lib.hid (And.intro q1 q4)); (have HN := Lib.hid (new_any X Y A2 n c2 w2 hn q3)); clear hr2 hb2 q1 q2 q3 q4 HB1 HG1)
  refine HN.out.mono ?_
  rintro e w3 ⟨hb3, hcase⟩
  obtain ⟨pv, ev, rfl, hcase2⟩ : ∃ pv ev, e = .returned (.tuple #[pv, ev]) ∧ ((may X Y n = true ∧ ∃ p, pv = .pointer (some ⟨p, 0, none⟩) ∧ ev = .int .i64 0 ∧ ∀ u, w3.heap.size ≤ u.heap.size → (∀ k, w2.heap.size ≤ k → k < w3.heap.size → u.heap[k]? = w3.heap[k]?) → Ix X Y u p n) ∨ (may X Y n = false ∧ pv = .pointer none ∧ ev = .int .i64 1)) := by
    rcases hcase with ⟨h1, p, rfl, h2⟩ | ⟨h1, rfl⟩
    · exact ⟨_, _, rfl, .inl ⟨h1, p, rfl, rfl, h2⟩⟩
    · exact ⟨_, _, rfl, .inr ⟨h1, rfl, rfl⟩⟩
  have HC := Lib.hid hcase2
  have HO : Hid (Ow w w2 w3 A2 n c2 w3) := by
    refine ⟨HB2.out.trans (hb3.mono HB2.out.size), Nat.le_refl _, fun _ _ _ => rfl, HQ.out.1, fun h0 => ?_⟩
    obtain ⟨g, cur, e, h1, h2, h3⟩ := HQ.out.2 h0
    have hg := (Array.getElem?_eq_some_iff.1 h2).1
    exact ⟨g, cur, e, h1, hg, (hb3.block g hg).trans h2, h3⟩
  clear hb3 hcase hcase2 HN HB2 HQ
  go_wp2
  go_loopw [7] (fun i wr => ∃ k : Nat, k ≤ n ∧ i = .int .i64 (k : Int) ∧ Hid (Ow w w2 w3 A2 n c2 wr)) (fun i _ => n - (intOf i).toNat)
  case atStart => exact ⟨0, by omega, rfl, HO⟩
  case round =>
    obtain ⟨k, hk, rfl, hO⟩ := hrel
    clear HO
    by_cases hkn : k < n
    · have hkI : (k : Int) < (n : Int) := by omega
      obtain ⟨g, u0, u1, rfl, c0, c1, f0, f1, hst⟩ := hO.out.at hkn
      have HSt := Lib.hid hst
      clear hst
      go_wp2
      go_roundw
      case rel => exact ⟨k + 1, by omega, by go_num, HSt.out _ _⟩
      case measure => simp [intOf]; omega
    · obtain rfl : k = n := by omega
      have hkI : ¬ (k : Int) < (k : Int) := by omega
      have MA := Lib.hid (may_any X Y A k c wr (HP.out.keep X Y hO.out.below) hn)
      go_wp2_with fail
      refine MA.out.mono ?_
      rintro e w4 ⟨rfl, b4⟩
      have HB4 : Hid (Below w.heap.size w w4) := hO.out.below.trans (b4.mono hO.out.below.size)
      rcases HC.out with ⟨h1, p, rfl, rfl, h2⟩ | ⟨h1, rfl, rfl⟩
      · have HI : Hid (Ix X Y w4 p k) := h2 w4 (Nat.le_trans hO.out.size b4.size) (fun j h3 h4 => (b4.block j (Nat.lt_of_lt_of_le h4 hO.out.size)).trans (hO.out.rest j h3 h4))
        have HM := Lib.hid h1
        rw [h1]
        clear h1 h2 hO b4 MA HC
        go_wp2
        go_ret2
        exact ⟨HB4.out, .inl ⟨HM.out, p, rfl, HI.out⟩⟩
      · have HM := Lib.hid h1
        rw [h1]
        clear h1 hO b4 MA HC
        go_wp2
        go_ret2
        exact ⟨HB4.out, .inr ⟨HM.out, rfl⟩⟩
end
end Go.Proofs.Ytkghjaodnkjmoaa
