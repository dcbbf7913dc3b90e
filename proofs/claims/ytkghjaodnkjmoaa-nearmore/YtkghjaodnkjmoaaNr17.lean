/- Contracts of the law's and the reference's helpers: In, few, Far, May, Within, same. -/
import Derived.Test.YtkghjaodnkjmoaaNr16
import Derived.BigQuiet
namespace Go.Proofs.Ytkghjaodnkjmoaa
open Go.RowKit Go.Sort Go.Shelf
set_option linter.unusedVariables false

theorem in_any (v : Int) (w : World) : Calls Try.prog 11 #[.int .i64 v] w (Ret (.bool (sp v)) w) := by
  go_enter Try.func11, Try.ntmps11
  by_cases h1 : 0 ≤ v
  · have h1' : decide (0 ≤ v) = true := by simp [h1]
    by_cases h2 : v ≤ 67108864
    · have h2' : decide (v ≤ 67108864) = true := by simp [h2]
      go_wp2
      go_ret
      exact Ret.mk (by simp [sp, h1, h2]) (Below.refl _ _)
    · have h2' : decide (v ≤ 67108864) = false := by simp [h2]
      go_wp2
      go_ret
      exact Ret.mk (by simp [sp, h1, h2]) (Below.refl _ _)
  · have h1' : decide (0 ≤ v) = false := by simp [h1]
    go_wp2
    go_ret
    exact Ret.mk (by rw [sp_not.2 (by omega)]; rfl) (Below.refl _ _)

/-- Of a slice of spots the first m, or all. -/
def cut (m n : Nat) : Nat := if m < n then m else n
theorem cut_le (m n : Nat) : cut m n ≤ n ∧ cut m n ≤ m := by unfold cut; split <;> omega
theorem few_any (A : Option Addr) (n c : Nat) (w : World) (hnc : n ≤ c) (hcm : c ≤ maxLen) : Calls Try.prog 7 #[.slice A n c] w (Ret (.slice A (cut 258 n) c) w) := by
  unfold maxLen at hcm
  go_enter Try.func7, Try.ntmps7
  by_cases h1 : 258 < n
  · have h1' : (258 : Int) < (n : Int) := by omega
    have h3 : (258 : Nat) ≤ c := by omega
    have HE : Hid (cut 258 n = 258) := by show _ = _; simp [cut, h1]
    go_wp2
    go_ret
    exact Ret.mk (by rw [HE.out]; rfl) (Below.refl _ _)
  · have h1' : ¬ (258 : Int) < (n : Int) := by omega
    have HE : Hid (cut 258 n = n) := by show _ = _; simp [cut, h1]
    go_wp2
    go_ret
    exact Ret.mk (by rw [HE.out]; rfl) (Below.refl _ _)
set_option maxHeartbeats 1000000 in
theorem far_any (X Y x y : Int) (w : World) (hX : 0 ≤ X ∧ X ≤ 67108864) (hY : 0 ≤ Y ∧ Y ≤ 67108864) (hx : 0 ≤ x ∧ x ≤ 67108864) (hy : 0 ≤ y ∧ y ≤ 67108864) :
    Calls Try.prog 17 #[.agg #[.int .i64 X, .int .i64 Y], .int .i64 x, .int .i64 y] w (Ret (.int .i64 (sqd X Y x y)) w) := by
  obtain ⟨a1, a2⟩ := mul_bound (a := X - x) (b := 67108864) (by omega) (by omega)
  obtain ⟨b1, b2⟩ := mul_bound (a := Y - y) (b := 67108864) (by omega) (by omega)
  have HE : Hid ((X - x) * (X - x) + (Y - y) * (Y - y) = sqd X Y x y) := rfl
  obtain ⟨dx, hdx⟩ : ∃ d, X - x = d := ⟨_, rfl⟩
  obtain ⟨dy, hdy⟩ := (⟨_, rfl⟩ : ∃ d, Y - y = d)
  rw [hdx] at a1 a2 HE
  rw [hdy] at b1 b2 HE
  have d1 : -67108864 ≤ dx := by omega
  have d2 : dx ≤ 67108864 := by omega
  have d3 : -67108864 ≤ dy := by omega
  have d4 : dy ≤ 67108864 := by omega
  have w1 : wrap64 (X - x) = dx := by rw [hdx]; exact IntWalk.wrap64_in _ (by omega)
  have w2 : wrap64 (Y - y) = dy := by rw [hdy]; exact IntWalk.wrap64_in _ (by omega)
  have w3 : wrap64 (dx * dx) = dx * dx := IntWalk.wrap64_in _ (by omega)
  have w4 : wrap64 (dy * dy) = dy * dy := IntWalk.wrap64_in _ (by omega)
  have w5 : wrap64 (dx * dx + dy * dy) = dx * dx + dy * dy := IntWalk.wrap64_in _ (by omega)
  have K := Lib.hid (Kx.new w 46 #[.int .i64 X, .int .i64 Y])
  go_enter Try.func17, Try.ntmps17
  go_wp2
  go_ret
  exact Ret.mk (by rw [HE.out]; rfl) K.out.below

section
variable (X Y : Nat → Int)
theorem Ps.at {w W : World} {A : Option Addr} {n i : Nat} (h : Ps X Y w A n) (hb : Below w.heap.size w W) (hi : i < n) : ∃ g o, A = some ⟨g, o, none⟩ ∧ W.cell? ⟨g, o + i * 2, none⟩ = some (.int .i64 (X i)) ∧ W.cell? ⟨g, o + i * 2 + 1, none⟩ = some (.int .i64 (Y i)) := by
  obtain ⟨g, o, e, hg, hc⟩ := h (by omega)
  exact ⟨g, o, e, kc hb (hc i hi).1, kc hb (hc i hi).2⟩
/-- May these spots be? -/
def may (n : Nat) : Bool := decide (n ≤ 256) && (List.range n).all fun i => sp (X i) && sp (Y i)
theorem may_iff {n : Nat} : may X Y n = true ↔ n ≤ 256 ∧ oks X Y n := by
  unfold may oks
  simp
set_option maxHeartbeats 1000000 in
theorem may_any (A : Option Addr) (n c : Nat) (w : World) (hP : Ps X Y w A n) (hn : n ≤ 258) :
    Calls Try.prog 19 #[.slice A n c] w (Ret (.bool (may X Y n)) w) := by
  have HP := Lib.hid hP
  clear hP
  go_enter Try.func19, Try.ntmps19
  go_wp2
  go_loopw [3] (fun kv wr => ∃ k : Nat, k ≤ n ∧ kv = .int .i64 (k : Int) ∧ Hid (Below w.heap.size w wr) ∧ Hid (oks X Y k)) (fun kv _ => n - (intOf kv).toNat)
  case atStart => exact ⟨0, by omega, rfl, Below.refl _ _, fun i hi => absurd hi (by omega)⟩
  case round =>
    obtain ⟨k, hk, rfl, hB, hO⟩ := hrel
    by_cases hkn : k < n
    · have hkI : (k : Int) < (n : Int) := by omega
      obtain ⟨g, o, rfl, c0, c1⟩ := HP.out.at X Y hB.out hkn
      have HI := Lib.hid (fun v u => in_any v u)
      cases hx : sp (X k)
      · have HE : Hid (may X Y n = false) := by
          show _ = _
          cases hm : may X Y n
          · rfl
          · have := ((may_iff X Y).1 hm).2 k hkn; rw [hx] at this; cases this.1
        go_wp2_with fail
        refine (HI.out (X k) wr).mono ?_
        rw [hx]
        rintro e w1 ⟨rfl, b1⟩
        have B1 : Hid (Below w.heap.size w w1) := hB.out.trans (b1.mono hB.out.size)
        clear b1 c0 c1 hx HI
        go_wp2
        go_ret
        exact Ret.mk (by rw [HE.out]; rfl) B1.out
      · go_wp2_with fail
        refine (HI.out (X k) wr).mono ?_
        rw [hx]
        rintro e w1 ⟨rfl, b1⟩
        have B1 : Hid (Below w.heap.size w w1) := hB.out.trans (b1.mono hB.out.size)
        have c1 := kc b1 c1
        have HX := Lib.hid hx
        clear b1 c0 hx hB
        cases hy : sp (Y k)
        · have HE : Hid (may X Y n = false) := by
            show _ = _
            cases hm : may X Y n
            · rfl
            · have := ((may_iff X Y).1 hm).2 k hkn; rw [hy] at this; cases this.2
          go_wp2_with fail
          refine (HI.out (Y k) w1).mono ?_
          rw [hy]
          rintro e w2 ⟨rfl, b2⟩
          have B2 : Hid (Below w.heap.size w w2) := B1.out.trans (b2.mono B1.out.size)
          clear b2 c1 hy HI B1
          go_wp2
          go_ret
          exact Ret.mk (by rw [HE.out]; rfl) B2.out
        · have HO2 : Hid (oks X Y (k + 1)) := by
            intro i hi
            rcases Nat.lt_or_ge i k with h' | h'
            · exact hO.out i h'
            · obtain rfl : i = k := by omega
              exact ⟨HX.out, hy⟩
          go_wp2_with fail
          refine (HI.out (Y k) w1).mono ?_
          rw [hy]
          rintro e w2 ⟨rfl, b2⟩
          have B2 : Hid (Below w.heap.size w w2) := B1.out.trans (b2.mono B1.out.size)
          clear b2 c1 hy HI B1
          go_wp2
          go_roundw
          case rel => exact ⟨k + 1, by omega, by go_num, B2.out, HO2.out⟩
          case measure => simp [intOf]; omega
    · obtain rfl : k = n := by omega
      have hkI : ¬ (k : Int) < (k : Int) := by omega
      by_cases h2 : k ≤ 256
      · have h2' : decide ((k : Int) ≤ 256) = true := by simp; omega
        have HE : Hid (may X Y k = true) := (may_iff X Y).2 ⟨h2, hO.out⟩
        go_wp2
        go_ret
        exact Ret.mk (by rw [HE.out]; rfl) hB.out
      · have h2' : decide ((k : Int) ≤ 256) = false := by simp; omega
        have HE : Hid (may X Y k = false) := by
          show _ = _
          cases hm : may X Y k
          · rfl
          · exact absurd ((may_iff X Y).1 hm).1 h2
        go_wp2
        go_ret
        exact Ret.mk (by rw [HE.out]; rfl) hB.out
end
end Go.Proofs.Ytkghjaodnkjmoaa
