/- Contracts of the heap: firstChild, newHeap. -/
import Derived.Test.YtcipedijjemghaaDoorRh2
namespace Go.Proofs.YtcipedijjemghaaDoor
open Go.RowKit Go.Sort Go.Shelf
set_option linter.unusedVariables false
set_option linter.unusedSimpArgs false
attribute [local go_sem] Oper.semAt_some

/-- firstChild comes back. -/
def RetKid (l : List (Int × Int)) (m : Nat) (w : World) (e : Ending) (w' : World) : Prop := ∃ c, Kid l m c ∧ e = .returned (.int .i64 (c : Int)) ∧ Below w.heap.size w w'
set_option maxHeartbeats 4000000 in
theorem child13_any (base hb : Nat) (v : Value) (l : List (Int × Int)) (m : Nat) (w : World) (hH : Hp w base hb v l) (hm : 2 * m + 1 < l.length) :
    Calls Tryd.prog 52 #[.pointer (some ⟨hb, 0, none⟩), .int .i64 (m : Int)] w (RetKid l m w) := by
  obtain ⟨g, cap, cur, rfl, q1, q2, q3, q4, q5, q6, q7⟩ := hH.row.big (by omega)
  have hl := hH.len
  unfold maxLen at q2
  have hlI : (l.length : Int) ≤ 5000000000 := by omega
  have hmI : 2 * (m : Int) + 1 < (l.length : Int) := by omega
  have HK := Lib.hid (fun hr => kid_left hm hr)
  by_cases h2 : 2 * m + 2 < l.length
  · have HC := Lib.hid (re13 (V := w) (fun u => less13_any (at13 l (2 * m + 2)).1 (at13 l (2 * m + 2)).2 (at13 l (2 * m + 1)).1 (at13 l (2 * m + 1)).2 u))
    obtain ⟨ck0, ck1, fk0, fk1⟩ := hH.row.cells h2
    obtain ⟨ca0, ca1, fa0, fa1⟩ := hH.row.cells hm
    have ch0 := hH.c0
    have ch1 := hH.c1
    have k0 := cell_regrown ck0
    have k1 := cell_regrown ck1
    have k2 := cell_regrown ca0
    have k3 := cell_regrown ca1
    have k4 := cell_regrown ch0
    have k5 := cell_regrown ch1
    unfold vfn at k5
    have HK2 := Lib.hid (fun hr => kid_right h2 hr)
    have HK1 : Hid (¬ ky l (2 * m + 2) < ky l (2 * m + 1) → Kid l m (2 * m + 1)) := fun h => HK.out fun e => h e.2
    have EK : Hid (ky l (2 * m + 2) = (at13 l (2 * m + 2)).2) := rfl
    have EA : Hid (ky l (2 * m + 1) = (at13 l (2 * m + 1)).2) := rfl
    have h2I : 2 * (m : Int) + 2 < (l.length : Int) := by omega
    have h2d : decide (2 * (m : Int) + 2 < (l.length : Int)) = true := decide_eq_true h2I
    have T1 : (2 * (m : Int) + 2).toNat = 2 * m + 2 := by omega
    have T2 : (2 * (m : Int) + 1).toNat = 2 * m + 1 := by omega
    clear hH q5 q6 q7 q3 ck0 ck1 ca0 ca1 ch0 ch1 fk0 fk1 fa0 fa1 HK
    generalize (at13 l (2 * m + 2)).1 = kc0 at *
    generalize (at13 l (2 * m + 2)).2 = kx at *
    generalize (at13 l (2 * m + 1)).1 = ac0 at *
    generalize (at13 l (2 * m + 1)).2 = ax at *
    go_enter Tryd.func52, Tryd.ntmps52
    go_wp2
    refine wp_region_quiet_below (by kernel_rfl) (by kernel_rfl) ?_
    repeat (go_big_quiet_step (with_reducible exact HC.out _ _))
    refine wpQuiet_nil ?_
    intro _ hw'
    obtain ⟨⟨dq, osq⟩, hw''⟩ := hw'
    subst hw''
    have hb3 := Lib.hid (below_regrown w dq osq)
    clear k0 k1 k2 k3 k4 k5 HC
    generalize Go.Sort.grow (redrawn w dq) osq = w3 at *
    have HT0 : Hid (∀ d, decide (kx < ax) = d → decide (ky l (2 * m + 2) < ky l (2 * m + 1)) = d) := by
      intro d hd; rw [EK.out, EA.out]; exact hd
    clear EK EA
    cases hd : decide (kx < ax) with
    | true =>
      have HT := Lib.hid (HK2.out (of_decide_eq_true (HT0.out _ hd)))
      clear HT0 hd HK1 HK2
      go_wp2
      go_ret
      exact ⟨2 * m + 2, HT.out, by push_cast; rfl, hb3.out⟩
    | false =>
      have HT := Lib.hid (HK1.out (Int.not_lt.1 (of_decide_eq_false (HT0.out _ hd))))
      clear HT0 hd HK1 HK2
      go_wp2
      go_ret
      exact ⟨2 * m + 1, HT.out, by push_cast; rfl, hb3.out⟩
  · have ch0 := hH.c0
    have k4 := cell_regrown ch0
    have h2d : decide (2 * (m : Int) + 2 < (l.length : Int)) = false := by simp; omega
    have HT := Lib.hid (HK.out fun e => h2 e.1)
    clear hH q5 q6 q7 q3 HK h2
    go_enter Tryd.func52, Tryd.ntmps52
    go_wp2
    refine wp_region_quiet_below (by kernel_rfl) (by kernel_rfl) ?_
    repeat (go_big_quiet_step (fail))
    refine wpQuiet_nil ?_
    intro _ hw'
    obtain ⟨⟨dq, osq⟩, hw''⟩ := hw'
    subst hw''
    have hb3 := Lib.hid (below_regrown w dq osq)
    clear k4 ch0
    generalize Go.Sort.grow (redrawn w dq) osq = w3 at *
    go_wp2
    go_ret
    exact ⟨2 * m + 1, HT.out, by push_cast; rfl, hb3.out⟩

/-- newHeap. -/
theorem newHeap13_any (w : World) : Calls Tryd.prog 39 #[.func (.func 40) #[] #[]] w fun e w' =>
    ∃ hb, e = .returned (.pointer (some ⟨hb, 0, none⟩)) ∧ Hp w' w.heap.size hb (.slice none 0 0) [] ∧ Below w.heap.size w w' := by
  have HX := Lib.hid (Kx.new w 93 #[.slice none 0 0, vfn])
  unfold vfn at HX
  go_enter Tryd.func39, Tryd.ntmps39
  go_wp2
  go_ret
  exact ⟨w.heap.size, rfl, ⟨Nat.le_refl _, HX.out.blk, Rv.nil _ _, by simp⟩, HX.out.below⟩
end Go.Proofs.YtcipedijjemghaaDoor
