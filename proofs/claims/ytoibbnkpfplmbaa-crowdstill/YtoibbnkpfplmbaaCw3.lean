/- Contracts: Check; the reference's On and Check. -/
import Derived.Test.YtoibbnkpfplmbaaCw2
namespace Go.Proofs.Ytoibbnkpfplmbaa
open Go.RowKit
set_option linter.unusedVariables false
set_option linter.unusedSimpArgs false
attribute [local go_sem] Oper.semAt_some

section
variable {cells : Int} {no n m : Nat} {P Wi : Nat → Int}
theorem chZ_1 (h : cells < 1 ∨ 4096 < cells ∨ (no : Int) ≠ cells ∨ 64 < n ∨ m ≠ n) : chZ cells no n m P Wi = 1 := by
  unfold chZ
  rw [if_pos h]
theorem chZ_4 (h0 : ¬ (cells < 1 ∨ 4096 < cells ∨ (no : Int) ≠ cells ∨ 64 < n ∨ m ≠ n)) (h : ¬ (rgZ cells P n ∧ rgZ cells Wi n)) : chZ cells no n m P Wi = 4 := by
  unfold chZ
  rw [if_neg h0, if_pos h]
theorem chZ_5 (h0 : ¬ (cells < 1 ∨ 4096 < cells ∨ (no : Int) ≠ cells ∨ 64 < n ∨ m ≠ n)) (h1 : rgZ cells P n ∧ rgZ cells Wi n) (h : ¬ Apt P n) : chZ cells no n m P Wi = 5 := by
  unfold chZ
  rw [if_neg h0, if_neg (fun q => q h1), if_pos h]
theorem chZ_0 (h0 : ¬ (cells < 1 ∨ 4096 < cells ∨ (no : Int) ≠ cells ∨ 64 < n ∨ m ≠ n)) (h1 : rgZ cells P n ∧ rgZ cells Wi n) (h : Apt P n) : chZ cells no n m P Wi = 0 := by
  unfold chZ
  rw [if_neg h0, if_neg (fun q => q h1), if_neg (fun q => q h)]
end

set_option maxHeartbeats 2000000 in
theorem check15_any (cells : Int) (no oc n wc m ic : Nat) (oA wA iA : Option Addr) (P Wi : Nat → Int) (w : World) (hP : Is w wA n P) (hW : Is w iA m Wi) (hno : no ≤ 1000000) (hn : n ≤ 1000000) (hm : m ≤ 1000000) :
    Calls Try.prog 9 #[.int .i64 cells, .slice oA no oc, .slice wA n wc, .slice iA m ic] w (Ret (.int .i64 (chZ cells no n m P Wi)) w) := by
  have HP := Lib.hid hP
  have HW := Lib.hid hW
  clear hP hW
  go_enter Try.func9, Try.ntmps9
  by_cases h0 : cells < 1
  · have g0 : decide (cells < 1) = true := decide_eq_true h0
    have HE := Lib.hid (chZ_1 (P := P) (Wi := Wi) (no := no) (n := n) (m := m) (.inl h0))
    go_wp2
    go_ret
    exact Ret.mk (congrArg (Value.int .i64) HE.out.symm) (Below.refl _ _)
  have g0 : decide (cells < 1) = false := decide_eq_false h0
  by_cases h1 : 4096 < cells
  · have g1 : decide (4096 < cells) = true := decide_eq_true h1
    have HE := Lib.hid (chZ_1 (P := P) (Wi := Wi) (no := no) (n := n) (m := m) (.inr (.inl h1)))
    go_wp2
    go_ret
    exact Ret.mk (congrArg (Value.int .i64) HE.out.symm) (Below.refl _ _)
  have g1 : decide (4096 < cells) = false := decide_eq_false h1
  by_cases h2 : (no : Int) = cells
  rotate_left
  · have g2 : ((no : Int) == cells) = false := by simp [h2]
    have HE := Lib.hid (chZ_1 (P := P) (Wi := Wi) (no := no) (n := n) (m := m) (.inr (.inr (.inl h2))))
    go_wp2
    go_ret
    exact Ret.mk (congrArg (Value.int .i64) HE.out.symm) (Below.refl _ _)
  subst h2
  by_cases h3 : 64 < n
  · have g3 : decide ((64 : Int) < (n : Int)) = true := decide_eq_true (by omega)
    have HE := Lib.hid (chZ_1 (P := P) (Wi := Wi) (no := no) (n := n) (m := m) (cells := (no : Int)) (by omega))
    go_wp2
    go_ret
    exact Ret.mk (congrArg (Value.int .i64) HE.out.symm) (Below.refl _ _)
  have g3 : decide ((64 : Int) < (n : Int)) = false := decide_eq_false (by omega)
  by_cases h4 : m = n
  rotate_left
  · have g4 : ((m : Int) == (n : Int)) = false := by simp; omega
    have HE := Lib.hid (chZ_1 (P := P) (Wi := Wi) (no := no) (n := n) (m := m) (cells := (no : Int)) (by omega))
    go_wp2
    go_ret
    exact Ret.mk (congrArg (Value.int .i64) HE.out.symm) (Below.refl _ _)
  subst h4
  have g4 : ((m : Int) == (m : Int)) = true := by simp
  have HN : Hid (¬ ((no : Int) < 1 ∨ 4096 < (no : Int) ∨ (no : Int) ≠ (no : Int) ∨ 64 < m ∨ m ≠ m)) := by show ¬ _; omega
  have C1 := Lib.hid (below15_any (no : Int) wA m wc P w HP.out hm)
  cases hb1 : rgB (no : Int) P m with
  | false =>
    rw [hb1] at C1
    have HE := Lib.hid (chZ_4 (P := P) (Wi := Wi) HN.out (fun q => by rw [(rgB_iff _ _ _).2 q.1] at hb1; cases hb1))
    clear hb1
    go_wp2_with fail
    refine C1.out.mono ?_
    rintro e w1 ⟨rfl, b1⟩
    go_wp2
    go_ret
    exact Ret.mk (congrArg (Value.int .i64) HE.out.symm) b1
  | true =>
    rw [hb1] at C1
    have HR1 := Lib.hid ((rgB_iff _ _ _).1 hb1)
    clear hb1
    go_wp2_with fail
    refine C1.out.mono ?_
    rintro e w1 ⟨rfl, b1⟩
    have HB1 := Lib.hid b1
    have HP1 := Lib.hid (HP.out.keep b1)
    clear b1
    have C2 := Lib.hid (below15_any (no : Int) iA m ic Wi w1 (HW.out.keep HB1.out) hm)
    cases hb2 : rgB (no : Int) Wi m with
    | false =>
      rw [hb2] at C2
      have HE := Lib.hid (chZ_4 (P := P) (Wi := Wi) HN.out (fun q => by rw [(rgB_iff _ _ _).2 q.2] at hb2; cases hb2))
      clear hb2
      go_wp2_with fail
      refine C2.out.mono ?_
      rintro e w2 ⟨rfl, b2⟩
      go_wp2
      go_ret
      exact Ret.mk (congrArg (Value.int .i64) HE.out.symm) (HB1.out.trans (b2.mono HB1.out.size))
    | true =>
      rw [hb2] at C2
      have HR2 := Lib.hid ((rgB_iff _ _ _).1 hb2)
      clear hb2
      go_wp2_with fail
      refine C2.out.mono ?_
      rintro e w2 ⟨rfl, b2⟩
      have HB2 := Lib.hid (HB1.out.trans (b2.mono HB1.out.size))
      have HP2 := Lib.hid (HP1.out.keep b2)
      clear b2 HB1 HP1 C1 C2
      have C3 := Lib.hid (things15_any (no : Int) (by omega) wA m wc P w2 HP2.out HR1.out (by omega))
      go_wp2_with fail
      refine C3.out.mono ?_
      rintro e w3 ⟨b, rfl, hb0, hM, b3⟩
      have hlen := hM.len
      have HB3 := Lib.hid (HB2.out.trans (b3.mono HB2.out.size))
      have C4 := Lib.hid (present15_any (no : Int) wA m wc P w3 (HP2.out.keep b3) HR1.out hm)
      have hds := ds_eq P m
      clear b3 hM C3 HB2 HP2
      go_wp2_with fail
      refine C4.out.mono ?_
      rintro e w4 ⟨rfl, b4⟩
      have HB4 := Lib.hid (HB3.out.trans (b4.mono HB3.out.size))
      clear b4 hlen C4
      by_cases hq : dsZ P m = prZ P m
      · have HE := Lib.hid (chZ_0 (P := P) (Wi := Wi) HN.out ⟨HR1.out, HR2.out⟩ (hds.1 hq))
        rw [hq]
        have g5 : ((prZ P m : Int) == (prZ P m : Int)) = true := by simp
        go_wp2
        go_ret
        exact Ret.mk (congrArg (Value.int .i64) HE.out.symm) HB4.out
      · have HE := Lib.hid (chZ_5 (P := P) (Wi := Wi) HN.out ⟨HR1.out, HR2.out⟩ (fun q => hq (hds.2 q)))
        have g5 : ((dsZ P m : Int) == (prZ P m : Int)) = false := by simp; omega
        clear hds hq
        generalize dsZ P m = d1 at *
        generalize prZ P m = d2 at *
        go_wp2
        go_ret
        exact Ret.mk (congrArg (Value.int .i64) HE.out.symm) HB4.out

set_option maxHeartbeats 1000000 in
theorem on15_any (A : Option Addr) (n k0 : Nat) (c : Int) (p : Nat → Int) (w : World) (hI : Is w A n p) (hn : n ≤ 1000000) :
    Calls Try.prog 20 #[.slice A n k0, .int .i64 c] w (Ret (.int .i64 (onZ p n c)) w) := by
  have HI := Lib.hid hI
  clear hI
  go_enter Try.func20, Try.ntmps20
  go_wp2
  go_loopw [5] (fun t wr => ∃ k : Nat, k ≤ n ∧ t = .int .i64 (k : Int) ∧ Hid (∀ j, j < k → p j ≠ c) ∧ wr = w) (fun t _ => n - (intOf t).toNat)
  case atStart => exact ⟨0, by omega, rfl, fun j hj => absurd hj (by omega), rfl⟩
  case round =>
    obtain ⟨k, hk, rfl, hno, rfl⟩ := hrel
    by_cases hkn : k < n
    · have hkI : (k : Int) < (n : Int) := by omega
      have hkB : decide ((k : Int) < (n : Int)) = true := decide_eq_true hkI
      obtain ⟨g, o, rfl, c0⟩ := HI.out.at (Below.refl _ _) hkn
      by_cases h1 : p k = c
      · have HE := Lib.hid (onZ_is hkn h1 hno.out)
        have g1 : (p k == c) = true := by simp [h1]
        generalize p k = z at *
        clear h1
        go_wp2
        go_ret
        exact Ret.mk (congrArg (Value.int .i64) HE.out.symm) (Below.refl _ _)
      · have g1 : (p k == c) = false := by simp [h1]
        have HN : Hid (∀ j, j < k + 1 → p j ≠ c) := fun j hj => by
          rcases Nat.lt_or_ge j k with q | q
          · exact hno.out j q
          · obtain rfl : j = k := by omega
            exact h1
        clear h1
        generalize p k = z at *
        go_wp2
        go_roundw
        case rel => exact ⟨k + 1, by omega, by go_num, HN.out, trivial⟩
        case measure => simp [intOf]; omega
    · obtain rfl : k = n := by omega
      have hkI : decide ((k : Int) < (k : Int)) = false := decide_eq_false (by omega)
      have HE := Lib.hid (onZ_no hno.out)
      go_wp2
      go_ret
      exact Ret.mk (congrArg (Value.int .i64) HE.out.symm) (Below.refl _ _)

set_option maxHeartbeats 2000000 in
theorem refCheck15_any (cells : Int) (no oc n wc m ic : Nat) (oA wA iA : Option Addr) (P Wi : Nat → Int) (w : World) (hP : Is w wA n P) (hW : Is w iA m Wi) (hno : no ≤ 1000000) (hn : n ≤ 1000000) (hm : m ≤ 1000000) :
    Calls Try.prog 10 #[.int .i64 cells, .slice oA no oc, .slice wA n wc, .slice iA m ic] w (Ret (.int .i64 (chZ cells no n m P Wi)) w) := by
  have HP := Lib.hid hP
  have HW := Lib.hid hW
  clear hP hW
  go_enter Try.func10, Try.ntmps10
  by_cases h0 : cells < 1
  · have g0 : decide (cells < 1) = true := decide_eq_true h0
    have HE := Lib.hid (chZ_1 (P := P) (Wi := Wi) (no := no) (n := n) (m := m) (.inl h0))
    go_wp2
    go_ret
    exact Ret.mk (congrArg (Value.int .i64) HE.out.symm) (Below.refl _ _)
  have g0 : decide (cells < 1) = false := decide_eq_false h0
  by_cases h1 : 4096 < cells
  · have g1 : decide (4096 < cells) = true := decide_eq_true h1
    have HE := Lib.hid (chZ_1 (P := P) (Wi := Wi) (no := no) (n := n) (m := m) (.inr (.inl h1)))
    go_wp2
    go_ret
    exact Ret.mk (congrArg (Value.int .i64) HE.out.symm) (Below.refl _ _)
  have g1 : decide (4096 < cells) = false := decide_eq_false h1
  by_cases h2 : (no : Int) = cells
  rotate_left
  · have g2 : ((no : Int) == cells) = false := by simp [h2]
    have HE := Lib.hid (chZ_1 (P := P) (Wi := Wi) (no := no) (n := n) (m := m) (.inr (.inr (.inl h2))))
    go_wp2
    go_ret
    exact Ret.mk (congrArg (Value.int .i64) HE.out.symm) (Below.refl _ _)
  subst h2
  by_cases h3 : 64 < n
  · have g3 : decide ((64 : Int) < (n : Int)) = true := decide_eq_true (by omega)
    have HE := Lib.hid (chZ_1 (P := P) (Wi := Wi) (no := no) (n := n) (m := m) (cells := (no : Int)) (by omega))
    go_wp2
    go_ret
    exact Ret.mk (congrArg (Value.int .i64) HE.out.symm) (Below.refl _ _)
  have g3 : decide ((64 : Int) < (n : Int)) = false := decide_eq_false (by omega)
  by_cases h4 : m = n
  rotate_left
  · have g4 : ((m : Int) == (n : Int)) = false := by simp; omega
    have HE := Lib.hid (chZ_1 (P := P) (Wi := Wi) (no := no) (n := n) (m := m) (cells := (no : Int)) (by omega))
    go_wp2
    go_ret
    exact Ret.mk (congrArg (Value.int .i64) HE.out.symm) (Below.refl _ _)
  subst h4
  have g4 : ((m : Int) == (m : Int)) = true := by simp
  have HN : Hid (¬ ((no : Int) < 1 ∨ 4096 < (no : Int) ∨ (no : Int) ≠ (no : Int) ∨ 64 < m ∨ m ≠ m)) := by show ¬ _; omega
  go_wp2
  clear g0 g1 g3 g4
  go_loopw [9] (fun t wr => ∃ k : Nat, k ≤ m ∧ t = .int .i64 (k : Int) ∧ Hid (rgZ (no : Int) P k) ∧ Hid (rgZ (no : Int) Wi k) ∧ wr = w) (fun t _ => m - (intOf t).toNat)
  case atStart => exact ⟨0, by omega, rfl, fun j hj => absurd hj (by omega), fun j hj => absurd hj (by omega), rfl⟩
  case round =>
    obtain ⟨k, hk, rfl, hr1, hr2, hwr⟩ := hrel
    have hwr2 := hwr.symm
    subst hwr2
    clear hwr
    by_cases hkn : k < m
    · have hkI : (k : Int) < (m : Int) := by omega
      have hkB : decide ((k : Int) < (m : Int)) = true := decide_eq_true hkI
      obtain ⟨g, o, rfl, c0⟩ := HP.out.at (Below.refl _ _) hkn
      obtain ⟨g', o', rfl, c1⟩ := HW.out.at (Below.refl _ _) hkn
      have bad : ¬ (-1 ≤ P k ∧ P k < (no : Int) ∧ -1 ≤ Wi k ∧ Wi k < (no : Int)) → chZ (no : Int) no m m P Wi = 4 := fun q => chZ_4 HN.out (fun ⟨q1, q2⟩ => q ⟨(q1 k hkn).1, (q1 k hkn).2, (q2 k hkn).1, (q2 k hkn).2⟩)
      by_cases a1 : -1 ≤ P k
      rotate_left
      · have HE := Lib.hid (bad (fun q => a1 q.1))
        have e1 : decide (P k < -1) = true := decide_eq_true (by omega)
        clear bad
        generalize P k = z at *
        generalize Wi k = y at *
        go_wp2
        go_ret
        exact Ret.mk (congrArg (Value.int .i64) HE.out.symm) (Below.refl _ _)
      have e1 : decide (P k < -1) = false := decide_eq_false (by omega)
      by_cases a2 : P k < (no : Int)
      rotate_left
      · have HE := Lib.hid (bad (fun q => a2 q.2.1))
        have e2 : decide ((no : Int) ≤ P k) = true := decide_eq_true (by omega)
        clear bad
        generalize P k = z at *
        generalize Wi k = y at *
        go_wp2
        go_ret
        exact Ret.mk (congrArg (Value.int .i64) HE.out.symm) (Below.refl _ _)
      have e2 : decide ((no : Int) ≤ P k) = false := decide_eq_false (by omega)
      by_cases a3 : -1 ≤ Wi k
      rotate_left
      · have HE := Lib.hid (bad (fun q => a3 q.2.2.1))
        have e3 : decide (Wi k < -1) = true := decide_eq_true (by omega)
        clear bad
        generalize P k = z at *
        generalize Wi k = y at *
        go_wp2
        go_ret
        exact Ret.mk (congrArg (Value.int .i64) HE.out.symm) (Below.refl _ _)
      have e3 : decide (Wi k < -1) = false := decide_eq_false (by omega)
      by_cases a4 : Wi k < (no : Int)
      rotate_left
      · have HE := Lib.hid (bad (fun q => a4 q.2.2.2))
        have e4 : decide ((no : Int) ≤ Wi k) = true := decide_eq_true (by omega)
        clear bad
        generalize P k = z at *
        generalize Wi k = y at *
        go_wp2
        go_ret
        exact Ret.mk (congrArg (Value.int .i64) HE.out.symm) (Below.refl _ _)
      have e4 : decide ((no : Int) ≤ Wi k) = false := decide_eq_false (by omega)
      have step : ∀ Q : Nat → Int, rgZ (no : Int) Q k → -1 ≤ Q k → Q k < (no : Int) → rgZ (no : Int) Q (k + 1) := fun Q hq q1 q2 i hi => by
        rcases Nat.lt_or_ge i k with q | q
        · exact hq i q
        · obtain rfl : i = k := by omega
          exact ⟨q1, q2⟩
      have H1 := Lib.hid (step P hr1.out a1 a2)
      have H2 := Lib.hid (step Wi hr2.out a3 a4)
      clear bad step
      generalize P k = z at *
      generalize Wi k = y at *
      go_wp2
      go_roundw
      case rel => exact ⟨k + 1, by omega, by go_num, H1.out, H2.out, trivial⟩
      case measure => simp [intOf]; omega
    · obtain rfl : k = m := by omega
      have hkI : decide ((k : Int) < (k : Int)) = false := decide_eq_false (by omega)
      go_wp2
      clear hkI
      go_loopw [10] (fun t wr => ∃ j : Nat, j ≤ k ∧ t = .int .i64 (j : Int) ∧ Hid (∀ i, i < j → 0 ≤ P i → onZ P k (P i) = (i : Int)) ∧ Hid (Below w.heap.size w wr)) (fun t _ => k - (intOf t).toNat)
      case atStart => exact ⟨0, by omega, rfl, fun i hi => absurd hi (by omega), Below.refl _ _⟩
      case round =>
        obtain ⟨j, hj, rfl, hon, hB⟩ := hrel
        by_cases hjk : j < k
        · have hjI : (j : Int) < (k : Int) := by omega
          have hjB : decide ((j : Int) < (k : Int)) = true := decide_eq_true hjI
          have C := Lib.hid (on15_any wA k wc (P j) P wr (HP.out.keep hB.out) (by omega))
          obtain ⟨g, o, rfl, c0⟩ := HP.out.at hB.out hjk
          obtain ⟨z, hz⟩ : ∃ z, z = P j := ⟨_, rfl⟩
          rw [← hz] at c0 C
          have HZ := Lib.hid hz
          clear hz
          by_cases a1 : 0 ≤ z
          · have e1 : decide (0 ≤ z) = true := decide_eq_true a1
            go_wp2_with fail
            refine C.out.mono ?_
            rintro e w3 ⟨rfl, b3⟩
            have HB3 := Lib.hid (hB.out.trans (b3.mono hB.out.size))
            clear b3 hB C
            by_cases a2 : onZ P k z = (j : Int)
            · have HN2 : Hid (∀ i, i < j + 1 → 0 ≤ P i → onZ P k (P i) = (i : Int)) := fun i hi => by
                rcases Nat.lt_or_ge i j with q | q
                · exact hon.out i q
                · obtain rfl : i = j := by omega
                  exact fun _ => by rw [← HZ.out]; exact a2
              have e2 : ((j : Int) == (j : Int)) = true := by simp
              rw [a2]
              go_wp2
              go_roundw
              case rel => exact ⟨j + 1, by omega, by go_num, HN2.out, HB3.out⟩
              case measure => simp [intOf]; omega
            · have HE := Lib.hid (chZ_5 (P := P) (Wi := Wi) HN.out ⟨hr1.out, hr2.out⟩ (fun q => a2 (by rw [HZ.out]; exact apt_iff.1 q j hjk (by rw [← HZ.out]; exact a1))))
              have e2 : (onZ P k z == (j : Int)) = false := by simp [a2]
              generalize onZ P k z = y at *
              go_wp2
              go_ret
              exact Ret.mk (congrArg (Value.int .i64) HE.out.symm) HB3.out
          · have e1 : decide (0 ≤ z) = false := decide_eq_false a1
            have HN2 : Hid (∀ i, i < j + 1 → 0 ≤ P i → onZ P k (P i) = (i : Int)) := fun i hi => by
              rcases Nat.lt_or_ge i j with q | q
              · exact hon.out i q
              · obtain rfl : i = j := by omega
                exact fun q => absurd (by rw [HZ.out]; exact q) a1
            clear C
            go_wp2
            go_roundw
            case rel => exact ⟨j + 1, by omega, by go_num, HN2.out, hB.out⟩
            case measure => simp [intOf]; omega
        · obtain rfl : j = k := by omega
          have hjB : decide ((j : Int) < (j : Int)) = false := decide_eq_false (by omega)
          have HE := Lib.hid (chZ_0 (P := P) (Wi := Wi) HN.out ⟨hr1.out, hr2.out⟩ (apt_of hon.out))
          go_wp2
          go_ret
          exact Ret.mk (congrArg (Value.int .i64) HE.out.symm) hB.out
end Go.Proofs.Ytoibbnkpfplmbaa
