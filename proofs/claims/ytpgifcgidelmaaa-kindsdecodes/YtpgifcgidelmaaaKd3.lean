/- Contracts of package kinds: which kinds and weapons may be. -/
import Derived.Test.YtpgifcgidelmaaaKd2
namespace Go.Proofs.Ytpgifcgidelmaaa
open Go.RowKit
set_option linter.unusedVariables false

/-- A list as a function. -/
def lst (l : List Int) : Nat → Int := fun i => l.getD i 0
theorem new_ints (W : World) (g : Nat) (l : List Int) (t : TypeId) (hg : W.heap.size = g) : ∀ i, i < l.length → (W.alloc (.cells (l.map fun v => Value.int .i64 v).toArray t)).cell? ⟨g, i, none⟩ = some (.int .i64 (lst l i)) := by
  subst hg
  intro i hi
  rw [cell_new]
  simp [lst, List.getD, hi]
/-- A kind's cells, a weapon's cells. -/
abbrev kcs (f : Nat → Int) : Array Value := #[.int .i64 (f 0), .int .i64 (f 1), .int .i64 (f 2), .int .i64 (f 3), .int .i64 (f 4), .int .i64 (f 5), .int .i64 (f 6), .int .i64 (f 7), .int .i64 (f 8), .int .i64 (f 9), .int .i64 (f 10), .int .i64 (f 11), .int .i64 (f 12), .int .i64 (f 13), .int .i64 (f 14), .int .i64 (f 15), .int .i64 (f 16), .int .i64 (f 17), .int .i64 (f 18), .int .i64 (f 19)]
abbrev wcs (f : Nat → Int) (b : Bool) : Array Value := #[.int .i64 (f 0), .int .i64 (f 1), .int .i64 (f 2), .int .i64 (f 3), .int .i64 (f 4), .bool b]
theorem kcs_at (f : Nat → Int) (i : Nat) (h : i < 20) : (kcs f)[i]? = some (.int .i64 (f i)) := by
  have : i = 0 ∨ i = 1 ∨ i = 2 ∨ i = 3 ∨ i = 4 ∨ i = 5 ∨ i = 6 ∨ i = 7 ∨ i = 8 ∨ i = 9 ∨ i = 10 ∨ i = 11 ∨ i = 12 ∨ i = 13 ∨ i = 14 ∨ i = 15 ∨ i = 16 ∨ i = 17 ∨ i = 18 ∨ i = 19 := by omega
  rcases this with rfl | rfl | rfl | rfl | rfl | rfl | rfl | rfl | rfl | rfl | rfl | rfl | rfl | rfl | rfl | rfl | rfl | rfl | rfl | rfl <;> rfl
/-- May the kind be, in a book of so many weapons? May the weapon? -/
def okK (f : Nat → Int) (m : Int) : Bool := allB 0 5 (lst [f 0]) 1 && (allB 1 9999 (lst [f 1]) 1 && (decide ((0 : Int) ≤ f 2) && (decide (f 2 ≤ 65536) && (allB 0 32768 (lst [f 3]) 1 && (allB 0 32 (lst [f 4, f 5, f 6, f 7]) 4 && (allB 0 65535 (lst [f 8, f 9, f 14, f 15, f 19]) 5 && (allB 1 65535 (lst [f 10]) 1 && (allB 0 255 (lst [f 11, f 12, f 13, f 16]) 4 && (allB 0 4 (lst [f 17]) 1 && (decide (f 18 = 255) || allB 0 (m - 1) (lst [f 18]) 1))))))))))
def okW (f : Nat → Int) : Bool := allB 1 32 (lst [f 0]) 1 && (allB 0 9999 (lst [f 1]) 1 && (decide ((0 : Int) < f 2) && (decide (f 2 ≤ 262144) && (allB 1 255 (lst [f 3]) 1 && (allB 0 8 (lst [f 4]) 1)))))

set_option maxHeartbeats 4000000 in
theorem mayBeKind_any (f : Nat → Int) (m : Int) (w : World) (hm : -9223372036854775807 ≤ m) (hm2 : m ≤ 9223372036854775807) :
    Calls Try.prog 20 #[.agg (kcs f), .int .i64 m] w (Ret (.bool (okK f m)) w) := by
  have X := Lib.hid (Kx.new w 46 (kcs f))
  go_enter Try.func20, Try.ntmps20
  simp only [List.cons_append, List.nil_append, List.append_eq]
  go_wp2_with fail
  refine (within_any 0 5 _ 1 (lst [f 0]) _ (by decide) (new_ints _ _ [f 0] _ (by first | rfl | simp))).mono ?_
  rintro e w1 ⟨rfl, b1⟩
  have X1 := Lib.hid ((X.out.alloc _).keep b1)
  clear b1 X 
  have X := X1
  clear X1
  rename World => w1
  obtain ⟨q, hq⟩ : ∃ q, allB 0 5 (lst [f 0]) 1 = q := ⟨_, rfl⟩
  rw [hq]
  have Q0 := Lib.hid hq
  clear hq
  cases q
  case false =>
    have HF : Hid (okK f m = false) := by show _ = _; simp [okK, Q0.out]
    go_wp2
    go_ret
    exact Ret.mk (congrArg Value.bool HF.out.symm) X.out.below
  case true =>
    have c1 := X.out.cell 1 (v := .int .i64 (f 1)) rfl
    go_wp2_with fail
    refine (within_any 1 9999 _ 1 (lst [f 1]) _ (by decide) (new_ints _ _ [f 1] _ (by first | rfl | simp))).mono ?_
    rintro e w1 ⟨rfl, b1⟩
    have X1 := Lib.hid ((X.out.alloc _).keep b1)
    clear b1 X c1
    have X := X1
    clear X1
    rename World => w1
    obtain ⟨q, hq⟩ : ∃ q, allB 1 9999 (lst [f 1]) 1 = q := ⟨_, rfl⟩
    rw [hq]
    have Q1 := Lib.hid hq
    clear hq
    cases q
    case false =>
      have HF : Hid (okK f m = false) := by show _ = _; simp [okK, Q1.out]
      go_wp2
      go_ret
      exact Ret.mk (congrArg Value.bool HF.out.symm) X.out.below
    case true =>
      have c2 := X.out.cell 2 (v := .int .i64 (f 2)) rfl
      cases Q2 : decide ((0 : Int) ≤ f 2)
      case false =>
        have HF : Hid (okK f m = false) := by show _ = _; simp [okK, Q2]
        go_wp2
        go_ret
        exact Ret.mk (congrArg Value.bool HF.out.symm) X.out.below
      case true =>
        cases Q3 : decide (f 2 ≤ 65536)
        case false =>
          have HF : Hid (okK f m = false) := by show _ = _; simp [okK, Q3]
          go_wp2
          go_ret
          exact Ret.mk (congrArg Value.bool HF.out.symm) X.out.below
        case true =>
          have c3 := X.out.cell 3 (v := .int .i64 (f 3)) rfl
          go_wp2_with fail
          refine (within_any 0 32768 _ 1 (lst [f 3]) _ (by decide) (new_ints _ _ [f 3] _ (by first | rfl | simp))).mono ?_
          rintro e w1 ⟨rfl, b1⟩
          have X1 := Lib.hid ((X.out.alloc _).keep b1)
          clear b1 X c3 c2
          have X := X1
          clear X1
          rename World => w1
          obtain ⟨q, hq⟩ : ∃ q, allB 0 32768 (lst [f 3]) 1 = q := ⟨_, rfl⟩
          rw [hq]
          have Q4 := Lib.hid hq
          clear hq
          cases q
          case false =>
            have HF : Hid (okK f m = false) := by show _ = _; simp [okK, Q4.out]
            go_wp2
            go_ret
            exact Ret.mk (congrArg Value.bool HF.out.symm) X.out.below
          case true =>
            have c4 := X.out.cell 4 (v := .int .i64 (f 4)) rfl
            have c5 := X.out.cell 5 (v := .int .i64 (f 5)) rfl
            have c6 := X.out.cell 6 (v := .int .i64 (f 6)) rfl
            have c7 := X.out.cell 7 (v := .int .i64 (f 7)) rfl
            go_wp2_with fail
            refine (within_any 0 32 _ 4 (lst [f 4, f 5, f 6, f 7]) _ (by decide) (new_ints _ _ [f 4, f 5, f 6, f 7] _ (by first | rfl | simp))).mono ?_
            rintro e w1 ⟨rfl, b1⟩
            have X1 := Lib.hid ((X.out.alloc _).keep b1)
            clear b1 X c4 c5 c6 c7
            have X := X1
            clear X1
            rename World => w1
            obtain ⟨q, hq⟩ : ∃ q, allB 0 32 (lst [f 4, f 5, f 6, f 7]) 4 = q := ⟨_, rfl⟩
            rw [hq]
            have Q5 := Lib.hid hq
            clear hq
            cases q
            case false =>
              have HF : Hid (okK f m = false) := by show _ = _; simp [okK, Q5.out]
              go_wp2
              go_ret
              exact Ret.mk (congrArg Value.bool HF.out.symm) X.out.below
            case true =>
              have c8 := X.out.cell 8 (v := .int .i64 (f 8)) rfl
              have c9 := X.out.cell 9 (v := .int .i64 (f 9)) rfl
              have c14 := X.out.cell 14 (v := .int .i64 (f 14)) rfl
              have c15 := X.out.cell 15 (v := .int .i64 (f 15)) rfl
              have c19 := X.out.cell 19 (v := .int .i64 (f 19)) rfl
              go_wp2_with fail
              refine (within_any 0 65535 _ 5 (lst [f 8, f 9, f 14, f 15, f 19]) _ (by decide) (new_ints _ _ [f 8, f 9, f 14, f 15, f 19] _ (by first | rfl | simp))).mono ?_
              rintro e w1 ⟨rfl, b1⟩
              have X1 := Lib.hid ((X.out.alloc _).keep b1)
              clear b1 X c8 c9 c14 c15 c19
              have X := X1
              clear X1
              rename World => w1
              obtain ⟨q, hq⟩ : ∃ q, allB 0 65535 (lst [f 8, f 9, f 14, f 15, f 19]) 5 = q := ⟨_, rfl⟩
              rw [hq]
              have Q6 := Lib.hid hq
              clear hq
              cases q
              case false =>
                have HF : Hid (okK f m = false) := by show _ = _; simp [okK, Q6.out]
                go_wp2
                go_ret
                exact Ret.mk (congrArg Value.bool HF.out.symm) X.out.below
              case true =>
                have c10 := X.out.cell 10 (v := .int .i64 (f 10)) rfl
                go_wp2_with fail
                refine (within_any 1 65535 _ 1 (lst [f 10]) _ (by decide) (new_ints _ _ [f 10] _ (by first | rfl | simp))).mono ?_
                rintro e w1 ⟨rfl, b1⟩
                have X1 := Lib.hid ((X.out.alloc _).keep b1)
                clear b1 X c10
                have X := X1
                clear X1
                rename World => w1
                obtain ⟨q, hq⟩ : ∃ q, allB 1 65535 (lst [f 10]) 1 = q := ⟨_, rfl⟩
                rw [hq]
                have Q7 := Lib.hid hq
                clear hq
                cases q
                case false =>
                  have HF : Hid (okK f m = false) := by show _ = _; simp [okK, Q7.out]
                  go_wp2
                  go_ret
                  exact Ret.mk (congrArg Value.bool HF.out.symm) X.out.below
                case true =>
                  have c11 := X.out.cell 11 (v := .int .i64 (f 11)) rfl
                  have c12 := X.out.cell 12 (v := .int .i64 (f 12)) rfl
                  have c13 := X.out.cell 13 (v := .int .i64 (f 13)) rfl
                  have c16 := X.out.cell 16 (v := .int .i64 (f 16)) rfl
                  go_wp2_with fail
                  refine (within_any 0 255 _ 4 (lst [f 11, f 12, f 13, f 16]) _ (by decide) (new_ints _ _ [f 11, f 12, f 13, f 16] _ (by first | rfl | simp))).mono ?_
                  rintro e w1 ⟨rfl, b1⟩
                  have X1 := Lib.hid ((X.out.alloc _).keep b1)
                  clear b1 X c11 c12 c13 c16
                  have X := X1
                  clear X1
                  rename World => w1
                  obtain ⟨q, hq⟩ : ∃ q, allB 0 255 (lst [f 11, f 12, f 13, f 16]) 4 = q := ⟨_, rfl⟩
                  rw [hq]
                  have Q8 := Lib.hid hq
                  clear hq
                  cases q
                  case false =>
                    have HF : Hid (okK f m = false) := by show _ = _; simp [okK, Q8.out]
                    go_wp2
                    go_ret
                    exact Ret.mk (congrArg Value.bool HF.out.symm) X.out.below
                  case true =>
                    have c17 := X.out.cell 17 (v := .int .i64 (f 17)) rfl
                    go_wp2_with fail
                    refine (within_any 0 4 _ 1 (lst [f 17]) _ (by decide) (new_ints _ _ [f 17] _ (by first | rfl | simp))).mono ?_
                    rintro e w1 ⟨rfl, b1⟩
                    have X1 := Lib.hid ((X.out.alloc _).keep b1)
                    clear b1 X c17
                    have X := X1
                    clear X1
                    rename World => w1
                    obtain ⟨q, hq⟩ : ∃ q, allB 0 4 (lst [f 17]) 1 = q := ⟨_, rfl⟩
                    rw [hq]
                    have Q9 := Lib.hid hq
                    clear hq
                    cases q
                    case false =>
                      have HF : Hid (okK f m = false) := by show _ = _; simp [okK, Q9.out]
                      go_wp2
                      go_ret
                      exact Ret.mk (congrArg Value.bool HF.out.symm) X.out.below
                    case true =>
                      have c18 := X.out.cell 18 (v := .int .i64 (f 18)) rfl
                      by_cases h18 : f 18 = 255
                      · have HF : Hid (okK f m = true) := by show _ = _; simp [okK, Q0.out, Q1.out, Q2, Q3, Q4.out, Q5.out, Q6.out, Q7.out, Q8.out, Q9.out, h18]
                        go_wp2
                        go_ret
                        exact Ret.mk (congrArg Value.bool HF.out.symm) X.out.below
                      · have HF : Hid (okK f m = allB 0 (m - 1) (lst [f 18]) 1) := by show _ = _; simp [okK, Q0.out, Q1.out, Q2, Q3, Q4.out, Q5.out, Q6.out, Q7.out, Q8.out, Q9.out, h18]
                        go_wp2_with fail
                        refine (within_any 0 (m - 1) _ 1 (lst [f 18]) _ (by decide) (new_ints _ _ [f 18] _ (by first | rfl | simp))).mono ?_
                        rintro e w2 ⟨rfl, b1⟩
                        have X1 := Lib.hid ((X.out.alloc _).keep b1)
                        clear b1 X c18
                        go_wp2
                        go_ret
                        exact Ret.mk (congrArg Value.bool (by rw [HF.out]; simp [h18])) X1.out.below

set_option maxHeartbeats 2000000 in
theorem mayBeWeapon_any (f : Nat → Int) (b : Bool) (w : World) :
    Calls Try.prog 21 #[.agg (wcs f b)] w (Ret (.bool (okW f)) w) := by
  have X := Lib.hid (Kx.new w 51 (wcs f b))
  go_enter Try.func21, Try.ntmps21
  go_wp2_with fail
  refine (within_any 1 32 _ 1 (lst [f 0]) _ (by decide) (new_ints _ _ [f 0] _ (by first | rfl | simp))).mono ?_
  rintro e w1 ⟨rfl, b1⟩
  have X1 := Lib.hid ((X.out.alloc _).keep b1)
  clear b1 X 
  have X := X1
  clear X1
  rename World => w1
  obtain ⟨q, hq⟩ : ∃ q, allB 1 32 (lst [f 0]) 1 = q := ⟨_, rfl⟩
  rw [hq]
  have Q0 := Lib.hid hq
  clear hq
  cases q
  case false =>
    have HF : Hid (okW f = false) := by show _ = _; simp [okW, Q0.out]
    go_wp2
    go_ret
    exact Ret.mk (congrArg Value.bool HF.out.symm) X.out.below
  case true =>
    have c1 := X.out.cell 1 (v := .int .i64 (f 1)) rfl
    go_wp2_with fail
    refine (within_any 0 9999 _ 1 (lst [f 1]) _ (by decide) (new_ints _ _ [f 1] _ (by first | rfl | simp))).mono ?_
    rintro e w1 ⟨rfl, b1⟩
    have X1 := Lib.hid ((X.out.alloc _).keep b1)
    clear b1 X c1
    have X := X1
    clear X1
    rename World => w1
    obtain ⟨q, hq⟩ : ∃ q, allB 0 9999 (lst [f 1]) 1 = q := ⟨_, rfl⟩
    rw [hq]
    have Q1 := Lib.hid hq
    clear hq
    cases q
    case false =>
      have HF : Hid (okW f = false) := by show _ = _; simp [okW, Q1.out]
      go_wp2
      go_ret
      exact Ret.mk (congrArg Value.bool HF.out.symm) X.out.below
    case true =>
      have c2 := X.out.cell 2 (v := .int .i64 (f 2)) rfl
      cases Q2 : decide ((0 : Int) < f 2)
      case false =>
        have HF : Hid (okW f = false) := by show _ = _; simp [okW, Q2]
        go_wp2
        go_ret
        exact Ret.mk (congrArg Value.bool HF.out.symm) X.out.below
      case true =>
        cases Q3 : decide (f 2 ≤ 262144)
        case false =>
          have HF : Hid (okW f = false) := by show _ = _; simp [okW, Q3]
          go_wp2
          go_ret
          exact Ret.mk (congrArg Value.bool HF.out.symm) X.out.below
        case true =>
          have c3 := X.out.cell 3 (v := .int .i64 (f 3)) rfl
          go_wp2_with fail
          refine (within_any 1 255 _ 1 (lst [f 3]) _ (by decide) (new_ints _ _ [f 3] _ (by first | rfl | simp))).mono ?_
          rintro e w1 ⟨rfl, b1⟩
          have X1 := Lib.hid ((X.out.alloc _).keep b1)
          clear b1 X c3 c2
          have X := X1
          clear X1
          rename World => w1
          obtain ⟨q, hq⟩ : ∃ q, allB 1 255 (lst [f 3]) 1 = q := ⟨_, rfl⟩
          rw [hq]
          have Q4 := Lib.hid hq
          clear hq
          cases q
          case false =>
            have HF : Hid (okW f = false) := by show _ = _; simp [okW, Q4.out]
            go_wp2
            go_ret
            exact Ret.mk (congrArg Value.bool HF.out.symm) X.out.below
          case true =>
            have c4 := X.out.cell 4 (v := .int .i64 (f 4)) rfl
            go_wp2_with fail
            refine (within_any 0 8 _ 1 (lst [f 4]) _ (by decide) (new_ints _ _ [f 4] _ (by first | rfl | simp))).mono ?_
            rintro e w1 ⟨rfl, b1⟩
            have X1 := Lib.hid ((X.out.alloc _).keep b1)
            clear b1 X c4
            have X := X1
            clear X1
            rename World => w1
            obtain ⟨q, hq⟩ : ∃ q, allB 0 8 (lst [f 4]) 1 = q := ⟨_, rfl⟩
            rw [hq]
            have Q5 := Lib.hid hq
            clear hq
            cases q
            case false =>
              have HF : Hid (okW f = false) := by show _ = _; simp [okW, Q5.out]
              go_wp2
              go_ret
              exact Ret.mk (congrArg Value.bool HF.out.symm) X.out.below
            case true =>
              have HF : Hid (okW f = true) := by show _ = _; simp [okW, Q0.out, Q1.out, Q2, Q3, Q4.out, Q5.out]
              go_wp2
              go_ret
              exact Ret.mk (congrArg Value.bool HF.out.symm) X.out.below
end Go.Proofs.Ytpgifcgidelmaaa
