/- Contracts of the reference: which kinds and weapons may be. -/
import Derived.Test.YtpgifcgidelmaaaKd3
import Derived.Deep.DeepCutAuto
namespace Go.Proofs.Ytpgifcgidelmaaa
open Go.RowKit
set_option linter.unusedVariables false

def rA (f : Nat → Int) : Bool := inB 0 5 (f 0) && (inB 1 9999 (f 1) && (decide ((0 : Int) ≤ f 2) && (decide (f 2 ≤ 65536) && (inB 0 32768 (f 3)))))
def rB (f : Nat → Int) : Bool := inB 0 32 (f 4) && (inB 0 32 (f 5) && (inB 0 32 (f 6) && (inB 0 32 (f 7))))
def rC (f : Nat → Int) : Bool := inB 0 65535 (f 8) && (inB 0 65535 (f 9) && (inB 0 65535 (f 14) && (inB 0 65535 (f 15) && (inB 0 65535 (f 19) && (inB 1 65535 (f 10))))))
def rD (f : Nat → Int) : Bool := inB 0 255 (f 11) && (inB 0 255 (f 12) && (inB 0 255 (f 13) && (inB 0 255 (f 16) && (inB 0 4 (f 17)))))
theorem okK_ref (f : Nat → Int) (m : Int) : okK f m = (rA f && (rB f && (rC f && (rD f && (decide (f 18 = 255) || inB 0 (m - 1) (f 18)))))) := by
  unfold okK rA rB rC rD
  simp [allB, lst, Bool.and_assoc]
theorem okW_ref (f : Nat → Int) : okW f = (inB 1 32 (f 0) && (inB 0 9999 (f 1) && (decide ((1 : Int) ≤ f 2) && (decide (f 2 ≤ 262144) && (inB 1 255 (f 3) && (inB 0 8 (f 4))))))) := by
  unfold okW
  have e : decide ((0 : Int) < f 2) = decide ((1 : Int) ≤ f 2) := rfl
  rw [e]
  simp [allB, lst]

set_option maxHeartbeats 2000000 in
theorem refWeapon_any (f : Nat → Int) (b : Bool) (w : World) : Calls Try.prog 23 #[.agg (wcs f b)] w (Ret (.bool (okW f)) w) := by
  have X := Lib.hid (Kx.new w 51 (wcs f b))
  go_enter Try.func23, Try.ntmps23
  go_wp2_with fail
  refine (in_any (f 0) 1 32 _).mono ?_
  rintro e w1 ⟨rfl, rfl⟩
  obtain ⟨q, hq⟩ : ∃ q, inB 1 32 (f 0) = q := ⟨_, rfl⟩
  rw [hq]
  have Q0 := Lib.hid hq
  clear hq
  cases q
  case false =>
    have HF : Hid (okW f = false) := by show _ = _; simp [okW_ref, Q0.out]
    go_wp2
    go_ret
    exact Ret.mk (congrArg Value.bool HF.out.symm) X.out.below
  case true =>
    have c1 := X.out.cell 1 (v := .int .i64 (f 1)) rfl
    go_wp2_with fail
    refine (in_any (f 1) 0 9999 _).mono ?_
    rintro e w1 ⟨rfl, rfl⟩
    obtain ⟨q, hq⟩ : ∃ q, inB 0 9999 (f 1) = q := ⟨_, rfl⟩
    rw [hq]
    have Q1 := Lib.hid hq
    clear hq
    cases q
    case false =>
      have HF : Hid (okW f = false) := by show _ = _; simp [okW_ref, Q1.out]
      go_wp2
      go_ret
      exact Ret.mk (congrArg Value.bool HF.out.symm) X.out.below
    case true =>
      have c2 := X.out.cell 2 (v := .int .i64 (f 2)) rfl
      cases Q2 : decide ((1 : Int) ≤ f 2)
      case false =>
        have HF : Hid (okW f = false) := by show _ = _; simp [okW_ref, Q2]
        go_wp2
        go_ret
        exact Ret.mk (congrArg Value.bool HF.out.symm) X.out.below
      case true =>
        cases Q3 : decide (f 2 ≤ 262144)
        case false =>
          have HF : Hid (okW f = false) := by show _ = _; simp [okW_ref, Q3]
          go_wp2
          go_ret
          exact Ret.mk (congrArg Value.bool HF.out.symm) X.out.below
        case true =>
          have c3 := X.out.cell 3 (v := .int .i64 (f 3)) rfl
          go_wp2_with fail
          refine (in_any (f 3) 1 255 _).mono ?_
          rintro e w1 ⟨rfl, rfl⟩
          obtain ⟨q, hq⟩ : ∃ q, inB 1 255 (f 3) = q := ⟨_, rfl⟩
          rw [hq]
          have Q4 := Lib.hid hq
          clear hq
          cases q
          case false =>
            have HF : Hid (okW f = false) := by show _ = _; simp [okW_ref, Q4.out]
            go_wp2
            go_ret
            exact Ret.mk (congrArg Value.bool HF.out.symm) X.out.below
          case true =>
            have c4 := X.out.cell 4 (v := .int .i64 (f 4)) rfl
            go_wp2_with fail
            refine (in_any (f 4) 0 8 _).mono ?_
            rintro e w1 ⟨rfl, rfl⟩
            obtain ⟨q, hq⟩ : ∃ q, inB 0 8 (f 4) = q := ⟨_, rfl⟩
            rw [hq]
            have Q5 := Lib.hid hq
            clear hq
            cases q
            case false =>
              have HF : Hid (okW f = false) := by show _ = _; simp [okW_ref, Q5.out]
              go_wp2
              go_ret
              exact Ret.mk (congrArg Value.bool HF.out.symm) X.out.below
            case true =>
              have HF : Hid (okW f = true) := by show _ = _; simp [okW_ref, Q0.out, Q1.out, Q2, Q3, Q4.out, Q5.out]
              go_wp2
              go_ret
              exact Ret.mk (congrArg Value.bool HF.out.symm) X.out.below

set_option maxRecDepth 100000 in
set_option maxHeartbeats 4000000 in
theorem refKind_any (f : Nat → Int) (m : Int) (w : World) (hm : -9223372036854775807 ≤ m) (hm2 : m ≤ 9223372036854775807) :
    Calls Try.prog 22 #[.agg (kcs f), .int .i64 m] w (Ret (.bool (okK f m)) w) := by
  have X := Lib.hid (Kx.new w 46 (kcs f))
  go_enter Try.func22, Try.ntmps22
  go_upto_region 1 with fail
  generalize w.alloc (.cells (kcs f) 46) = w1 at *
  have c0 := X.out.cell 0 (v := .int .i64 (f 0)) rfl
  go_cut [5] (fun s5 wx => s5 = .bool (rA f) ∧ wx = w1)
  case first =>
    go_wp2_with fail
    refine (in_any (f 0) 0 5 _).mono ?_
    rintro e w1 ⟨rfl, rfl⟩
    obtain ⟨q, hq⟩ : ∃ q, inB 0 5 (f 0) = q := ⟨_, rfl⟩
    rw [hq]
    have Q0 := Lib.hid hq
    clear hq
    cases q
    case false =>
      have HF : Hid (rA f = false) := by show _ = _; simp [rA, Q0.out]
      go_upto_region 2 with fail
      go_meet
      exact ⟨congrArg Value.bool HF.out.symm, rfl⟩
    case true =>
      have c1 := X.out.cell 1 (v := .int .i64 (f 1)) rfl
      go_wp2_with fail
      refine (in_any (f 1) 1 9999 _).mono ?_
      rintro e w1 ⟨rfl, rfl⟩
      obtain ⟨q, hq⟩ : ∃ q, inB 1 9999 (f 1) = q := ⟨_, rfl⟩
      rw [hq]
      have Q1 := Lib.hid hq
      clear hq
      cases q
      case false =>
        have HF : Hid (rA f = false) := by show _ = _; simp [rA, Q1.out]
        go_upto_region 2 with fail
        go_meet
        exact ⟨congrArg Value.bool HF.out.symm, rfl⟩
      case true =>
        have c2 := X.out.cell 2 (v := .int .i64 (f 2)) rfl
        cases Q2 : decide ((0 : Int) ≤ f 2)
        case false =>
          have HF : Hid (rA f = false) := by show _ = _; simp [rA, Q2]
          go_upto_region 2 with fail
          go_meet
          exact ⟨congrArg Value.bool HF.out.symm, rfl⟩
        case true =>
          cases Q3 : decide (f 2 ≤ 65536)
          case false =>
            have HF : Hid (rA f = false) := by show _ = _; simp [rA, Q3]
            go_upto_region 2 with fail
            go_meet
            exact ⟨congrArg Value.bool HF.out.symm, rfl⟩
          case true =>
            have c3 := X.out.cell 3 (v := .int .i64 (f 3)) rfl
            go_wp2_with fail
            refine (in_any (f 3) 0 32768 _).mono ?_
            rintro e w1 ⟨rfl, rfl⟩
            obtain ⟨q, hq⟩ : ∃ q, inB 0 32768 (f 3) = q := ⟨_, rfl⟩
            rw [hq]
            have Q4 := Lib.hid hq
            clear hq
            cases q
            case false =>
              have HF : Hid (rA f = false) := by show _ = _; simp [rA, Q4.out]
              go_upto_region 2 with fail
              go_meet
              exact ⟨congrArg Value.bool HF.out.symm, rfl⟩
            case true =>
              have HF : Hid (rA f = true) := by show _ = _; simp [rA, Q0.out, Q1.out, Q2, Q3, Q4.out]
              go_upto_region 2 with fail
              go_meet
              exact ⟨congrArg Value.bool HF.out.symm, rfl⟩
  case rest =>
    obtain ⟨rfl, rfl⟩ := hcut
    clear c0
    rename World => w1
    go_upto_region 2 with fail
    have c4 := X.out.cell 4 (v := .int .i64 (f 4)) rfl
    go_cut [6] (fun s6 wx => s6 = .bool (rB f) ∧ wx = w1)
    case first =>
      go_wp2_with fail
      refine (in_any (f 4) 0 32 _).mono ?_
      rintro e w1 ⟨rfl, rfl⟩
      obtain ⟨q, hq⟩ : ∃ q, inB 0 32 (f 4) = q := ⟨_, rfl⟩
      rw [hq]
      have Q0 := Lib.hid hq
      clear hq
      cases q
      case false =>
        have HF : Hid (rB f = false) := by show _ = _; simp [rB, Q0.out]
        go_upto_region 3 with fail
        go_meet
        exact ⟨congrArg Value.bool HF.out.symm, rfl⟩
      case true =>
        have c5 := X.out.cell 5 (v := .int .i64 (f 5)) rfl
        go_wp2_with fail
        refine (in_any (f 5) 0 32 _).mono ?_
        rintro e w1 ⟨rfl, rfl⟩
        obtain ⟨q, hq⟩ : ∃ q, inB 0 32 (f 5) = q := ⟨_, rfl⟩
        rw [hq]
        have Q1 := Lib.hid hq
        clear hq
        cases q
        case false =>
          have HF : Hid (rB f = false) := by show _ = _; simp [rB, Q1.out]
          go_upto_region 3 with fail
          go_meet
          exact ⟨congrArg Value.bool HF.out.symm, rfl⟩
        case true =>
          have c6 := X.out.cell 6 (v := .int .i64 (f 6)) rfl
          go_wp2_with fail
          refine (in_any (f 6) 0 32 _).mono ?_
          rintro e w1 ⟨rfl, rfl⟩
          obtain ⟨q, hq⟩ : ∃ q, inB 0 32 (f 6) = q := ⟨_, rfl⟩
          rw [hq]
          have Q2 := Lib.hid hq
          clear hq
          cases q
          case false =>
            have HF : Hid (rB f = false) := by show _ = _; simp [rB, Q2.out]
            go_upto_region 3 with fail
            go_meet
            exact ⟨congrArg Value.bool HF.out.symm, rfl⟩
          case true =>
            have c7 := X.out.cell 7 (v := .int .i64 (f 7)) rfl
            go_wp2_with fail
            refine (in_any (f 7) 0 32 _).mono ?_
            rintro e w1 ⟨rfl, rfl⟩
            obtain ⟨q, hq⟩ : ∃ q, inB 0 32 (f 7) = q := ⟨_, rfl⟩
            rw [hq]
            have Q3 := Lib.hid hq
            clear hq
            cases q
            case false =>
              have HF : Hid (rB f = false) := by show _ = _; simp [rB, Q3.out]
              go_upto_region 3 with fail
              go_meet
              exact ⟨congrArg Value.bool HF.out.symm, rfl⟩
            case true =>
              have HF : Hid (rB f = true) := by show _ = _; simp [rB, Q0.out, Q1.out, Q2.out, Q3.out]
              go_upto_region 3 with fail
              go_meet
              exact ⟨congrArg Value.bool HF.out.symm, rfl⟩
    case rest =>
      obtain ⟨rfl, rfl⟩ := hcut
      clear c4
      rename World => w1
      go_upto_region 3 with fail
      have c8 := X.out.cell 8 (v := .int .i64 (f 8)) rfl
      go_cut [7] (fun s7 wx => s7 = .bool (rC f) ∧ wx = w1)
      case first =>
        go_wp2_with fail
        refine (in_any (f 8) 0 65535 _).mono ?_
        rintro e w1 ⟨rfl, rfl⟩
        obtain ⟨q, hq⟩ : ∃ q, inB 0 65535 (f 8) = q := ⟨_, rfl⟩
        rw [hq]
        have Q0 := Lib.hid hq
        clear hq
        cases q
        case false =>
          have HF : Hid (rC f = false) := by show _ = _; simp [rC, Q0.out]
          go_upto_region 4 with fail
          go_meet
          exact ⟨congrArg Value.bool HF.out.symm, rfl⟩
        case true =>
          have c9 := X.out.cell 9 (v := .int .i64 (f 9)) rfl
          go_wp2_with fail
          refine (in_any (f 9) 0 65535 _).mono ?_
          rintro e w1 ⟨rfl, rfl⟩
          obtain ⟨q, hq⟩ : ∃ q, inB 0 65535 (f 9) = q := ⟨_, rfl⟩
          rw [hq]
          have Q1 := Lib.hid hq
          clear hq
          cases q
          case false =>
            have HF : Hid (rC f = false) := by show _ = _; simp [rC, Q1.out]
            go_upto_region 4 with fail
            go_meet
            exact ⟨congrArg Value.bool HF.out.symm, rfl⟩
          case true =>
            have c14 := X.out.cell 14 (v := .int .i64 (f 14)) rfl
            go_wp2_with fail
            refine (in_any (f 14) 0 65535 _).mono ?_
            rintro e w1 ⟨rfl, rfl⟩
            obtain ⟨q, hq⟩ : ∃ q, inB 0 65535 (f 14) = q := ⟨_, rfl⟩
            rw [hq]
            have Q2 := Lib.hid hq
            clear hq
            cases q
            case false =>
              have HF : Hid (rC f = false) := by show _ = _; simp [rC, Q2.out]
              go_upto_region 4 with fail
              go_meet
              exact ⟨congrArg Value.bool HF.out.symm, rfl⟩
            case true =>
              have c15 := X.out.cell 15 (v := .int .i64 (f 15)) rfl
              go_wp2_with fail
              refine (in_any (f 15) 0 65535 _).mono ?_
              rintro e w1 ⟨rfl, rfl⟩
              obtain ⟨q, hq⟩ : ∃ q, inB 0 65535 (f 15) = q := ⟨_, rfl⟩
              rw [hq]
              have Q3 := Lib.hid hq
              clear hq
              cases q
              case false =>
                have HF : Hid (rC f = false) := by show _ = _; simp [rC, Q3.out]
                go_upto_region 4 with fail
                go_meet
                exact ⟨congrArg Value.bool HF.out.symm, rfl⟩
              case true =>
                have c19 := X.out.cell 19 (v := .int .i64 (f 19)) rfl
                go_wp2_with fail
                refine (in_any (f 19) 0 65535 _).mono ?_
                rintro e w1 ⟨rfl, rfl⟩
                obtain ⟨q, hq⟩ : ∃ q, inB 0 65535 (f 19) = q := ⟨_, rfl⟩
                rw [hq]
                have Q4 := Lib.hid hq
                clear hq
                cases q
                case false =>
                  have HF : Hid (rC f = false) := by show _ = _; simp [rC, Q4.out]
                  go_upto_region 4 with fail
                  go_meet
                  exact ⟨congrArg Value.bool HF.out.symm, rfl⟩
                case true =>
                  have c10 := X.out.cell 10 (v := .int .i64 (f 10)) rfl
                  go_wp2_with fail
                  refine (in_any (f 10) 1 65535 _).mono ?_
                  rintro e w1 ⟨rfl, rfl⟩
                  obtain ⟨q, hq⟩ : ∃ q, inB 1 65535 (f 10) = q := ⟨_, rfl⟩
                  rw [hq]
                  have Q5 := Lib.hid hq
                  clear hq
                  cases q
                  case false =>
                    have HF : Hid (rC f = false) := by show _ = _; simp [rC, Q5.out]
                    go_upto_region 4 with fail
                    go_meet
                    exact ⟨congrArg Value.bool HF.out.symm, rfl⟩
                  case true =>
                    have HF : Hid (rC f = true) := by show _ = _; simp [rC, Q0.out, Q1.out, Q2.out, Q3.out, Q4.out, Q5.out]
                    go_upto_region 4 with fail
                    go_meet
                    exact ⟨congrArg Value.bool HF.out.symm, rfl⟩
      case rest =>
        obtain ⟨rfl, rfl⟩ := hcut
        clear c8
        rename World => w1
        go_upto_region 4 with fail
        have c11 := X.out.cell 11 (v := .int .i64 (f 11)) rfl
        go_cut [8] (fun s8 wx => s8 = .bool (rD f) ∧ wx = w1)
        case first =>
          go_wp2_with fail
          refine (in_any (f 11) 0 255 _).mono ?_
          rintro e w1 ⟨rfl, rfl⟩
          obtain ⟨q, hq⟩ : ∃ q, inB 0 255 (f 11) = q := ⟨_, rfl⟩
          rw [hq]
          have Q0 := Lib.hid hq
          clear hq
          cases q
          case false =>
            have HF : Hid (rD f = false) := by show _ = _; simp [rD, Q0.out]
            go_upto_region 5 with fail
            go_meet
            exact ⟨congrArg Value.bool HF.out.symm, rfl⟩
          case true =>
            have c12 := X.out.cell 12 (v := .int .i64 (f 12)) rfl
            go_wp2_with fail
            refine (in_any (f 12) 0 255 _).mono ?_
            rintro e w1 ⟨rfl, rfl⟩
            obtain ⟨q, hq⟩ : ∃ q, inB 0 255 (f 12) = q := ⟨_, rfl⟩
            rw [hq]
            have Q1 := Lib.hid hq
            clear hq
            cases q
            case false =>
              have HF : Hid (rD f = false) := by show _ = _; simp [rD, Q1.out]
              go_upto_region 5 with fail
              go_meet
              exact ⟨congrArg Value.bool HF.out.symm, rfl⟩
            case true =>
              have c13 := X.out.cell 13 (v := .int .i64 (f 13)) rfl
              go_wp2_with fail
              refine (in_any (f 13) 0 255 _).mono ?_
              rintro e w1 ⟨rfl, rfl⟩
              obtain ⟨q, hq⟩ : ∃ q, inB 0 255 (f 13) = q := ⟨_, rfl⟩
              rw [hq]
              have Q2 := Lib.hid hq
              clear hq
              cases q
              case false =>
                have HF : Hid (rD f = false) := by show _ = _; simp [rD, Q2.out]
                go_upto_region 5 with fail
                go_meet
                exact ⟨congrArg Value.bool HF.out.symm, rfl⟩
              case true =>
                have c16 := X.out.cell 16 (v := .int .i64 (f 16)) rfl
                go_wp2_with fail
                refine (in_any (f 16) 0 255 _).mono ?_
                rintro e w1 ⟨rfl, rfl⟩
                obtain ⟨q, hq⟩ : ∃ q, inB 0 255 (f 16) = q := ⟨_, rfl⟩
                rw [hq]
                have Q3 := Lib.hid hq
                clear hq
                cases q
                case false =>
                  have HF : Hid (rD f = false) := by show _ = _; simp [rD, Q3.out]
                  go_upto_region 5 with fail
                  go_meet
                  exact ⟨congrArg Value.bool HF.out.symm, rfl⟩
                case true =>
                  have c17 := X.out.cell 17 (v := .int .i64 (f 17)) rfl
                  go_wp2_with fail
                  refine (in_any (f 17) 0 4 _).mono ?_
                  rintro e w1 ⟨rfl, rfl⟩
                  obtain ⟨q, hq⟩ : ∃ q, inB 0 4 (f 17) = q := ⟨_, rfl⟩
                  rw [hq]
                  have Q4 := Lib.hid hq
                  clear hq
                  cases q
                  case false =>
                    have HF : Hid (rD f = false) := by show _ = _; simp [rD, Q4.out]
                    go_upto_region 5 with fail
                    go_meet
                    exact ⟨congrArg Value.bool HF.out.symm, rfl⟩
                  case true =>
                    have HF : Hid (rD f = true) := by show _ = _; simp [rD, Q0.out, Q1.out, Q2.out, Q3.out, Q4.out]
                    go_upto_region 5 with fail
                    go_meet
                    exact ⟨congrArg Value.bool HF.out.symm, rfl⟩
        case rest =>
          obtain ⟨rfl, rfl⟩ := hcut
          clear c11
          rename World => w1
          go_upto_region 5 with fail
          have HE := Lib.hid (okK_ref f m)
          have c18 := X.out.cell 18 (v := .int .i64 (f 18)) rfl
          generalize rA f = qrA at *
          cases qrA
          case false =>
            go_wp2
            go_ret
            exact Ret.mk (congrArg Value.bool (by rw [HE.out]; simp)) X.out.below
          case true =>
            generalize rB f = qrB at *
            cases qrB
            case false =>
              go_wp2
              go_ret
              exact Ret.mk (congrArg Value.bool (by rw [HE.out]; simp)) X.out.below
            case true =>
              generalize rC f = qrC at *
              cases qrC
              case false =>
                go_wp2
                go_ret
                exact Ret.mk (congrArg Value.bool (by rw [HE.out]; simp)) X.out.below
              case true =>
                generalize rD f = qrD at *
                cases qrD
                case false =>
                  go_wp2
                  go_ret
                  exact Ret.mk (congrArg Value.bool (by rw [HE.out]; simp)) X.out.below
                case true =>
                  by_cases h18 : f 18 = 255
                  · go_wp2
                    go_ret
                    exact Ret.mk (congrArg Value.bool (by rw [HE.out]; simp [h18])) X.out.below
                  · go_wp2_with fail
                    refine (in_any (f 18) 0 (m - 1) _).mono ?_
                    rintro e w2 ⟨rfl, rfl⟩
                    obtain ⟨q, hq⟩ : ∃ q, inB 0 (m - 1) (f 18) = q := ⟨_, rfl⟩
                    rw [hq]
                    have HQ := Lib.hid hq
                    clear hq
                    go_wp2
                    go_ret
                    exact Ret.mk (congrArg Value.bool (by rw [HE.out, HQ.out]; simp [h18])) X.out.below

end Go.Proofs.Ytpgifcgidelmaaa
