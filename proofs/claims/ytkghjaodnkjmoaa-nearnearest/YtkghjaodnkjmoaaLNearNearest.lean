/- The law NearNearest. -/
import Derived.Test.YtkghjaodnkjmoaaNr21
namespace Go.Proofs.Ytkghjaodnkjmoaa
open Go.RowKit Go.Sort Go.Shelf
set_option linter.unusedVariables false

section
variable (X Y : Nat → Int)
set_option maxRecDepth 100000 in
set_option maxHeartbeats 4000000 in
theorem walk_NearNearest (A : Option Addr) (n c : Nat) (x y r : Int) (w : World) (hP : Ps X Y w A n) (hnc : n ≤ c) (hcm : c ≤ maxLen) (hA : A = none → c = 0) :
    Calls Try.prog 4 #[.agg #[.slice A n c, .int .i64 x, .int .i64 y, .int .i64 r]] w (Ret (.bool true) w) := by
  have K := Lib.hid (Kx.new w 24 #[.slice A n c, .int .i64 x, .int .i64 y, .int .i64 r])
  have F1 := Lib.hid (calls_re (V := w.alloc (.cells #[.slice A n c, .int .i64 x, .int .i64 y, .int .i64 r] 24)) (fun u => few_any A n c u hnc hcm))
  have HP := Lib.hid (hP.take X Y (cut_le 258 n).1)
  have HA := Lib.hid hA
  have hN := (cut_le 258 n).2
  clear hP hA hnc hcm
  generalize cut 258 n = N at *
  go_enter Try.func4, Try.ntmps4
  go_wp2
  have z0 := cell_regrown (K.out.cell 0 (v := .slice A n c) rfl)
  have z1 := cell_regrown (K.out.cell 1 (v := .int .i64 x) rfl)
  have z2 := cell_regrown (K.out.cell 2 (v := .int .i64 y) rfl)
  generalize w.alloc (.cells #[.slice A n c, .int .i64 x, .int .i64 y, .int .i64 r] 24) = w1 at *
  refine wp_region_quiet_below (by kernel_rfl) (by kernel_rfl) ?_
  repeat (go_big_quiet_step (with_reducible exact F1.out _ _))
  refine wpQuiet_nil ?_
  intro _ hw'
  obtain ⟨⟨dq, osq⟩, hw''⟩ := hw'
  subst hw''
  have K2 := Lib.hid (K.out.keep (below_regrown w1 dq osq))
  clear K F1 z0 z1 z2
  generalize grow (redrawn w1 dq) osq = w2 at *
  have MD := Lib.hid (made_any X Y A N c w2 (HP.out.keep X Y K2.out.below) HA.out hN)
  go_wp2_with fail
  refine MD.out.mono ?_
  rintro e w3 ⟨b3, ⟨hm, p, rfl, hI⟩ | ⟨hm, rfl⟩⟩
  case inr =>
    have K3 := Lib.hid (K2.out.keep b3)
    clear b3 MD K2 hm
    go_wp2_with fail
    refine (awake_any w3).mono ?_
    rintro e w4 ⟨rfl, b4⟩
    have K4 := Lib.hid (K3.out.keep b4)
    clear b4 K3
    go_wp2
    go_ret
    exact Ret.mk rfl K4.out.below
  have HM := Lib.hid ((may_iff X Y).1 hm)
  have K3 := Lib.hid (K2.out.keep b3)
  have HI := Lib.hid hI
  have HP3 := Lib.hid (HP.out.keep X Y K3.out.below)
  clear b3 MD K2 hm hI
  have NN := Lib.hid (nearestM_any X Y p N x y w3 HI.out HM.out.2 HM.out.1)
  go_wp2_with fail
  refine NN.out.mono ?_
  rintro e w4 ⟨b4, ⟨hno, rfl⟩ | ⟨hs, h0, rfl⟩ | ⟨hs, m, hm, rfl⟩⟩
  · have K4 := Lib.hid (K3.out.keep b4)
    have HNo := Lib.hid hno
    clear b4 NN K3 HI HP3 hno
    cases hx : sp x
    · go_wp2_with fail
      refine (in_any x w4).mono ?_
      rw [hx]
      rintro e w5 ⟨rfl, b5⟩
      have K5 := Lib.hid (K4.out.keep b5)
      clear b5 K4
      clear HNo hx
      go_wp2_with fail
      refine (awake_any w5).mono ?_
      rintro e w9 ⟨rfl, b9⟩
      have K9 := Lib.hid (K5.out.keep b9)
      clear b9 K5
      go_wp2
      go_ret
      exact Ret.mk rfl K9.out.below
    · have HX := Lib.hid hx
      go_wp2_with fail
      refine (in_any x w4).mono ?_
      rw [hx]
      rintro e w5 ⟨rfl, b5⟩
      have K5 := Lib.hid (K4.out.keep b5)
      clear b5 K4
      clear hx
      have hy : sp y = false := by
        cases h : sp y
        · rfl
        · exact absurd ⟨HX.out, h⟩ HNo.out
      go_wp2_with fail
      refine (in_any y w5).mono ?_
      rw [hy]
      rintro e w6 ⟨rfl, b6⟩
      have K6 := Lib.hid (K5.out.keep b6)
      clear b6 K5
      clear HNo hy HX
      go_wp2_with fail
      refine (awake_any w6).mono ?_
      rintro e w9 ⟨rfl, b9⟩
      have K9 := Lib.hid (K6.out.keep b9)
      clear b9 K6
      go_wp2
      go_ret
      exact Ret.mk rfl K9.out.below
  · obtain ⟨hx, hy⟩ := hs
    subst h0
    have K4 := Lib.hid (K3.out.keep b4)
    clear b4 NN K3 HI HP3
    go_wp2_with fail
    refine (in_any x w4).mono ?_
    rw [hx]
    rintro e w5 ⟨rfl, b5⟩
    have K5 := Lib.hid (K4.out.keep b5)
    clear b5 K4
    go_wp2_with fail
    refine (in_any y w5).mono ?_
    rw [hy]
    rintro e w6 ⟨rfl, b6⟩
    have K6 := Lib.hid (K5.out.keep b6)
    clear b6 K5
    go_wp2_with fail
    refine (awake_any w6).mono ?_
    rintro e w9 ⟨rfl, b9⟩
    have K9 := Lib.hid (K6.out.keep b9)
    clear b9 K6
    go_wp2
    go_ret
    exact Ret.mk rfl K9.out.below
  · obtain ⟨hx, hy⟩ := hs
    have hmN : m < N := by simpa using hm.1
    have hN0 : ¬ (N : Int) = 0 := by omega
    have K4 := Lib.hid (K3.out.keep b4)
    have HP4 := Lib.hid (HP3.out.keep X Y b4)
    have RN := Lib.hid (fun u (h : Ps X Y u A N) => refNearest_any X Y A N c m x y u h HM.out.2 hN (sp_iff.1 hx) (sp_iff.1 hy) hm)
    clear b4 NN K3 HI HP3 hm
    go_wp2_with fail
    refine (in_any x w4).mono ?_
    rw [hx]
    rintro e w5 ⟨rfl, b5⟩
    have K5 := Lib.hid (K4.out.keep b5)
    have HP5 := Lib.hid (HP4.out.keep X Y b5)
    clear b5 K4 HP4
    go_wp2_with fail
    refine (in_any y w5).mono ?_
    rw [hy]
    rintro e w6 ⟨rfl, b6⟩
    have K6 := Lib.hid (K5.out.keep b6)
    have HP6 := Lib.hid (HP5.out.keep X Y b6)
    clear b6 K5 HP5
    go_wp2_with fail
    refine (RN.out w6 HP6.out).mono ?_
    rintro e w7 ⟨rfl, b7⟩
    have K7 := Lib.hid (K6.out.keep b7)
    clear b7 K6 HP6 RN
    go_wp2_with fail
    refine (awake_any w7).mono ?_
    rintro e w9 ⟨rfl, b9⟩
    have K9 := Lib.hid (K7.out.keep b9)
    clear b9 K7
    go_wp2
    go_ret
    exact Ret.mk rfl K9.out.below
end
end Go.Proofs.Ytkghjaodnkjmoaa
