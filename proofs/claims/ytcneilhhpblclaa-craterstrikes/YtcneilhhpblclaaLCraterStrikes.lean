/- The walk of the law CraterStrikes. -/
import Derived.Test.YtcneilhhpblclaaLCrStrikesOk
namespace Go.Proofs.Ytcneilhhpblclaa
open Go.RowKit
set_option linter.unusedVariables false

set_option maxRecDepth 100000 in
set_option maxHeartbeats 2000000 in
theorem strikes_bad (W H T : Int) (A : Option Addr) (n c : Nat) (p : Nat → Nat) (Ah : Option Addr) (nh kh : Nat) (h : Nat → Ht) (w : World) (hb : Bs w A n p) (hp : ∀ i, p i < 256) (hn : n ≤ c) (hc : c ≤ maxLen) (hH : Hs w Ah nh h) (hn2 : nh ≤ kh) (hkh : kh ≤ maxLen)
    (hbad : ¬ (Val W H T (fewN n) ∧ ∀ q, q < someN nh → Ok9 (h q))) :
    Calls Try.prog 4 #[.agg #[.int .i64 W, .int .i64 H, .int .i64 T, .slice A n c], .slice Ah nh kh] w (Ret (.bool true) w) := by
  have HF := Lib.hid (few9_any W H T A n c p _ (hb.alloc (.cells #[.int .i64 W, .int .i64 H, .int .i64 T, .slice A n c] 30)) hn hc)
  have HS := Lib.hid (fun w1 => Start.first (w := w) (w1 := w1) (W := W) (H := H) (T := T) (c := c) hb)
  have HSo := Lib.hid (fun u hu => some_any Ah nh kh h u hu hn2 hkh)
  have hN := (fewN_le n).2
  have hM : fewN n ≤ maxLen := by unfold maxLen; omega
  have hL := (someN_le nh).2
  have hLM : someN nh ≤ maxLen := by unfold maxLen; omega
  have HX := Lib.hid (Bx.new w (.int .i64 W) (.int .i64 H) (.int .i64 T) (.slice A n c) 30)
  have HH := Lib.hid hH
  have HHt := Lib.hid (hH.take (someN_le nh).1)
  clear hb hn hc hH hn2 hkh
  generalize fewN n = N at *
  generalize someN nh = M at *
  have CA := Lib.hid (fun u hH => all_bad W H T A N c M kh Ah h u hLM hM hH hbad)
  have SY := Lib.hid (fun u => same_yes 0 0 0 none none 0 0 0 p p u (bs_none u p) (bs_none u p) (fun _ _ => rfl) (by decide))
  have HBad := Lib.hid hbad
  clear hbad hp
  go_enter Try.func4, Try.ntmps4
  go_wp2_with fail
  refine HF.out.mono ?_
  rintro e w1 ⟨rfl, b1⟩
  have X1 := Lib.hid (HX.out.keep b1)
  have S0 := HS.out _ b1
  have HH1 := Lib.hid (HH.out.keep X1.out.below)
  clear b1 HX HF HS
  obtain ⟨-, c0, c1, c2, c3, f0, f1, f2, f3, -⟩ := X1.out
  go_wp2_with fail
  refine (HSo.out _ HH1.out).mono ?_
  rintro e w1' ⟨rfl, rfl⟩
  have S1 := Lib.hid S0
  obtain ⟨⟨-, c0, c1, c2, c3, -, -, -, -, -⟩, -⟩ := S0
  have cA := conv_any S1.out.bs c
  have HHa := Lib.hid (HHt.out.keep S1.out.bx.below)
  go_wp2_with fail
  refine (CA.out _ HHa.out).mono ?_
  rintro e w2 ⟨rfl, b2⟩
  have S2 := S1.out.keep b2
  have HH2 := HHa.out.keep b2
  clear b2 c0 c1 c2 c3 f0 f1 f2 f3 cA S1 X1 HH1 HHa HSo HH HHt CA
  obtain ⟨Y, hY⟩ : ∃ Y, w2.alloc (.cells #[.int .i64 0, .int .i64 0, .int .i64 0, .slice none 0 0] 30) = Y := ⟨_, rfl⟩
  have bY : Below w2.heap.size w2 Y := by rw [← hY]; exact (Below.refl _ _).alloc (Nat.le_refl _) _
  have S3 := Lib.hid (S2.keep bY)
  have HH3 := Lib.hid (HH2.keep bY)
  have X3 : Hid (Bx w2 w2.heap.size Y (.int .i64 0) (.int .i64 0) (.int .i64 0) (.slice none 0 0)) := by rw [← hY]; exact Bx.new w2 _ _ _ _ _
  obtain ⟨⟨-, c0, c1, c2, c3, -, -, -, -, -⟩, -⟩ := S3.out
  rw [← hY] at c0 c1 c2 c3
  have HY := Lib.hid hY
  clear S2 HH2 bY hY
  by_cases hv : Val W H T N
  · have C1 := Lib.hid (fun u => refCheck_ok W H T A N c u hM hv)
    have C2 := Lib.hid (fun u hu => mayL_any Ah M kh h u hu hLM false ⟨(fun q => by cases q), fun q => absurd ⟨hv, q⟩ HBad.out⟩)
    clear hv
    go_wp2_with fail
    rw [HY.out]
    refine (C1.out _).mono ?_
    rintro e w4 ⟨rfl, b2⟩
    have S4 := Lib.hid (S3.out.keep b2)
    have HH4 := Lib.hid (HH3.out.keep b2)
    have X4 := Lib.hid (X3.out.keep b2)
    clear b2 S3 HH3 X3 c0 c1 c2 c3 C1 HY
    go_wp2_with fail
    refine (C2.out _ HH4.out).mono ?_
    rintro e w5 ⟨rfl, b2⟩
    have S5 := Lib.hid (S4.out.keep b2)
    have X5 := Lib.hid (X4.out.keep b2)
    clear b2 S4 HH4 X4 C2
    obtain ⟨-, d0, d1, d2, d3, -, -, -, -, -⟩ := X5.out
    go_wp2_with fail
    refine (SY.out _).mono ?_
    rintro e w6 ⟨rfl, b2⟩
    have S6 := Lib.hid (S5.out.keep b2)
    clear b2 S5 X5 d0 d1 d2 d3
    go_wp2_with fail
    refine (awake9_any _).mono ?_
    rintro e w7 ⟨rfl, b2⟩
    have S7 := Lib.hid (S6.out.keep b2).bx.below
    clear b2
    go_wp2
    go_ret
    exact Ret.mk rfl S7.out
  · have C1 := Lib.hid (fun u => refCheck_any W H T A N c u hM)
    obtain ⟨kk, ek⟩ : ∃ kk, chk W H T N = kk := ⟨_, rfl⟩
    obtain ⟨k1, k2⟩ := chk_bad hv
    rw [ek] at C1 k1 k2
    have hk : (kk != 0) = true := by simp; omega
    clear hv ek
    go_wp2_with fail
    rw [HY.out]
    refine (C1.out _).mono ?_
    rintro e w4 ⟨rfl, b2⟩
    have S4 := Lib.hid (S3.out.keep b2)
    have X4 := Lib.hid (X3.out.keep b2)
    clear b2 S3 HH3 X3 c0 c1 c2 c3 C1 HY
    obtain ⟨-, d0, d1, d2, d3, -, -, -, -, -⟩ := X4.out
    go_wp2_with fail
    refine (SY.out _).mono ?_
    rintro e w6 ⟨rfl, b2⟩
    have S6 := Lib.hid (S4.out.keep b2)
    clear b2 S4 X4 d0 d1 d2 d3
    go_wp2_with fail
    refine (awake9_any _).mono ?_
    rintro e w7 ⟨rfl, b2⟩
    have S7 := Lib.hid (S6.out.keep b2).bx.below
    clear b2
    go_wp2
    go_ret
    exact Ret.mk rfl S7.out

theorem walk_CraterStrikes (W H T : Int) (A : Option Addr) (n c : Nat) (p : Nat → Nat) (Ah : Option Addr) (nh kh : Nat) (h : Nat → Ht) (w : World) (hb : Bs w A n p) (hp : ∀ i, p i < 256) (hn : n ≤ c) (hc : c ≤ maxLen) (hH : Hs w Ah nh h) (hn2 : nh ≤ kh) (hkh : kh ≤ maxLen) :
    Calls Try.prog 4 #[.agg #[.int .i64 W, .int .i64 H, .int .i64 T, .slice A n c], .slice Ah nh kh] w (Ret (.bool true) w) := by
  by_cases hv : Val W H T (fewN n) ∧ ∀ q, q < someN nh → Ok9 (h q)
  · exact strikes_ok W H T A n c p Ah nh kh h w hb hp hn hc hH hn2 hkh hv.1 hv.2
  · exact strikes_bad W H T A n c p Ah nh kh h w hb hp hn hc hH hn2 hkh hv

end Go.Proofs.Ytcneilhhpblclaa
