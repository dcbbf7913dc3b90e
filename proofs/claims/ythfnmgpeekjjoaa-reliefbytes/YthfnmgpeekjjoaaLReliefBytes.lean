/- The walk of the law ReliefBytes. -/
import Derived.Test.YthfnmgpeekjjoaaLRelStart
import Derived.Laws.Concat
namespace Go.Proofs.Ythfnmgpeekjjoaa
open Go.RowKit
set_option linter.unusedVariables false

theorem sb_size (p : Nat → Nat) (n : Nat) : (sb p n).size = n := by
  unfold sb
  rw [strOfNums_size]
  simp
theorem sb_cat (q : Nat → Nat) (m : Nat) (p : Nat → Nat) (n : Nat) : sb (catN q m p) (m + n) = sb q m ++ sb p n := by
  apply ByteArray.ext
  rw [ByteArray.data_append]
  apply Array.toList_inj.1
  rw [Array.toList_append]
  show ((List.range (m + n)).map _).map _ = ((List.range m).map _).map _ ++ ((List.range n).map _).map _
  simp only [List.map_map]
  apply List.ext_getElem?
  intro i
  by_cases h : i < m
  · rw [List.getElem?_append_left (by simpa using h)]
    have h2 : i < m + n := by omega
    simp [h, h2, catN]
  · rw [List.getElem?_append_right (by simp; omega)]
    by_cases h2 : i < m + n
    · have h3 : i - m < n := by omega
      simp [h, h2, h3, catN]
    · rw [List.getElem?_eq_none (by simp; omega), List.getElem?_eq_none (by simp; omega)]

/-- Behind 'if len(b) > 4300 { b = b[:4300] }'. -/
theorem few_is (n : Nat) : (4300 < n → fewN n = 4300) ∧ (¬ 4300 < n → fewN n = n) := by
  unfold fewN
  exact ⟨fun h => if_pos h, fun h => if_neg h⟩

theorem lit_bs (w : World) {W H T : Int} {q : Nat → Nat} (h : [Value.int .u8 W, .int .u8 H, .int .u8 T] = bv q 3) : Bs (w.alloc (.cells #[.int .u8 W, .int .u8 H, .int .u8 T] 5)) (some ⟨w.heap.size, 0, none⟩) 3 q := by
  intro _
  refine ⟨w.heap.size, 0, rfl, by simp, fun i hi => ?_⟩
  rw [Nat.zero_add, cell_new _ _ _ _ _ rfl]
  have e := bv_at q 3 i hi
  rw [← h] at e
  simpa using e

set_option maxHeartbeats 1000000 in
theorem bytes_val_short (W H T : Int) (A : Option Addr) (n c : Nat) (p : Nat → Nat) (B : Option Addr) (nb cb : Nat) (q : Nat → Nat) (w : World) (hb : Bs w A n p) (hp : ∀ i, p i < 256) (hn : n ≤ c) (hc : c ≤ maxLen)
    (hB : Bs w B nb q) (hq : ∀ i, q i < 256) (hnb : nb ≤ cb) (hcb : cb ≤ maxLen) (hv : Val W H T (fewN n)) (hb3 : fewN nb < 3) :
    Calls Try.prog 7 #[.agg #[.int .i64 W, .int .i64 H, .int .i64 T, .slice A n c], .slice B nb cb] w (Ret (.bool true) w) := by
  have HF := Lib.hid (few_any W H T A n c p _ (hb.alloc (.cells #[.int .i64 W, .int .i64 H, .int .i64 T, .slice A n c] 24)) hn hc)
  have HS := Lib.hid (fun w1 => Start.first (w := w) (w1 := w1) (W := W) (H := H) (T := T) (c := c) hb)
  have hN := (fewN_le n).2
  have hN' : fewN n ≤ maxLen := by unfold maxLen; omega
  have HX := Lib.hid (Bx.new w (.int .i64 W) (.int .i64 H) (.int .i64 T) (.slice A n c) 24)
  have HQ0 := Lib.hid hB
  have HQ := Lib.hid (hB.take (fewN_le nb).1)
  have HM := Lib.hid (few_is nb)
  have hM := (fewN_le nb).2
  have hMc : fewN nb ≤ cb := by have := (fewN_le nb).1; omega
  clear hb hp hB
  generalize fewN n = N at *
  generalize fewN nb = M at *
  have C1 := Lib.hid (fun u => refCheck_ok W H T A N c u hN' hv)
  have C2 := Lib.hid (fun u hb => encode_ok W H T A N c p u hb hN' hv)
  have HR := Lib.hid (tri_row hv.s)
  obtain ⟨hW1, hW2, hH1, hH2, hT, hT2⟩ := hv.s
  have u1 : IntKind.u8.wrap W = W := by simp [IntKind.wrap, IntKind.bits, IntKind.signed]; omega
  have u2 : IntKind.u8.wrap H = H := by simp [IntKind.wrap, IntKind.bits, IntKind.signed]; omega
  have u3 : IntKind.u8.wrap T = T := by simp [IntKind.wrap, IntKind.bits, IntKind.signed]; omega
  clear hv
  obtain ⟨s1, es1⟩ : ∃ s, s = sb (tri W H T) 3 := ⟨_, rfl⟩
  obtain ⟨s2, es2⟩ : ∃ s, s = sb p N := ⟨_, rfl⟩
  have HS12 : Hid (sb (catN (tri W H T) 3 p) (3 + N) = s1 ++ s2) := by show _ = _; rw [sb_cat, es1, es2]
  have z1 : s1.size ≤ 8388608 := by rw [es1, sb_size]; omega
  have z2 : s2.size ≤ 8388608 := by rw [es2, sb_size]; omega
  have HS1 := Lib.hid es1
  have HS2 := Lib.hid es2
  clear es1 es2
  generalize tri W H T = tr at *
  have D := Lib.hid (fun u => decode_short B M cb u hb3)
  have C5 := Lib.hid (fun u => same_yes 0 0 0 none none 0 0 0 (fun _ => 0) (fun _ => 0) u (fun h => absurd h (by omega)) (fun h => absurd h (by omega)) (fun _ _ => rfl) (by simp [maxLen]))
  have hb3' : (M : Int) < 3 := by omega
  clear hq
  go_enter Try.func7, Try.ntmps7
  go_wp2_with fail
  refine HF.out.mono ?_
  rintro e w1 ⟨rfl, b1⟩
  have X1 := Lib.hid (HX.out.keep b1)
  have S0 := HS.out _ b1
  clear b1 HX HF HS
  obtain ⟨-, c0, c1, c2, c3, f0, f1, f2, f3, -⟩ := X1.out
  have S1 := Lib.hid S0
  obtain ⟨⟨-, c0, c1, c2, c3, -, -, -, -, -⟩, -⟩ := S0
  go_upto_if 13 with fail
  go_cut [1] (fun s1 wx => s1 = .slice B M cb ∧ Start w wx W H T A N c p)
  case first =>
    by_cases hl : 4300 < nb
    · obtain ⟨g, o, rfl, _, _⟩ := HQ0.out (by omega)
      have hl' : (4300 : Int) < (nb : Int) := by omega
      have hc0 : ¬ cb = 0 := by omega
      have hc1 : (4300 : Int) ≤ (cb : Int) := by omega
      have HE := Lib.hid (HM.out.1 hl)
      go_wp2
      go_meet
      exact ⟨by rw [HE.out], S1.out⟩
    · have hl' : ¬ (4300 : Int) < (nb : Int) := by omega
      have HE := Lib.hid (HM.out.2 hl)
      go_wp2
      go_meet
      exact ⟨by rw [HE.out], S1.out⟩
  case rest =>
    obtain ⟨rfl, hS⟩ := hcut
    clear S1 X1 c0 c1 c2 c3 f0 f1 f2 f3
    rename_i Y
    have S1 := Lib.hid hS
    obtain ⟨⟨-, c0, c1, c2, c3, -, -, -, -, -⟩, -⟩ := hS
    go_wp2_with fail
    refine (C1.out _).mono ?_
    rintro e w2 ⟨rfl, b2⟩
    have S2 := Lib.hid (S1.out.keep b2)
    clear b2 S1 c0 c1 c2 c3
    obtain ⟨⟨-, c0, c1, c2, c3, -, -, -, -, -⟩, -⟩ := S2.out
    have HL := Lib.hid (lit_bs w2 HR.out)
    have S2' := Lib.hid (S2.out.keep ((Below.refl _ _).alloc (Nat.le_refl _) (.cells #[.int .u8 W, .int .u8 H, .int .u8 T] 5)))
    have cv1 := conv_any HL.out 3
    have cv2 := conv_any S2'.out.bs c
    have cc3 := S2'.out.bx.c3
    rw [← HS1.out] at cv1
    rw [← HS2.out] at cv2
    go_wp2_with fail
    clear cv1 cv2 cc3 c0 c1 c2 c3 HL S2
    generalize w2.alloc (.cells #[.int .u8 W, .int .u8 H, .int .u8 T] 5) = w2a at *
    refine (D.out _).mono ?_
    rintro e w3 ⟨rfl, b2⟩
    have S3 := Lib.hid ((S2'.out.keep b2).keep ((Below.refl _ _).alloc (Nat.le_refl _) (.cells #[.int .i64 0, .int .i64 0, .int .i64 0, .slice none 0 0] 24)))
    have XX := Lib.hid (Bx.next (S2'.out.keep b2).bx.below (.int .i64 0) (.int .i64 0) (.int .i64 0) (.slice none 0 0) 24)
    clear b2 S2'
    obtain ⟨⟨-, c0, c1, c2, c3, -, -, -, -, -⟩, -⟩ := S3.out
    go_wp2_with fail
    generalize w3.heap.size = G at *
    generalize w3.alloc (.cells #[.int .i64 0, .int .i64 0, .int .i64 0, .slice none 0 0] 24) = w3a at *
    refine (C2.out _ S3.out.bs).mono ?_
    rintro e w4 ⟨A4, K4, rfl, _, _, hO4, b2⟩
    have cv := conv_any hO4.bs K4
    rw [HS12.out] at cv
    clear hO4
    have S4 := Lib.hid (S3.out.keep b2)
    have X4 := Lib.hid (XX.out.keep b2)
    clear b2 S3 XX c0 c1 c2 c3
    obtain ⟨-, c0, c1, c2, c3, -, -, -, -, -⟩ := X4.out
    go_wp2_with fail
    clear cv
    refine (C5.out _).mono ?_
    rintro e w5 ⟨rfl, b2⟩
    have S5 := Lib.hid (S4.out.keep b2)
    clear b2 S4 X4 c0 c1 c2 c3
    go_wp2_with fail
    refine (awake_any _).mono ?_
    rintro e w9 ⟨rfl, b2⟩
    have S9 := Lib.hid (S5.out.keep b2)
    clear b2
    go_wp2
    go_ret
    exact Ret.mk (by simp) S9.out.bx.below

set_option maxHeartbeats 1000000 in
theorem bytes_val_bad (W H T : Int) (A : Option Addr) (n c : Nat) (p : Nat → Nat) (B : Option Addr) (nb cb : Nat) (q : Nat → Nat) (w : World) (hb : Bs w A n p) (hp : ∀ i, p i < 256) (hn : n ≤ c) (hc : c ≤ maxLen)
    (hB : Bs w B nb q) (hq : ∀ i, q i < 256) (hnb : nb ≤ cb) (hcb : cb ≤ maxLen) (hv : Val W H T (fewN n)) (hb3 : 3 ≤ fewN nb) (hbv : ¬ Val (q 0) (q 1) (q 2) (fewN nb - 3)) :
    Calls Try.prog 7 #[.agg #[.int .i64 W, .int .i64 H, .int .i64 T, .slice A n c], .slice B nb cb] w (Ret (.bool true) w) := by
  have HF := Lib.hid (few_any W H T A n c p _ (hb.alloc (.cells #[.int .i64 W, .int .i64 H, .int .i64 T, .slice A n c] 24)) hn hc)
  have HS := Lib.hid (fun w1 => Start.first (w := w) (w1 := w1) (W := W) (H := H) (T := T) (c := c) hb)
  have hN := (fewN_le n).2
  have hN' : fewN n ≤ maxLen := by unfold maxLen; omega
  have HX := Lib.hid (Bx.new w (.int .i64 W) (.int .i64 H) (.int .i64 T) (.slice A n c) 24)
  have HQ0 := Lib.hid hB
  have HQ := Lib.hid (hB.take (fewN_le nb).1)
  have HM := Lib.hid (few_is nb)
  have hM := (fewN_le nb).2
  have hMc : fewN nb ≤ cb := by have := (fewN_le nb).1; omega
  clear hb hp hB
  generalize fewN n = N at *
  generalize fewN nb = M at *
  have C1 := Lib.hid (fun u => refCheck_ok W H T A N c u hN' hv)
  have C2 := Lib.hid (fun u hb => encode_ok W H T A N c p u hb hN' hv)
  have HR := Lib.hid (tri_row hv.s)
  obtain ⟨hW1, hW2, hH1, hH2, hT, hT2⟩ := hv.s
  have u1 : IntKind.u8.wrap W = W := by simp [IntKind.wrap, IntKind.bits, IntKind.signed]; omega
  have u2 : IntKind.u8.wrap H = H := by simp [IntKind.wrap, IntKind.bits, IntKind.signed]; omega
  have u3 : IntKind.u8.wrap T = T := by simp [IntKind.wrap, IntKind.bits, IntKind.signed]; omega
  clear hv
  obtain ⟨s1, es1⟩ : ∃ s, s = sb (tri W H T) 3 := ⟨_, rfl⟩
  obtain ⟨s2, es2⟩ : ∃ s, s = sb p N := ⟨_, rfl⟩
  have HS12 : Hid (sb (catN (tri W H T) 3 p) (3 + N) = s1 ++ s2) := by show _ = _; rw [sb_cat, es1, es2]
  have z1 : s1.size ≤ 8388608 := by rw [es1, sb_size]; omega
  have z2 : s2.size ≤ 8388608 := by rw [es2, sb_size]; omega
  have HS1 := Lib.hid es1
  have HS2 := Lib.hid es2
  clear es1 es2
  generalize tri W H T = tr at *
  have OF := Lib.hid (fun u hb => of_any B M cb q u hb hq hb3 hM hMc hcb)
  have hb3' : ¬ (M : Int) < 3 := by omega
  have D := Lib.hid (fun u hb => decode_bad B M cb q u hb hq hb3 hMc hcb hbv)
  have RC := Lib.hid (fun u A' K' => refCheck_any (q 0) (q 1) (q 2) A' (M - 3) K' u (by unfold maxLen; omega))
  have C5 := Lib.hid (fun u => same_yes 0 0 0 none none 0 0 0 (fun _ => 0) (fun _ => 0) u (fun h => absurd h (by omega)) (fun h => absurd h (by omega)) (fun _ _ => rfl) (by simp [maxLen]))
  obtain ⟨kb, ekb⟩ : ∃ k, chk (q 0) (q 1) (q 2) (M - 3) = k := ⟨_, rfl⟩
  obtain ⟨kb1, kb2⟩ := chk_bad hbv
  rw [ekb] at D RC kb1 kb2
  have hkb : (kb != 0) = true := by simp; omega
  have hkk : (kb == kb) = true := by simp
  clear hbv ekb
  clear hq
  obtain ⟨q3, eq3⟩ : ∃ f, (fun i => q (3 + i)) = f := ⟨_, rfl⟩
  rw [eq3] at OF
  clear eq3
  generalize ((q 0 : Nat) : Int) = v0 at *
  generalize ((q 1 : Nat) : Int) = v1 at *
  generalize ((q 2 : Nat) : Int) = v2 at *
  obtain ⟨M3, eM3⟩ : ∃ m, M - 3 = m := ⟨_, rfl⟩
  rw [eM3] at OF RC
  clear eM3
  go_enter Try.func7, Try.ntmps7
  go_wp2_with fail
  refine HF.out.mono ?_
  rintro e w1 ⟨rfl, b1⟩
  have X1 := Lib.hid (HX.out.keep b1)
  have S0 := HS.out _ b1
  clear b1 HX HF HS
  obtain ⟨-, c0, c1, c2, c3, f0, f1, f2, f3, -⟩ := X1.out
  have S1 := Lib.hid S0
  obtain ⟨⟨-, c0, c1, c2, c3, -, -, -, -, -⟩, -⟩ := S0
  go_upto_if 13 with fail
  go_cut [1] (fun s1 wx => s1 = .slice B M cb ∧ Start w wx W H T A N c p)
  case first =>
    by_cases hl : 4300 < nb
    · obtain ⟨g, o, rfl, _, _⟩ := HQ0.out (by omega)
      have hl' : (4300 : Int) < (nb : Int) := by omega
      have hc0 : ¬ cb = 0 := by omega
      have hc1 : (4300 : Int) ≤ (cb : Int) := by omega
      have HE := Lib.hid (HM.out.1 hl)
      go_wp2
      go_meet
      exact ⟨by rw [HE.out], S1.out⟩
    · have hl' : ¬ (4300 : Int) < (nb : Int) := by omega
      have HE := Lib.hid (HM.out.2 hl)
      go_wp2
      go_meet
      exact ⟨by rw [HE.out], S1.out⟩
  case rest =>
    obtain ⟨rfl, hS⟩ := hcut
    clear S1 X1 c0 c1 c2 c3 f0 f1 f2 f3
    rename_i Y
    have S1 := Lib.hid hS
    obtain ⟨⟨-, c0, c1, c2, c3, -, -, -, -, -⟩, -⟩ := hS
    go_wp2_with fail
    refine (C1.out _).mono ?_
    rintro e w2 ⟨rfl, b2⟩
    have S2 := Lib.hid (S1.out.keep b2)
    clear b2 S1 c0 c1 c2 c3
    obtain ⟨⟨-, c0, c1, c2, c3, -, -, -, -, -⟩, -⟩ := S2.out
    have HL := Lib.hid (lit_bs w2 HR.out)
    have S2' := Lib.hid (S2.out.keep ((Below.refl _ _).alloc (Nat.le_refl _) (.cells #[.int .u8 W, .int .u8 H, .int .u8 T] 5)))
    have cv1 := conv_any HL.out 3
    have cv2 := conv_any S2'.out.bs c
    have cc3 := S2'.out.bx.c3
    rw [← HS1.out] at cv1
    rw [← HS2.out] at cv2
    go_wp2_with fail
    clear cv1 cv2 cc3 c0 c1 c2 c3 HL S2
    generalize w2.alloc (.cells #[.int .u8 W, .int .u8 H, .int .u8 T] 5) = w2a at *
    refine (D.out _ (HQ.out.keep S2'.out.bx.below)).mono ?_
    rintro e w3 ⟨rfl, b2⟩
    have S3 := Lib.hid ((S2'.out.keep b2).keep ((Below.refl _ _).alloc (Nat.le_refl _) (.cells #[.int .i64 0, .int .i64 0, .int .i64 0, .slice none 0 0] 24)))
    have XX := Lib.hid (Bx.next (S2'.out.keep b2).bx.below (.int .i64 0) (.int .i64 0) (.int .i64 0) (.slice none 0 0) 24)
    clear b2 S2'
    obtain ⟨⟨-, c0, c1, c2, c3, -, -, -, -, -⟩, -⟩ := S3.out
    go_wp2_with fail
    generalize w3.heap.size = G at *
    generalize w3.alloc (.cells #[.int .i64 0, .int .i64 0, .int .i64 0, .slice none 0 0] 24) = w3a at *
    refine (C2.out _ S3.out.bs).mono ?_
    rintro e w4 ⟨A4, K4, rfl, _, _, hO4, b2⟩
    have cv := conv_any hO4.bs K4
    rw [HS12.out] at cv
    clear hO4
    have S4 := Lib.hid (S3.out.keep b2)
    have X4 := Lib.hid (XX.out.keep b2)
    clear b2 S3 XX c0 c1 c2 c3
    obtain ⟨-, c0, c1, c2, c3, -, -, -, -, -⟩ := X4.out
    go_upto_region 12 with fail
    clear cv
    go_wp2_with fail
    refine (OF.out _ (HQ.out.keep S4.out.bx.below)).mono ?_
    rintro e w5 ⟨A5, K5, rfl, h51, h52, hO5, b2⟩
    have S5 := Lib.hid (S4.out.keep b2)
    have X5 := Lib.hid (X4.out.keep b2)
    clear b2 S4 X4 c0 c1 c2 c3 hO5
    go_wp2_with fail
    refine (RC.out _ _ _).mono ?_
    rintro e w6 ⟨rfl, b2⟩
    have S6 := Lib.hid (S5.out.keep b2)
    have X6 := Lib.hid (X5.out.keep b2)
    clear b2 S5 X5
    obtain ⟨-, c0, c1, c2, c3, -, -, -, -, -⟩ := X6.out
    go_wp2_with fail
    refine (C5.out _).mono ?_
    rintro e w7 ⟨rfl, b2⟩
    have S7 := Lib.hid (S6.out.keep b2)
    clear b2 S6 X6 c0 c1 c2 c3
    go_wp2_with fail
    refine (awake_any _).mono ?_
    rintro e w9 ⟨rfl, b2⟩
    have S9 := Lib.hid (S7.out.keep b2)
    clear b2
    go_wp2
    go_ret
    exact Ret.mk (by simp) S9.out.bx.below

set_option maxHeartbeats 1000000 in
theorem bytes_val_ok (W H T : Int) (A : Option Addr) (n c : Nat) (p : Nat → Nat) (B : Option Addr) (nb cb : Nat) (q : Nat → Nat) (w : World) (hb : Bs w A n p) (hp : ∀ i, p i < 256) (hn : n ≤ c) (hc : c ≤ maxLen)
    (hB : Bs w B nb q) (hq : ∀ i, q i < 256) (hnb : nb ≤ cb) (hcb : cb ≤ maxLen) (hv : Val W H T (fewN n)) (hb3 : 3 ≤ fewN nb) (hbv : Val (q 0) (q 1) (q 2) (fewN nb - 3)) :
    Calls Try.prog 7 #[.agg #[.int .i64 W, .int .i64 H, .int .i64 T, .slice A n c], .slice B nb cb] w (Ret (.bool true) w) := by
  have HF := Lib.hid (few_any W H T A n c p _ (hb.alloc (.cells #[.int .i64 W, .int .i64 H, .int .i64 T, .slice A n c] 24)) hn hc)
  have HS := Lib.hid (fun w1 => Start.first (w := w) (w1 := w1) (W := W) (H := H) (T := T) (c := c) hb)
  have hN := (fewN_le n).2
  have hN' : fewN n ≤ maxLen := by unfold maxLen; omega
  have HX := Lib.hid (Bx.new w (.int .i64 W) (.int .i64 H) (.int .i64 T) (.slice A n c) 24)
  have HQ0 := Lib.hid hB
  have HQ := Lib.hid (hB.take (fewN_le nb).1)
  have HM := Lib.hid (few_is nb)
  have hM := (fewN_le nb).2
  have hMc : fewN nb ≤ cb := by have := (fewN_le nb).1; omega
  clear hb hp hB
  generalize fewN n = N at *
  generalize fewN nb = M at *
  have C1 := Lib.hid (fun u => refCheck_ok W H T A N c u hN' hv)
  have C2 := Lib.hid (fun u hb => encode_ok W H T A N c p u hb hN' hv)
  have HR := Lib.hid (tri_row hv.s)
  obtain ⟨hW1, hW2, hH1, hH2, hT, hT2⟩ := hv.s
  have u1 : IntKind.u8.wrap W = W := by simp [IntKind.wrap, IntKind.bits, IntKind.signed]; omega
  have u2 : IntKind.u8.wrap H = H := by simp [IntKind.wrap, IntKind.bits, IntKind.signed]; omega
  have u3 : IntKind.u8.wrap T = T := by simp [IntKind.wrap, IntKind.bits, IntKind.signed]; omega
  clear hv
  obtain ⟨s1, es1⟩ : ∃ s, s = sb (tri W H T) 3 := ⟨_, rfl⟩
  obtain ⟨s2, es2⟩ : ∃ s, s = sb p N := ⟨_, rfl⟩
  have HS12 : Hid (sb (catN (tri W H T) 3 p) (3 + N) = s1 ++ s2) := by show _ = _; rw [sb_cat, es1, es2]
  have z1 : s1.size ≤ 8388608 := by rw [es1, sb_size]; omega
  have z2 : s2.size ≤ 8388608 := by rw [es2, sb_size]; omega
  have HS1 := Lib.hid es1
  have HS2 := Lib.hid es2
  clear es1 es2
  generalize tri W H T = tr at *
  have OF := Lib.hid (fun u hb => of_any B M cb q u hb hq hb3 hM hMc hcb)
  have hb3' : ¬ (M : Int) < 3 := by omega
  have D := Lib.hid (fun u hb => decode_ok B M cb q u hb hq hb3 hMc hcb hbv)
  have RC := Lib.hid (fun u A' K' => refCheck_ok (q 0) (q 1) (q 2) A' (M - 3) K' u (by unfold maxLen; omega) hbv)
  have hM3 : M - 3 ≤ maxLen := by unfold maxLen; omega
  clear hbv
  clear hq
  obtain ⟨q3, eq3⟩ : ∃ f, (fun i => q (3 + i)) = f := ⟨_, rfl⟩
  rw [eq3] at OF D
  clear eq3
  generalize ((q 0 : Nat) : Int) = v0 at *
  generalize ((q 1 : Nat) : Int) = v1 at *
  generalize ((q 2 : Nat) : Int) = v2 at *
  obtain ⟨M3, eM3⟩ : ∃ m, M - 3 = m := ⟨_, rfl⟩
  rw [eM3] at OF RC D hM3
  clear eM3
  go_enter Try.func7, Try.ntmps7
  go_wp2_with fail
  refine HF.out.mono ?_
  rintro e w1 ⟨rfl, b1⟩
  have X1 := Lib.hid (HX.out.keep b1)
  have S0 := HS.out _ b1
  clear b1 HX HF HS
  obtain ⟨-, c0, c1, c2, c3, f0, f1, f2, f3, -⟩ := X1.out
  have S1 := Lib.hid S0
  obtain ⟨⟨-, c0, c1, c2, c3, -, -, -, -, -⟩, -⟩ := S0
  go_upto_if 13 with fail
  go_cut [1] (fun s1 wx => s1 = .slice B M cb ∧ Start w wx W H T A N c p)
  case first =>
    by_cases hl : 4300 < nb
    · obtain ⟨g, o, rfl, _, _⟩ := HQ0.out (by omega)
      have hl' : (4300 : Int) < (nb : Int) := by omega
      have hc0 : ¬ cb = 0 := by omega
      have hc1 : (4300 : Int) ≤ (cb : Int) := by omega
      have HE := Lib.hid (HM.out.1 hl)
      go_wp2
      go_meet
      exact ⟨by rw [HE.out], S1.out⟩
    · have hl' : ¬ (4300 : Int) < (nb : Int) := by omega
      have HE := Lib.hid (HM.out.2 hl)
      go_wp2
      go_meet
      exact ⟨by rw [HE.out], S1.out⟩
  case rest =>
    obtain ⟨rfl, hS⟩ := hcut
    clear S1 X1 c0 c1 c2 c3 f0 f1 f2 f3
    rename_i Y
    have S1 := Lib.hid hS
    obtain ⟨⟨-, c0, c1, c2, c3, -, -, -, -, -⟩, -⟩ := hS
    go_wp2_with fail
    refine (C1.out _).mono ?_
    rintro e w2 ⟨rfl, b2⟩
    have S2 := Lib.hid (S1.out.keep b2)
    clear b2 S1 c0 c1 c2 c3
    obtain ⟨⟨-, c0, c1, c2, c3, -, -, -, -, -⟩, -⟩ := S2.out
    have HL := Lib.hid (lit_bs w2 HR.out)
    have S2' := Lib.hid (S2.out.keep ((Below.refl _ _).alloc (Nat.le_refl _) (.cells #[.int .u8 W, .int .u8 H, .int .u8 T] 5)))
    have cv1 := conv_any HL.out 3
    have cv2 := conv_any S2'.out.bs c
    have cc3 := S2'.out.bx.c3
    rw [← HS1.out] at cv1
    rw [← HS2.out] at cv2
    go_wp2_with fail
    clear cv1 cv2 cc3 c0 c1 c2 c3 HL S2
    generalize w2.alloc (.cells #[.int .u8 W, .int .u8 H, .int .u8 T] 5) = w2a at *
    refine (D.out _ (HQ.out.keep S2'.out.bx.below)).mono ?_
    rintro e w3 ⟨A3, K3, rfl, hK1, hK2, hO, b2⟩
    have S3 := Lib.hid ((S2'.out.keep b2).keep ((Below.refl _ _).alloc (Nat.le_refl _) (.cells #[.int .i64 v0, .int .i64 v1, .int .i64 v2, .slice A3 M3 K3] 24)))
    have XX := Lib.hid (Bx.next (S2'.out.keep b2).bx.below (.int .i64 v0) (.int .i64 v1) (.int .i64 v2) (.slice A3 M3 K3) 24)
    have HO := Lib.hid (hO.bs.alloc (.cells #[.int .i64 v0, .int .i64 v1, .int .i64 v2, .slice A3 M3 K3] 24))
    have HK := Lib.hid (And.intro hK1 hK2)
    clear hO hK1 hK2
    clear b2 S2'
    obtain ⟨⟨-, c0, c1, c2, c3, -, -, -, -, -⟩, -⟩ := S3.out
    go_wp2_with fail
    generalize w3.heap.size = G at *
    generalize w3.alloc (.cells #[.int .i64 v0, .int .i64 v1, .int .i64 v2, .slice A3 M3 K3] 24) = w3a at *
    refine (C2.out _ S3.out.bs).mono ?_
    rintro e w4 ⟨A4, K4, rfl, _, _, hO4, b2⟩
    have cv := conv_any hO4.bs K4
    rw [HS12.out] at cv
    clear hO4
    have S4 := Lib.hid (S3.out.keep b2)
    have X4 := Lib.hid (XX.out.keep b2)
    have HO4 := Lib.hid (HO.out.keep b2)
    clear HO
    clear b2 S3 XX c0 c1 c2 c3
    obtain ⟨-, c0, c1, c2, c3, -, -, -, -, -⟩ := X4.out
    go_upto_region 12 with fail
    clear cv
    go_wp2_with fail
    refine (OF.out _ (HQ.out.keep S4.out.bx.below)).mono ?_
    rintro e w5 ⟨A5, K5, rfl, h51, h52, hO5, b2⟩
    have S5 := Lib.hid (S4.out.keep b2)
    have X5 := Lib.hid (X4.out.keep b2)
    have HO5 := Lib.hid (HO4.out.keep b2)
    clear HO4
    clear b2 S4 X4 c0 c1 c2 c3 hO5
    go_wp2_with fail
    refine (RC.out _ _ _).mono ?_
    rintro e w6 ⟨rfl, b2⟩
    have S6 := Lib.hid (S5.out.keep b2)
    have X6 := Lib.hid (X5.out.keep b2)
    have HO6 := Lib.hid (HO5.out.keep b2)
    clear HO5
    clear b2 S5 X5
    obtain ⟨-, c0, c1, c2, c3, -, -, -, -, -⟩ := X6.out
    go_wp2_with fail
    go_region_held3 (fun w' => w'.cell? ⟨G, 0, none⟩ = some (.int .i64 v0) ∧ w'.cell? ⟨G, 1, none⟩ = some (.int .i64 v1) ∧ w'.cell? ⟨G, 2, none⟩ = some (.int .i64 v2) ∧ w'.cell? ⟨G, 3, none⟩ = some (.slice A3 M3 K3))
      (go_keep)
      (first
        | (go_at_call 25; ((with_reducible refine (OF.out w6.drew (HQ.out.keep S6.out.bx.below.drew)).mono ?_)); rintro e w7 ⟨A7, K7, rfl, h71, h72, hO7, b7⟩; have S7 := Lib.hid ((S6.out.keep ((Below.refl _ _).drew)).keep b7); have X7 := Lib.hid (X6.out.drew.keep b7); have HO7 := Lib.hid (HO6.out.keep ((Below.refl _ _).drew.trans b7)); have HP7 := Lib.hid hO7.bs; clear b7 hO7; obtain ⟨-, c0, c1, c2, c3, -, -, -, -, -⟩ := X7.out)
        | (go_at_call 24; ((with_reducible refine (same_yes v0 v1 v2 A3 A7 M3 K3 K7 q3 q3 w7 HO7.out HP7.out (fun _ _ => rfl) hM3).mono ?_)); rintro e w8 ⟨rfl, b8⟩; have S8 := Lib.hid (S7.out.keep b8); have X8 := Lib.hid (X7.out.keep b8); clear b8; obtain ⟨-, c0, c1, c2, c3, -, -, -, -, -⟩ := X8.out)
        | (go_at_call 14; ((with_reducible refine (awake_any w8).mono ?_)); rintro e w9 ⟨rfl, b9⟩; have S9 := Lib.hid (S8.out.keep b9); have X9 := Lib.hid (X8.out.keep b9); clear b9; obtain ⟨-, c0, c1, c2, c3, -, -, -, -, -⟩ := X9.out))
    go_wp2
    go_ret
    exact Ret.mk (by simp) S9.out.bx.below

set_option maxHeartbeats 1000000 in
theorem bytes_bad_short (W H T : Int) (A : Option Addr) (n c : Nat) (p : Nat → Nat) (B : Option Addr) (nb cb : Nat) (q : Nat → Nat) (w : World) (hb : Bs w A n p) (hp : ∀ i, p i < 256) (hn : n ≤ c) (hc : c ≤ maxLen)
    (hB : Bs w B nb q) (hq : ∀ i, q i < 256) (hnb : nb ≤ cb) (hcb : cb ≤ maxLen) (hv : ¬ Val W H T (fewN n)) (hb3 : fewN nb < 3) :
    Calls Try.prog 7 #[.agg #[.int .i64 W, .int .i64 H, .int .i64 T, .slice A n c], .slice B nb cb] w (Ret (.bool true) w) := by
  have HF := Lib.hid (few_any W H T A n c p _ (hb.alloc (.cells #[.int .i64 W, .int .i64 H, .int .i64 T, .slice A n c] 24)) hn hc)
  have HS := Lib.hid (fun w1 => Start.first (w := w) (w1 := w1) (W := W) (H := H) (T := T) (c := c) hb)
  have hN := (fewN_le n).2
  have hN' : fewN n ≤ maxLen := by unfold maxLen; omega
  have HX := Lib.hid (Bx.new w (.int .i64 W) (.int .i64 H) (.int .i64 T) (.slice A n c) 24)
  have HQ0 := Lib.hid hB
  have HQ := Lib.hid (hB.take (fewN_le nb).1)
  have HM := Lib.hid (few_is nb)
  have hM := (fewN_le nb).2
  have hMc : fewN nb ≤ cb := by have := (fewN_le nb).1; omega
  clear hb hp hB
  generalize fewN n = N at *
  generalize fewN nb = M at *
  obtain ⟨k, ek⟩ : ∃ k, chk W H T N = k := ⟨_, rfl⟩
  have C1 := Lib.hid (fun u => refCheck_any W H T A N c u hN')
  have C2 := Lib.hid (fun u => encode_bad W H T A N c u hN' hv)
  obtain ⟨k1, k2⟩ := chk_bad hv
  rw [ek] at C1 k1 k2
  have hk : (k == 0) = false := by simp; omega
  clear hv ek
  have D := Lib.hid (fun u => decode_short B M cb u hb3)
  have C5 := Lib.hid (fun u => same_yes 0 0 0 none none 0 0 0 (fun _ => 0) (fun _ => 0) u (fun h => absurd h (by omega)) (fun h => absurd h (by omega)) (fun _ _ => rfl) (by simp [maxLen]))
  have hb3' : (M : Int) < 3 := by omega
  clear hq
  go_enter Try.func7, Try.ntmps7
  go_wp2_with fail
  refine HF.out.mono ?_
  rintro e w1 ⟨rfl, b1⟩
  have X1 := Lib.hid (HX.out.keep b1)
  have S0 := HS.out _ b1
  clear b1 HX HF HS
  obtain ⟨-, c0, c1, c2, c3, f0, f1, f2, f3, -⟩ := X1.out
  have S1 := Lib.hid S0
  obtain ⟨⟨-, c0, c1, c2, c3, -, -, -, -, -⟩, -⟩ := S0
  go_upto_if 13 with fail
  go_cut [1] (fun s1 wx => s1 = .slice B M cb ∧ Start w wx W H T A N c p)
  case first =>
    by_cases hl : 4300 < nb
    · obtain ⟨g, o, rfl, _, _⟩ := HQ0.out (by omega)
      have hl' : (4300 : Int) < (nb : Int) := by omega
      have hc0 : ¬ cb = 0 := by omega
      have hc1 : (4300 : Int) ≤ (cb : Int) := by omega
      have HE := Lib.hid (HM.out.1 hl)
      go_wp2
      go_meet
      exact ⟨by rw [HE.out], S1.out⟩
    · have hl' : ¬ (4300 : Int) < (nb : Int) := by omega
      have HE := Lib.hid (HM.out.2 hl)
      go_wp2
      go_meet
      exact ⟨by rw [HE.out], S1.out⟩
  case rest =>
    obtain ⟨rfl, hS⟩ := hcut
    clear S1 X1 c0 c1 c2 c3 f0 f1 f2 f3
    rename_i Y
    have S1 := Lib.hid hS
    obtain ⟨⟨-, c0, c1, c2, c3, -, -, -, -, -⟩, -⟩ := hS
    go_wp2_with fail
    refine (C1.out _).mono ?_
    rintro e w2 ⟨rfl, b2⟩
    have S2 := Lib.hid (S1.out.keep b2)
    clear b2 S1 c0 c1 c2 c3
    obtain ⟨⟨-, c0, c1, c2, c3, -, -, -, -, -⟩, -⟩ := S2.out
    go_wp2_with fail
    clear c0 c1 c2 c3
    refine (D.out _).mono ?_
    rintro e w3 ⟨rfl, b2⟩
    have S3 := Lib.hid ((S2.out.keep b2).keep ((Below.refl _ _).alloc (Nat.le_refl _) (.cells #[.int .i64 0, .int .i64 0, .int .i64 0, .slice none 0 0] 24)))
    have XX := Lib.hid (Bx.next (S2.out.keep b2).bx.below (.int .i64 0) (.int .i64 0) (.int .i64 0) (.slice none 0 0) 24)
    clear b2 S2
    obtain ⟨⟨-, c0, c1, c2, c3, -, -, -, -, -⟩, -⟩ := S3.out
    go_wp2_with fail
    generalize w3.heap.size = G at *
    generalize w3.alloc (.cells #[.int .i64 0, .int .i64 0, .int .i64 0, .slice none 0 0] 24) = w3a at *
    refine (C2.out _).mono ?_
    rintro e w4 ⟨rfl, b2⟩
    have cv : (convert 22 9 (.slice none 0 0)).run Try.prog w4 = .ok (.string { data := #[] }) w4 := conv_any (fun h => absurd h (by omega)) 0 (p := fun _ => 0) (A := none) (n := 0)
    have S4 := Lib.hid (S3.out.keep b2)
    have X4 := Lib.hid (XX.out.keep b2)
    clear b2 S3 XX c0 c1 c2 c3
    obtain ⟨-, c0, c1, c2, c3, -, -, -, -, -⟩ := X4.out
    go_wp2_with fail
    clear cv
    refine (C5.out _).mono ?_
    rintro e w5 ⟨rfl, b2⟩
    have S5 := Lib.hid (S4.out.keep b2)
    clear b2 S4 X4 c0 c1 c2 c3
    go_wp2_with fail
    refine (awake_any _).mono ?_
    rintro e w9 ⟨rfl, b2⟩
    have S9 := Lib.hid (S5.out.keep b2)
    clear b2
    go_wp2
    go_ret
    exact Ret.mk (by simp) S9.out.bx.below

set_option maxHeartbeats 1000000 in
theorem bytes_bad_bad (W H T : Int) (A : Option Addr) (n c : Nat) (p : Nat → Nat) (B : Option Addr) (nb cb : Nat) (q : Nat → Nat) (w : World) (hb : Bs w A n p) (hp : ∀ i, p i < 256) (hn : n ≤ c) (hc : c ≤ maxLen)
    (hB : Bs w B nb q) (hq : ∀ i, q i < 256) (hnb : nb ≤ cb) (hcb : cb ≤ maxLen) (hv : ¬ Val W H T (fewN n)) (hb3 : 3 ≤ fewN nb) (hbv : ¬ Val (q 0) (q 1) (q 2) (fewN nb - 3)) :
    Calls Try.prog 7 #[.agg #[.int .i64 W, .int .i64 H, .int .i64 T, .slice A n c], .slice B nb cb] w (Ret (.bool true) w) := by
  have HF := Lib.hid (few_any W H T A n c p _ (hb.alloc (.cells #[.int .i64 W, .int .i64 H, .int .i64 T, .slice A n c] 24)) hn hc)
  have HS := Lib.hid (fun w1 => Start.first (w := w) (w1 := w1) (W := W) (H := H) (T := T) (c := c) hb)
  have hN := (fewN_le n).2
  have hN' : fewN n ≤ maxLen := by unfold maxLen; omega
  have HX := Lib.hid (Bx.new w (.int .i64 W) (.int .i64 H) (.int .i64 T) (.slice A n c) 24)
  have HQ0 := Lib.hid hB
  have HQ := Lib.hid (hB.take (fewN_le nb).1)
  have HM := Lib.hid (few_is nb)
  have hM := (fewN_le nb).2
  have hMc : fewN nb ≤ cb := by have := (fewN_le nb).1; omega
  clear hb hp hB
  generalize fewN n = N at *
  generalize fewN nb = M at *
  obtain ⟨k, ek⟩ : ∃ k, chk W H T N = k := ⟨_, rfl⟩
  have C1 := Lib.hid (fun u => refCheck_any W H T A N c u hN')
  have C2 := Lib.hid (fun u => encode_bad W H T A N c u hN' hv)
  obtain ⟨k1, k2⟩ := chk_bad hv
  rw [ek] at C1 k1 k2
  have hk : (k == 0) = false := by simp; omega
  clear hv ek
  have OF := Lib.hid (fun u hb => of_any B M cb q u hb hq hb3 hM hMc hcb)
  have hb3' : ¬ (M : Int) < 3 := by omega
  have D := Lib.hid (fun u hb => decode_bad B M cb q u hb hq hb3 hMc hcb hbv)
  have RC := Lib.hid (fun u A' K' => refCheck_any (q 0) (q 1) (q 2) A' (M - 3) K' u (by unfold maxLen; omega))
  have C5 := Lib.hid (fun u => same_yes 0 0 0 none none 0 0 0 (fun _ => 0) (fun _ => 0) u (fun h => absurd h (by omega)) (fun h => absurd h (by omega)) (fun _ _ => rfl) (by simp [maxLen]))
  obtain ⟨kb, ekb⟩ : ∃ k, chk (q 0) (q 1) (q 2) (M - 3) = k := ⟨_, rfl⟩
  obtain ⟨kb1, kb2⟩ := chk_bad hbv
  rw [ekb] at D RC kb1 kb2
  have hkb : (kb != 0) = true := by simp; omega
  have hkk : (kb == kb) = true := by simp
  clear hbv ekb
  clear hq
  obtain ⟨q3, eq3⟩ : ∃ f, (fun i => q (3 + i)) = f := ⟨_, rfl⟩
  rw [eq3] at OF
  clear eq3
  generalize ((q 0 : Nat) : Int) = v0 at *
  generalize ((q 1 : Nat) : Int) = v1 at *
  generalize ((q 2 : Nat) : Int) = v2 at *
  obtain ⟨M3, eM3⟩ : ∃ m, M - 3 = m := ⟨_, rfl⟩
  rw [eM3] at OF RC
  clear eM3
  go_enter Try.func7, Try.ntmps7
  go_wp2_with fail
  refine HF.out.mono ?_
  rintro e w1 ⟨rfl, b1⟩
  have X1 := Lib.hid (HX.out.keep b1)
  have S0 := HS.out _ b1
  clear b1 HX HF HS
  obtain ⟨-, c0, c1, c2, c3, f0, f1, f2, f3, -⟩ := X1.out
  have S1 := Lib.hid S0
  obtain ⟨⟨-, c0, c1, c2, c3, -, -, -, -, -⟩, -⟩ := S0
  go_upto_if 13 with fail
  go_cut [1] (fun s1 wx => s1 = .slice B M cb ∧ Start w wx W H T A N c p)
  case first =>
    by_cases hl : 4300 < nb
    · obtain ⟨g, o, rfl, _, _⟩ := HQ0.out (by omega)
      have hl' : (4300 : Int) < (nb : Int) := by omega
      have hc0 : ¬ cb = 0 := by omega
      have hc1 : (4300 : Int) ≤ (cb : Int) := by omega
      have HE := Lib.hid (HM.out.1 hl)
      go_wp2
      go_meet
      exact ⟨by rw [HE.out], S1.out⟩
    · have hl' : ¬ (4300 : Int) < (nb : Int) := by omega
      have HE := Lib.hid (HM.out.2 hl)
      go_wp2
      go_meet
      exact ⟨by rw [HE.out], S1.out⟩
  case rest =>
    obtain ⟨rfl, hS⟩ := hcut
    clear S1 X1 c0 c1 c2 c3 f0 f1 f2 f3
    rename_i Y
    have S1 := Lib.hid hS
    obtain ⟨⟨-, c0, c1, c2, c3, -, -, -, -, -⟩, -⟩ := hS
    go_wp2_with fail
    refine (C1.out _).mono ?_
    rintro e w2 ⟨rfl, b2⟩
    have S2 := Lib.hid (S1.out.keep b2)
    clear b2 S1 c0 c1 c2 c3
    obtain ⟨⟨-, c0, c1, c2, c3, -, -, -, -, -⟩, -⟩ := S2.out
    go_wp2_with fail
    clear c0 c1 c2 c3
    refine (D.out _ (HQ.out.keep S2.out.bx.below)).mono ?_
    rintro e w3 ⟨rfl, b2⟩
    have S3 := Lib.hid ((S2.out.keep b2).keep ((Below.refl _ _).alloc (Nat.le_refl _) (.cells #[.int .i64 0, .int .i64 0, .int .i64 0, .slice none 0 0] 24)))
    have XX := Lib.hid (Bx.next (S2.out.keep b2).bx.below (.int .i64 0) (.int .i64 0) (.int .i64 0) (.slice none 0 0) 24)
    clear b2 S2
    obtain ⟨⟨-, c0, c1, c2, c3, -, -, -, -, -⟩, -⟩ := S3.out
    go_wp2_with fail
    generalize w3.heap.size = G at *
    generalize w3.alloc (.cells #[.int .i64 0, .int .i64 0, .int .i64 0, .slice none 0 0] 24) = w3a at *
    refine (C2.out _).mono ?_
    rintro e w4 ⟨rfl, b2⟩
    have cv : (convert 22 9 (.slice none 0 0)).run Try.prog w4 = .ok (.string { data := #[] }) w4 := conv_any (fun h => absurd h (by omega)) 0 (p := fun _ => 0) (A := none) (n := 0)
    have S4 := Lib.hid (S3.out.keep b2)
    have X4 := Lib.hid (XX.out.keep b2)
    clear b2 S3 XX c0 c1 c2 c3
    obtain ⟨-, c0, c1, c2, c3, -, -, -, -, -⟩ := X4.out
    go_upto_region 12 with fail
    clear cv
    go_wp2_with fail
    refine (OF.out _ (HQ.out.keep S4.out.bx.below)).mono ?_
    rintro e w5 ⟨A5, K5, rfl, h51, h52, hO5, b2⟩
    have S5 := Lib.hid (S4.out.keep b2)
    have X5 := Lib.hid (X4.out.keep b2)
    clear b2 S4 X4 c0 c1 c2 c3 hO5
    go_wp2_with fail
    refine (RC.out _ _ _).mono ?_
    rintro e w6 ⟨rfl, b2⟩
    have S6 := Lib.hid (S5.out.keep b2)
    have X6 := Lib.hid (X5.out.keep b2)
    clear b2 S5 X5
    obtain ⟨-, c0, c1, c2, c3, -, -, -, -, -⟩ := X6.out
    go_wp2_with fail
    refine (C5.out _).mono ?_
    rintro e w7 ⟨rfl, b2⟩
    have S7 := Lib.hid (S6.out.keep b2)
    clear b2 S6 X6 c0 c1 c2 c3
    go_wp2_with fail
    refine (awake_any _).mono ?_
    rintro e w9 ⟨rfl, b2⟩
    have S9 := Lib.hid (S7.out.keep b2)
    clear b2
    go_wp2
    go_ret
    exact Ret.mk (by simp) S9.out.bx.below

set_option maxHeartbeats 1000000 in
theorem bytes_bad_ok (W H T : Int) (A : Option Addr) (n c : Nat) (p : Nat → Nat) (B : Option Addr) (nb cb : Nat) (q : Nat → Nat) (w : World) (hb : Bs w A n p) (hp : ∀ i, p i < 256) (hn : n ≤ c) (hc : c ≤ maxLen)
    (hB : Bs w B nb q) (hq : ∀ i, q i < 256) (hnb : nb ≤ cb) (hcb : cb ≤ maxLen) (hv : ¬ Val W H T (fewN n)) (hb3 : 3 ≤ fewN nb) (hbv : Val (q 0) (q 1) (q 2) (fewN nb - 3)) :
    Calls Try.prog 7 #[.agg #[.int .i64 W, .int .i64 H, .int .i64 T, .slice A n c], .slice B nb cb] w (Ret (.bool true) w) := by
  have HF := Lib.hid (few_any W H T A n c p _ (hb.alloc (.cells #[.int .i64 W, .int .i64 H, .int .i64 T, .slice A n c] 24)) hn hc)
  have HS := Lib.hid (fun w1 => Start.first (w := w) (w1 := w1) (W := W) (H := H) (T := T) (c := c) hb)
  have hN := (fewN_le n).2
  have hN' : fewN n ≤ maxLen := by unfold maxLen; omega
  have HX := Lib.hid (Bx.new w (.int .i64 W) (.int .i64 H) (.int .i64 T) (.slice A n c) 24)
  have HQ0 := Lib.hid hB
  have HQ := Lib.hid (hB.take (fewN_le nb).1)
  have HM := Lib.hid (few_is nb)
  have hM := (fewN_le nb).2
  have hMc : fewN nb ≤ cb := by have := (fewN_le nb).1; omega
  clear hb hp hB
  generalize fewN n = N at *
  generalize fewN nb = M at *
  obtain ⟨k, ek⟩ : ∃ k, chk W H T N = k := ⟨_, rfl⟩
  have C1 := Lib.hid (fun u => refCheck_any W H T A N c u hN')
  have C2 := Lib.hid (fun u => encode_bad W H T A N c u hN' hv)
  obtain ⟨k1, k2⟩ := chk_bad hv
  rw [ek] at C1 k1 k2
  have hk : (k == 0) = false := by simp; omega
  clear hv ek
  have OF := Lib.hid (fun u hb => of_any B M cb q u hb hq hb3 hM hMc hcb)
  have hb3' : ¬ (M : Int) < 3 := by omega
  have D := Lib.hid (fun u hb => decode_ok B M cb q u hb hq hb3 hMc hcb hbv)
  have RC := Lib.hid (fun u A' K' => refCheck_ok (q 0) (q 1) (q 2) A' (M - 3) K' u (by unfold maxLen; omega) hbv)
  have hM3 : M - 3 ≤ maxLen := by unfold maxLen; omega
  clear hbv
  clear hq
  obtain ⟨q3, eq3⟩ : ∃ f, (fun i => q (3 + i)) = f := ⟨_, rfl⟩
  rw [eq3] at OF D
  clear eq3
  generalize ((q 0 : Nat) : Int) = v0 at *
  generalize ((q 1 : Nat) : Int) = v1 at *
  generalize ((q 2 : Nat) : Int) = v2 at *
  obtain ⟨M3, eM3⟩ : ∃ m, M - 3 = m := ⟨_, rfl⟩
  rw [eM3] at OF RC D hM3
  clear eM3
  go_enter Try.func7, Try.ntmps7
  go_wp2_with fail
  refine HF.out.mono ?_
  rintro e w1 ⟨rfl, b1⟩
  have X1 := Lib.hid (HX.out.keep b1)
  have S0 := HS.out _ b1
  clear b1 HX HF HS
  obtain ⟨-, c0, c1, c2, c3, f0, f1, f2, f3, -⟩ := X1.out
  have S1 := Lib.hid S0
  obtain ⟨⟨-, c0, c1, c2, c3, -, -, -, -, -⟩, -⟩ := S0
  go_upto_if 13 with fail
  go_cut [1] (fun s1 wx => s1 = .slice B M cb ∧ Start w wx W H T A N c p)
  case first =>
    by_cases hl : 4300 < nb
    · obtain ⟨g, o, rfl, _, _⟩ := HQ0.out (by omega)
      have hl' : (4300 : Int) < (nb : Int) := by omega
      have hc0 : ¬ cb = 0 := by omega
      have hc1 : (4300 : Int) ≤ (cb : Int) := by omega
      have HE := Lib.hid (HM.out.1 hl)
      go_wp2
      go_meet
      exact ⟨by rw [HE.out], S1.out⟩
    · have hl' : ¬ (4300 : Int) < (nb : Int) := by omega
      have HE := Lib.hid (HM.out.2 hl)
      go_wp2
      go_meet
      exact ⟨by rw [HE.out], S1.out⟩
  case rest =>
    obtain ⟨rfl, hS⟩ := hcut
    clear S1 X1 c0 c1 c2 c3 f0 f1 f2 f3
    rename_i Y
    have S1 := Lib.hid hS
    obtain ⟨⟨-, c0, c1, c2, c3, -, -, -, -, -⟩, -⟩ := hS
    go_wp2_with fail
    refine (C1.out _).mono ?_
    rintro e w2 ⟨rfl, b2⟩
    have S2 := Lib.hid (S1.out.keep b2)
    clear b2 S1 c0 c1 c2 c3
    obtain ⟨⟨-, c0, c1, c2, c3, -, -, -, -, -⟩, -⟩ := S2.out
    go_wp2_with fail
    clear c0 c1 c2 c3
    refine (D.out _ (HQ.out.keep S2.out.bx.below)).mono ?_
    rintro e w3 ⟨A3, K3, rfl, hK1, hK2, hO, b2⟩
    have S3 := Lib.hid ((S2.out.keep b2).keep ((Below.refl _ _).alloc (Nat.le_refl _) (.cells #[.int .i64 v0, .int .i64 v1, .int .i64 v2, .slice A3 M3 K3] 24)))
    have XX := Lib.hid (Bx.next (S2.out.keep b2).bx.below (.int .i64 v0) (.int .i64 v1) (.int .i64 v2) (.slice A3 M3 K3) 24)
    have HO := Lib.hid (hO.bs.alloc (.cells #[.int .i64 v0, .int .i64 v1, .int .i64 v2, .slice A3 M3 K3] 24))
    have HK := Lib.hid (And.intro hK1 hK2)
    clear hO hK1 hK2
    clear b2 S2
    obtain ⟨⟨-, c0, c1, c2, c3, -, -, -, -, -⟩, -⟩ := S3.out
    go_wp2_with fail
    generalize w3.heap.size = G at *
    generalize w3.alloc (.cells #[.int .i64 v0, .int .i64 v1, .int .i64 v2, .slice A3 M3 K3] 24) = w3a at *
    refine (C2.out _).mono ?_
    rintro e w4 ⟨rfl, b2⟩
    have cv : (convert 22 9 (.slice none 0 0)).run Try.prog w4 = .ok (.string { data := #[] }) w4 := conv_any (fun h => absurd h (by omega)) 0 (p := fun _ => 0) (A := none) (n := 0)
    have S4 := Lib.hid (S3.out.keep b2)
    have X4 := Lib.hid (XX.out.keep b2)
    have HO4 := Lib.hid (HO.out.keep b2)
    clear HO
    clear b2 S3 XX c0 c1 c2 c3
    obtain ⟨-, c0, c1, c2, c3, -, -, -, -, -⟩ := X4.out
    go_upto_region 12 with fail
    clear cv
    go_wp2_with fail
    refine (OF.out _ (HQ.out.keep S4.out.bx.below)).mono ?_
    rintro e w5 ⟨A5, K5, rfl, h51, h52, hO5, b2⟩
    have S5 := Lib.hid (S4.out.keep b2)
    have X5 := Lib.hid (X4.out.keep b2)
    have HO5 := Lib.hid (HO4.out.keep b2)
    clear HO4
    clear b2 S4 X4 c0 c1 c2 c3 hO5
    go_wp2_with fail
    refine (RC.out _ _ _).mono ?_
    rintro e w6 ⟨rfl, b2⟩
    have S6 := Lib.hid (S5.out.keep b2)
    have X6 := Lib.hid (X5.out.keep b2)
    have HO6 := Lib.hid (HO5.out.keep b2)
    clear HO5
    clear b2 S5 X5
    obtain ⟨-, c0, c1, c2, c3, -, -, -, -, -⟩ := X6.out
    go_wp2_with fail
    go_region_held3 (fun w' => w'.cell? ⟨G, 0, none⟩ = some (.int .i64 v0) ∧ w'.cell? ⟨G, 1, none⟩ = some (.int .i64 v1) ∧ w'.cell? ⟨G, 2, none⟩ = some (.int .i64 v2) ∧ w'.cell? ⟨G, 3, none⟩ = some (.slice A3 M3 K3))
      (go_keep)
      (first
        | (go_at_call 25; ((with_reducible refine (OF.out w6.drew (HQ.out.keep S6.out.bx.below.drew)).mono ?_)); rintro e w7 ⟨A7, K7, rfl, h71, h72, hO7, b7⟩; have S7 := Lib.hid ((S6.out.keep ((Below.refl _ _).drew)).keep b7); have X7 := Lib.hid (X6.out.drew.keep b7); have HO7 := Lib.hid (HO6.out.keep ((Below.refl _ _).drew.trans b7)); have HP7 := Lib.hid hO7.bs; clear b7 hO7; obtain ⟨-, c0, c1, c2, c3, -, -, -, -, -⟩ := X7.out)
        | (go_at_call 24; ((with_reducible refine (same_yes v0 v1 v2 A3 A7 M3 K3 K7 q3 q3 w7 HO7.out HP7.out (fun _ _ => rfl) hM3).mono ?_)); rintro e w8 ⟨rfl, b8⟩; have S8 := Lib.hid (S7.out.keep b8); have X8 := Lib.hid (X7.out.keep b8); clear b8; obtain ⟨-, c0, c1, c2, c3, -, -, -, -, -⟩ := X8.out)
        | (go_at_call 14; ((with_reducible refine (awake_any w8).mono ?_)); rintro e w9 ⟨rfl, b9⟩; have S9 := Lib.hid (S8.out.keep b9); have X9 := Lib.hid (X8.out.keep b9); clear b9; obtain ⟨-, c0, c1, c2, c3, -, -, -, -, -⟩ := X9.out))
    go_wp2
    go_ret
    exact Ret.mk (by simp) S9.out.bx.below

theorem walk_ReliefBytes (W H T : Int) (A : Option Addr) (n c : Nat) (p : Nat → Nat) (B : Option Addr) (nb cb : Nat) (q : Nat → Nat) (w : World) (hb : Bs w A n p) (hp : ∀ i, p i < 256) (hn : n ≤ c) (hc : c ≤ maxLen)
    (hB : Bs w B nb q) (hq : ∀ i, q i < 256) (hnb : nb ≤ cb) (hcb : cb ≤ maxLen) :
    Calls Try.prog 7 #[.agg #[.int .i64 W, .int .i64 H, .int .i64 T, .slice A n c], .slice B nb cb] w (Ret (.bool true) w) := by
  by_cases hv : Val W H T (fewN n)
  · by_cases h3 : fewN nb < 3
    · exact bytes_val_short W H T A n c p B nb cb q w hb hp hn hc hB hq hnb hcb hv h3
    · by_cases hbv : Val (q 0) (q 1) (q 2) (fewN nb - 3)
      · exact bytes_val_ok W H T A n c p B nb cb q w hb hp hn hc hB hq hnb hcb hv (by omega) hbv
      · exact bytes_val_bad W H T A n c p B nb cb q w hb hp hn hc hB hq hnb hcb hv (by omega) hbv
  · by_cases h3 : fewN nb < 3
    · exact bytes_bad_short W H T A n c p B nb cb q w hb hp hn hc hB hq hnb hcb hv h3
    · by_cases hbv : Val (q 0) (q 1) (q 2) (fewN nb - 3)
      · exact bytes_bad_ok W H T A n c p B nb cb q w hb hp hn hc hB hq hnb hcb hv (by omega) hbv
      · exact bytes_bad_bad W H T A n c p B nb cb q w hb hp hn hc hB hq hnb hcb hv (by omega) hbv

end Go.Proofs.Ythfnmgpeekjjoaa
