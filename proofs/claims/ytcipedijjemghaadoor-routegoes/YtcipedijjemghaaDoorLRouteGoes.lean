/- The law RouteGoes. -/
import Derived.Test.YtcipedijjemghaaDoorLRtStart
import Derived.Test.YtcipedijjemghaaDoorRt3
namespace Go.Proofs.YtcipedijjemghaaDoor
open Go.RowKit Go.Sort Go.Shelf
set_option linter.unusedVariables false
set_option linter.unusedSimpArgs false
attribute [local go_sem] Oper.semAt_some

theorem go_inj {W H : Int} {O : Nat → Bool} {k : Int} {s t : Nat} (hs : s < 8) (ht : t < 8) (h0 : 0 ≤ goL W H O k s) (e : goL W H O k t = goL W H O k s) : t = s := by
  have h1 : 0 ≤ goL W H O k t := by rw [e]; exact h0
  obtain ⟨_, m1, e1⟩ := go_open h0
  obtain ⟨_, m2, e2⟩ := go_open h1
  have q1 := (opL_iff.1 (may_of m1).2.1).1
  have q2 := (opL_iff.1 (may_of m2).2.1).1
  obtain ⟨a1, a2⟩ := cell_of (j := k / W + dJ s) q1.1 q1.2.1
  obtain ⟨b1, b2⟩ := cell_of (j := k / W + dJ t) q2.1 q2.2.1
  rw [← e1, ← e] at a1 a2
  rw [← e2] at b1 b2
  have hI : dI t = dI s := by omega
  have hJ : dJ t = dJ s := by omega
  have h1 : s = 0 ∨ s = 1 ∨ s = 2 ∨ s = 3 ∨ s = 4 ∨ s = 5 ∨ s = 6 ∨ s = 7 := by omega
  have h2 : t = 0 ∨ t = 1 ∨ t = 2 ∨ t = 3 ∨ t = 4 ∨ t = 5 ∨ t = 6 ∨ t = 7 := by omega
  clear a1 a2 b1 b2 q1 q2 m1 m2 e1 e2 e h0
  rcases h1 with rfl | rfl | rfl | rfl | rfl | rfl | rfl | rfl <;> rcases h2 with rfl | rfl | rfl | rfl | rfl | rfl | rfl | rfl <;> first | rfl | (exfalso; revert hI; decide) | (exfalso; revert hJ; decide)
/-- All about a path. -/
theorem pth_all {W H : Int} {O : Nat → Bool} {b : Int} (hb : isL W H O b) {k : Int} {l : List Int} (h : Pth W H O (cst W H O b) b k l) : 1 ≤ l.length ∧ l.getD 0 0 = k ∧ l.getD (l.length - 1) 0 = b ∧ (0 ≤ cst W H O b k) ∧
    (∀ q, q < l.length → isL W H O (l.getD q 0) ∧ 0 ≤ cst W H O b (l.getD q 0)) ∧ (∀ q, q + 1 < l.length → ∃ s, s < 8 ∧ goL W H O (l.getD q 0) s = l.getD (q + 1) 0 ∧ cst W H O b (l.getD (q + 1) 0) + prc s = cst W H O b (l.getD q 0)) := by
  induction h with
  | last =>
    have h0 : 0 ≤ cst W H O b b := by rw [cst_here hb]; omega
    refine ⟨by simp, rfl, rfl, h0, fun q hq => ?_, fun q hq => absurd hq (by simp)⟩
    obtain rfl : q = 0 := by simpa using hq
    exact ⟨hb, h0⟩
  | @more k n l hp hn hl ih =>
    obtain ⟨i1, i2, i3, i4, i5, i6⟩ := ih
    obtain ⟨s, hs, hw, _, hg⟩ := hn
    have hk : 0 ≤ cst W H O b k := by omega
    refine ⟨by simp, rfl, ?_, hk, fun q hq => ?_, fun q hq => ?_⟩
    · rw [show (k :: l).length - 1 = (l.length - 1) + 1 by simp; omega]
      exact i3
    · cases q with
      | zero => exact ⟨(cst_wk hk).ends.1, hk⟩
      | succ q => exact i5 q (by simpa using hq)
    · cases q with
      | zero =>
        refine ⟨s, hs, ?_, ?_⟩
        · show goL W H O k s = l.getD 0 0
          rw [hg, i2]
        · show cst W H O b (l.getD 0 0) + prc s = cst W H O b k
          rw [i2, ← hg]; exact hw.2.2
      | succ q => exact i6 q (by simpa using hq)
theorem pth_dec {W H : Int} {O : Nat → Bool} {b : Int} {l : List Int} (h : ∀ q, q + 1 < l.length → ∃ s, s < 8 ∧ goL W H O (l.getD q 0) s = l.getD (q + 1) 0 ∧ cst W H O b (l.getD (q + 1) 0) + prc s = cst W H O b (l.getD q 0)) : ∀ q p, p < q → q < l.length → cst W H O b (l.getD q 0) < cst W H O b (l.getD p 0)
  | 0, p, hp, _ => absurd hp (by omega)
  | q + 1, p, hp, hq => by
    obtain ⟨s, _, _, h3⟩ := h q hq
    have := prc_bd s
    by_cases e : p = q
    · subst e; omega
    · have := pth_dec h q p (by omega) (by omega)
      omega

set_option maxRecDepth 100000 in
set_option maxHeartbeats 16000000 in
theorem walk_RouteGoes (W H : Int) (A : Option Addr) (n c : Nat) (O : Nat → Bool) (f t k b : Int) (w : World) (hl : Lin w A n c O) :
    Calls Tryd.prog 6 #[.agg #[.int .i64 W, .int .i64 H, .slice A n c, .int .i64 f, .int .i64 t, .int .i64 k, .int .i64 b]] w (Ret (.bool true) w) := by
  have HL := Lib.hid hl.cut
  have HT := Lib.hid hl.tb
  have FC := Lib.hid (fun u => few13_any W H A n c u hl.nc hl.cm)
  have K0 := Lib.hid (Kx.new w 35 #[.int .i64 W, .int .i64 H, .slice A n c, .int .i64 f, .int .i64 t, .int .i64 k, .int .i64 b])
  have hm0 := (cut13_le n).2
  clear hl
  generalize hm : cut13 n = m at *
  clear hm
  have MC := Lib.hid (fun u => may13_any W H A m c u (by unfold maxLen; omega))
  have CC := Lib.hid (fun u (hb : RowKit.Below w.heap.size w u) => cost13_any W H O m c f t A u (HL.out.keep hb))
  have WC := Lib.hid (fun u (hb : RowKit.Below w.heap.size w u) => way13_any2 W H O m c f t k A u (HL.out.keep hb))
  have AW : Hid (∀ u u', RowKit.Below w.heap.size w u → RowKit.Below u.heap.size u u' → Calls Tryd.prog 12 #[] u' (fun e w' => e = .returned (.bool true) ∧ RowKit.Below w.heap.size w w')) := by
    intro u u' h1 h2
    have h3 := h1.trans (h2.mono h1.size)
    refine (awake13_any u' (HT.out.keep h3)).mono ?_
    rintro e w' ⟨rfl, hb⟩
    exact ⟨rfl, h3.trans (hb.mono h3.size)⟩
  go_enter Tryd.func6, Tryd.ntmps6
  go_wp2_with fail
  refine (FC.out _).mono ?_
  rintro e w1 ⟨rfl, b1⟩
  have K1 := Lib.hid (K0.out.keep b1)
  have B1 : Hid (Bx2 w w.heap.size w1.heap.size (w1.alloc (.cells #[.int .i64 W, .int .i64 H, .slice A m c] 24)) W H A n m c f t k b) := ⟨K1.out.alloc _, Kx.next K1.out.below _ _⟩
  clear b1 K0 K1 FC
  obtain ⟨y0, y1, y2, x3, x4, x5, x6⟩ := B1.out.c
  go_wp2_with fail
  refine (small13_any W H A m c _).mono ?_
  rintro e w2 ⟨rfl, b1⟩
  have B2 := Lib.hid (B1.out.keep b1)
  clear b1 B1 y0 y1 y2 x3 x4 x5 x6
  cases hsm : decide ((m : Int) ≤ 160) with
  | false =>
    clear hsm
    go_wp2_with fail
    refine (AW.out w2 _ B2.out.x.below (Below.refl _ _)).mono ?_
    rintro e wZ ⟨rfl, hb⟩
    have HB := Lib.hid hb
    clear hb AW
    go_wp2
    go_ret
    exact Ret.mk rfl HB.out
  | true =>
    clear hsm
    obtain ⟨y0, y1, y2, x3, x4, x5, x6⟩ := B2.out.c
    go_wp2_with fail
    refine (MC.out _).mono ?_
    rintro e w3 ⟨rfl, b1⟩
    have B3 := Lib.hid (B2.out.keep b1)
    clear b1 B2 y0 y1 y2 x3 x4 x5 x6
    cases hln : lnB W H m with
    | false =>
      clear hln
      go_wp2_with fail
      refine (AW.out w3 _ B3.out.x.below (Below.refl _ _)).mono ?_
      rintro e wZ ⟨rfl, hb⟩
      have HB := Lib.hid hb
      clear hb AW
      go_wp2
      go_ret
      exact Ret.mk rfl HB.out
    | true =>
      have HLN := Lib.hid (lnB_yes.1 hln)
      have hmb := HLN.out.bd
      clear hln
      obtain ⟨y0, y1, y2, x3, x4, x5, x6⟩ := B3.out.c
      go_wp2_with fail
      refine (WC.out _ B3.out.x.below).mono ?_
      rintro e w4 ⟨b1, hw⟩
      have B4 := Lib.hid (B3.out.keep b1)
      clear b1 B3 y0 y1 y2 x3 x4 x5 x6
      obtain ⟨y0, y1, y2, x3, x4, x5, x6⟩ := B4.out.c
      rcases hw with ⟨h1, rfl⟩ | ⟨_, h2, rfl⟩ | ⟨h1, h2, A2, kz, l, rfl, h3, h4, h5, h6, h7⟩
      · generalize er13 W H O m f t = E at *
        have hE : (E != 0) = true := by simp [h1]
        clear h1
        go_wp2_with fail
        refine (AW.out w4 _ B4.out.x.below (Below.refl _ _)).mono ?_
        rintro e wZ ⟨rfl, hb⟩
        have HB := Lib.hid hb
        clear hb AW
        go_wp2
        go_ret
        exact Ret.mk rfl HB.out
      · clear h2
        go_wp2_with fail
        refine (AW.out w4 _ B4.out.x.below (Below.refl _ _)).mono ?_
        rintro e wZ ⟨rfl, hb⟩
        have HB := Lib.hid hb
        clear hb AW
        go_wp2
        go_ret
        exact Ret.mk rfl HB.out
      · obtain ⟨_, ⟨r1, r2⟩, ⟨r3, r4⟩, hc⟩ := er13_zero.1 h1
        obtain ⟨p1, p2, p3, p4, p5, p6⟩ := pth_all ((cst_wk hc).ends.2) h7
        have HIT := Lib.hid (cst_wk hc).ends.2
        have HP5 := Lib.hid p5
        have HP6 := Lib.hid p6
        have HPD := Lib.hid (pth_dec p6)
        have HI4 := Lib.hid h6
        have HV : Hid (vl13 W H O m f t = cst W H O t f) := by show _ = _; unfold vl13; rw [if_pos h1]
        have HE := Lib.hid h1
        clear h7 h6 p5 p6 h1
        go_wp2_with fail
        refine (CC.out _ B4.out.x.below).mono ?_
        rintro e w5 ⟨⟨rfl, b1⟩, v1, v2⟩
        rw [HV.out] at v1 v2
        rw [HE.out, HV.out]
        have B5 := Lib.hid (B4.out.keep b1)
        have HI5 := Lib.hid (HI4.out.keep b1)
        clear b1 B4 y0 y1 y2 x3 x4 x5 x6 HI4 HE HV
        obtain ⟨y0, y1, y2, x3, x4, x5, x6⟩ := B5.out.c
        obtain ⟨gp, op, rfl, hgp, hcl⟩ := HI5.out (by omega)
        have HCL := Lib.hid hcl
        have eF := hcl 0 (by omega)
        have eT : w5.cell? ⟨gp, op + (l.length - 1), none⟩ = some (.int .i64 (l.getD (l.length - 1) 0)) := hcl (l.length - 1) (by omega)
        simp only [Nat.add_zero] at eF
        rw [p2] at eF
        rw [p3] at eT
        obtain ⟨L, hL⟩ : ∃ L, l.length = L + 1 := ⟨l.length - 1, by omega⟩
        have eT' : w5.cell? ⟨gp, op + L, none⟩ = some (.int .i64 t) := by rw [show L = l.length - 1 by omega]; exact eT
        clear eT
        have B0 : Hid (RowKit.Below w5.heap.size w5 w5) := Below.refl _ _
        unfold maxLen at h4
        have HPL := Lib.hid (And.intro p2 p3)
        have hcf : cst W H O t f ≤ k := h2
        have hkd : decide (k < cst W H O t f) = false := decide_eq_false (by omega)
        have hff : (f != f) = false := by simp
        have hl1 : decide ((L : Int) + 1 < 1) = false := decide_eq_false (by omega)
        have hl2 : decide (((L + 1 : Nat) : Int) < 1) = false := decide_eq_false (by omega)
        have hl3 : (((L + 1 : Nat) : Int) - 1).toNat = L := by omega
        have hl4 : (((L : Int) + 1) - 1).toNat = L := by omega
        have htt : (t != t) = false := by simp
        clear hcl p2 p3 h2
        rw [hL] at h3 h5
        have hLL : L ≤ 12285 := by omega
        have hk2 := h4
        have HLn := Lib.hid hL
        rw [hL]
        clear hL p1
        obtain ⟨cf, hcf'⟩ : ∃ z, cst W H O t f = z := ⟨_, rfl⟩
        have HCF := Lib.hid hcf'
        rw [hcf'] at v1 v2 hcf hkd p4 ⊢
        clear hcf' hc
        go_wp2
        have k0 := cell_regrown eF
        have k1 := cell_regrown eT'
        have k2 := cell_regrown x3
        have k3 := cell_regrown x4
        have k4 := cell_regrown x5
        refine wp_region_quiet_below (by kernel_rfl) (by kernel_rfl) ?_
        repeat (go_big_quiet_step (fail))
        refine wpQuiet_nil ?_
        intro _ hw'
        obtain ⟨⟨dq, osq⟩, hw''⟩ := hw'
        subst hw''
        have hb4 := below_regrown w5 dq osq
        have B6 := Lib.hid (B0.out.trans (hb4.mono B0.out.size))
        clear k0 k1 k2 k3 k4 hb4 eF eT' x3 x4 x5
        generalize Go.Sort.grow (redrawn w5 dq) osq = w6 at *
        clear y0 y1 y2 x6
        have B7 := Lib.hid (B5.out.keep B6.out)
        have HC6 := Lib.hid (fun i (hi : i < l.length) => kc B6.out (HCL.out i hi))
        clear B5 B6 HCL HI5
        go_wp2
        go_loopw [8, 9] (fun s8 s9 wr => ∃ q : Nat, s8 = .int .i64 (cf - cst W H O t (l.getD q 0)) ∧ s9 = .int .i64 ((q : Int) + 1) ∧ q ≤ L ∧ Hid (RowKit.Below w6.heap.size w6 wr)) (fun _ s9 _ => L + 1 - (intOf s9).toNat)
        case atStart => exact ⟨0, by rw [HPL.out.1, HCF.out]; simp, rfl, by omega, Below.refl _ _⟩
        case round =>
          obtain ⟨q, rfl, rfl, hq, hB⟩ := hrel
          obtain ⟨w7, hw7⟩ : ∃ x, x = wr := ⟨_, rfl⟩
          subst hw7
          by_cases hqL : q < L
          · obtain ⟨s0, hs0, hg0, hpr⟩ := HP6.out q (by rw [HLn.out]; omega)
            obtain ⟨hia, ha0⟩ := HP5.out q (by rw [HLn.out]; omega)
            obtain ⟨hib, hb0⟩ := HP5.out (q + 1) (by rw [HLn.out]; omega)
            have ea := kc hB.out (HC6.out q (by rw [HLn.out]; omega))
            have eb := kc hB.out (HC6.out (q + 1) (by rw [HLn.out]; omega))
            have HDC := Lib.hid (fun p (hp : p < q + 1) => HPD.out (q + 1) p hp (by rw [HLn.out]; omega))
            have hbc : cst W H O t (l.getD q 0) ≤ cf := by
              by_cases e : q = 0
              · subst e; rw [HPL.out.1, HCF.out]; omega
              · have := HPD.out q 0 (by omega) (by rw [HLn.out]; omega)
                rw [HPL.out.1, HCF.out] at this
                omega
            obtain ⟨va, hva⟩ : ∃ z, l.getD q 0 = z := ⟨_, rfl⟩
            obtain ⟨vb, hvb⟩ : ∃ z, l.getD (q + 1) 0 = z := ⟨_, rfl⟩
            have HVB := Lib.hid hvb
            rw [hva] at ea hg0 hpr hia ha0 hbc ⊢
            rw [hvb] at eb hg0 hpr hib hb0 HDC
            clear hva hvb
            have hgp0 : 0 ≤ goL W H O va s0 := by rw [hg0]; exact hib.1
            have HUN := Lib.hid (fun s (hs : s < 8) (e : goL W H O va s = vb) => go_inj hs0 hs hgp0 (by rw [e, hg0]))
            have HS0 := Lib.hid (And.intro hs0 hg0)
            have HPR := Lib.hid hpr
            have hz0 : decide (0 ≤ va) = true := decide_eq_true hia.1
            have hzm : decide (va < (m : Int)) = true := decide_eq_true (by have := hia.2.1; have := HLN.out.sz; omega)
            have HIA := Lib.hid hia
            have hqI : decide ((q : Int) + 1 < (L : Int) + 1) = true := decide_eq_true (by omega)
            have hqJ : (q : Int) + 1 < (L : Int) + 1 := by omega
            have B8 := Lib.hid (B7.out.keep hB.out)
            obtain ⟨p1, p2⟩ := prc_bd s0
            clear hs0 hg0 hgp0 hia hib hpr
            have EA := Lib.hid ea
            have EB := Lib.hid eb
            clear ea eb
            go_wp2
            go_loopw [10, 11] (fun s10 s11 wi => ∃ (s : Nat) (pr : Int), s10 = .int .i64 pr ∧ s11 = .int .i64 (s : Int) ∧ s ≤ 8 ∧ pr = (if s0 < s then prc s0 else -1) ∧ Hid (RowKit.Below w7.heap.size w7 wi)) (fun _ s11 _ => 8 - (intOf s11).toNat)
            case atStart => exact ⟨0, -1, rfl, rfl, by omega, rfl, Below.refl _ _⟩
            case round =>
              obtain ⟨s, pr, rfl, rfl, hs, hprs, hBi⟩ := hrel
              obtain ⟨wi, hwi⟩ : ∃ x, x = wr := ⟨_, rfl⟩
              subst hwi
              by_cases hs8 : s < 8
              · have hsI : decide ((s : Int) < 8) = true := decide_eq_true (by omega)
                have BI := Lib.hid (B8.out.keep hBi.out)
                obtain ⟨y0, y1, y2, x3, x4, x5, x6⟩ := BI.out.c
                have ea := kc hBi.out EA.out
                have eb := kc hBi.out EB.out
                have HPC := Lib.hid (fun d os => Calls.regrown_of (d := d) (os := os) (goes13_any W H O va s A m c (Go.Sort.grow (redrawn wi d) os) w HLN.out HL.out.bo (BI.out.x.below.trans ((below_regrown wi d os).mono BI.out.x.below.size)) hs8 HIA.out.1 HIA.out.2.1))
                by_cases he : goL W H O va s = vb
                · have HES : Hid (s = s0) := HUN.out s hs8 he
                  have hed : (goL W H O va s == vb) = true := by simp [he]
                  clear he
                  go_wp2
                  have k0 := cell_regrown ea
                  have k1 := cell_regrown eb
                  have k2 := cell_regrown y0
                  have k3 := cell_regrown y1
                  have k4 := cell_regrown y2
                  refine wp_region_quiet_below (by kernel_rfl) (by kernel_rfl) ?_
                  repeat (go_big_quiet_step (with_reducible exact HPC.out _ _))
                  refine wpQuiet_nil ?_
                  intro _ hw'
                  obtain ⟨⟨dq, osq⟩, hw''⟩ := hw'
                  subst hw''
                  have hb4 := below_regrown wi dq osq
                  have B9 := Lib.hid (hBi.out.trans (hb4.mono hBi.out.size))
                  clear k0 k1 k2 k3 k4 hb4 ea eb y0 y1 y2
                  generalize Go.Sort.grow (redrawn wi dq) osq = w8 at *
                  clear x3 x4 x5 x6
                  clear HPC
                  go_wp2_with fail
                  refine (price13_any s _ hs8).mono ?_
                  rintro e w9 ⟨rfl, b9⟩
                  have B10 := Lib.hid (B9.out.trans (b9.mono B9.out.size))
                  have HPN : Hid (prc s = if s0 < s + 1 then prc s0 else -1) := by show _ = _; rw [HES.out, if_pos (by omega)]
                  clear b9 B9 hprs
                  go_wp2
                  go_roundw
                  case rel => exact ⟨s + 1, prc s, rfl, by go_num, by omega, HPN.out, B10.out⟩
                  case measure => simp [intOf]; omega
                · have hed : (goL W H O va s == vb) = false := by simp [he]
                  have hpn : pr = if s0 < s + 1 then prc s0 else -1 := by
                    rw [hprs]
                    have : s ≠ s0 := fun e => he (by rw [e]; exact HS0.out.2)
                    by_cases h9 : s0 < s
                    · rw [if_pos h9, if_pos (by omega)]
                    · rw [if_neg h9, if_neg (by omega)]
                  clear he hprs
                  go_wp2
                  have k0 := cell_regrown ea
                  have k1 := cell_regrown eb
                  have k2 := cell_regrown y0
                  have k3 := cell_regrown y1
                  have k4 := cell_regrown y2
                  refine wp_region_quiet_below (by kernel_rfl) (by kernel_rfl) ?_
                  repeat (go_big_quiet_step (with_reducible exact HPC.out _ _))
                  refine wpQuiet_nil ?_
                  intro _ hw'
                  obtain ⟨⟨dq, osq⟩, hw''⟩ := hw'
                  subst hw''
                  have hb4 := below_regrown wi dq osq
                  have B9 := Lib.hid (hBi.out.trans (hb4.mono hBi.out.size))
                  clear k0 k1 k2 k3 k4 hb4 ea eb y0 y1 y2
                  generalize Go.Sort.grow (redrawn wi dq) osq = w8 at *
                  clear x3 x4 x5 x6
                  clear HPC
                  go_wp2
                  go_roundw
                  case rel => exact ⟨s + 1, pr, rfl, by go_num, by omega, hpn, B9.out⟩
                  case measure => simp [intOf]; omega
              · have hsI : decide ((s : Int) < 8) = false := decide_eq_false (by omega)
                obtain rfl : s = 8 := by omega
                rw [if_pos (by have := HS0.out.1; omega)] at hprs
                subst hprs
                have hneg : decide (prc s0 < 0) = false := decide_eq_false (by omega)
                have HSUM : Hid (cf - cst W H O t va + prc s0 = cf - cst W H O t vb) := by have := HPR.out; show _ = _; omega
                have B9 := Lib.hid (hB.out.trans (hBi.out.mono hB.out.size))
                have EB9 := Lib.hid (kc hBi.out EB.out)
                obtain ⟨cva, hcva⟩ : ∃ z, cst W H O t va = z := ⟨_, rfl⟩
                rw [hcva] at ha0 hbc HSUM ⊢
                clear hcva hs8
                go_wp2
                rw [HSUM.out]
                go_loopw [12] (fun s12 wj => ∃ p : Nat, s12 = .int .i64 (p : Int) ∧ p ≤ q + 1 ∧ Hid (RowKit.Below wi.heap.size wi wj)) (fun s12 _ => q + 1 - (intOf s12).toNat)
                case atStart => exact ⟨0, rfl, by omega, Below.refl _ _⟩
                case round =>
                  obtain ⟨p, rfl, hp, hBj⟩ := hrel
                  by_cases hpq : p < q + 1
                  · have hpI : decide ((p : Int) < (q : Int) + 1) = true := decide_eq_true (by omega)
                    have hpJ : (p : Int) < (q : Int) + 1 := by omega
                    have e1 := kc hBj.out (kc B9.out (HC6.out p (by rw [HLn.out]; omega)))
                    have e2 := kc hBj.out EB9.out
                    have hlt := HDC.out p hpq
                    obtain ⟨vp, hvp⟩ : ∃ z, l.getD p 0 = z := ⟨_, rfl⟩
                    rw [hvp] at e1 hlt
                    have hne : (vp == vb) = false := by
                      simp
                      rintro rfl
                      omega
                    clear hvp hlt
                    go_wp2
                    have k0 := cell_regrown e1
                    have k1 := cell_regrown e2
                    refine wp_region_quiet_below (by kernel_rfl) (by kernel_rfl) ?_
                    repeat (go_big_quiet_step (fail))
                    refine wpQuiet_nil ?_
                    intro _ hw'
                    obtain ⟨⟨dq, osq⟩, hw''⟩ := hw'
                    subst hw''
                    have hb4 := below_regrown wr dq osq
                    have BJ := Lib.hid (hBj.out.trans (hb4.mono hBj.out.size))
                    clear k0 k1 hb4 e1 e2
                    generalize Go.Sort.grow (redrawn wr dq) osq = w8 at *
                    go_wp2
                    go_roundw
                    case rel => exact ⟨p + 1, by go_num, by omega, BJ.out⟩
                    case measure => simp [intOf]; omega
                  · have hpI : decide ((p : Int) < (q : Int) + 1) = false := decide_eq_false (by omega)
                    obtain rfl : p = q + 1 := by omega
                    have BJ := Lib.hid (B9.out.trans (hBj.out.mono B9.out.size))
                    clear hpq
                    go_wp2
                    go_roundw
                    case rel => exact ⟨q + 1, by rw [HVB.out], by go_num, by omega, BJ.out⟩
                    case measure => simp [intOf]; omega
          · obtain rfl : q = L := by omega
            have hqI : decide ((q : Int) + 1 < (q : Int) + 1) = false := decide_eq_false (by omega)
            have hlast : cst W H O t (l.getD q 0) = 0 := by
              have h9 := HPL.out.2
              rw [HLn.out] at h9
              simp only [Nat.add_sub_cancel] at h9
              rw [h9]
              exact cst_here HIT.out
            rw [hlast, Int.sub_zero]
            have hee : (cf == cf) = true := by simp
            have BF := Lib.hid (B7.out.keep hB.out)
            clear hlast hqL
            go_wp2_with fail
            refine (AW.out _ _ BF.out.x.below (Below.refl _ _)).mono ?_
            rintro e wZ ⟨rfl, hb⟩
            have HB := Lib.hid hb
            clear hb AW
            go_wp2
            go_ret
            exact Ret.mk rfl HB.out
end Go.Proofs.YtcipedijjemghaaDoor
