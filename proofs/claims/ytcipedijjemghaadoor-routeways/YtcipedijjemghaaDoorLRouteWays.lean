/- The law RouteWays. -/
import Derived.Test.YtcipedijjemghaaDoorLRtStart
import Derived.Test.YtcipedijjemghaaDoorRt8b
import Derived.Test.YtcipedijjemghaaDoorRtB
namespace Go.Proofs.YtcipedijjemghaaDoor
open Go.RowKit Go.Sort Go.Shelf
set_option linter.unusedVariables false
set_option linter.unusedSimpArgs false
attribute [local go_sem] Oper.semAt_some

theorem er13_bad {W H : Int} {O : Nat → Bool} {n : Nat} {f t : Int} (h : lnB W H n = false) : er13 W H O n f t = 1 ∧ vl13 W H O n f t = 0 := by
  have : er13 W H O n f t = 1 := by unfold er13; rw [h]; rfl
  exact ⟨this, by unfold vl13; rw [this]; rfl⟩
theorem er13_rng {W H : Int} {O : Nat → Bool} {n : Nat} {f t : Int} (h : lnB W H n = true) (hr : ¬ ((0 ≤ f ∧ f < (n : Int)) ∧ (0 ≤ t ∧ t < (n : Int)))) : er13 W H O n f t = 4 ∧ vl13 W H O n f t = 0 := by
  have : er13 W H O n f t = 4 := by unfold er13; rw [h, decide_eq_false hr]; rfl
  exact ⟨this, by unfold vl13; rw [this]; rfl⟩
theorem er13_none {W H : Int} {O : Nat → Bool} {n : Nat} {f t : Int} (h : lnB W H n = true) (hr : (0 ≤ f ∧ f < (n : Int)) ∧ (0 ≤ t ∧ t < (n : Int))) (hc : cst W H O t f = -1) : er13 W H O n f t = 6 ∧ vl13 W H O n f t = 0 := by
  have : er13 W H O n f t = 6 := by unfold er13; rw [h, decide_eq_true hr, if_pos rfl, if_pos rfl, if_pos hc]
  exact ⟨this, by unfold vl13; rw [this]; rfl⟩
theorem er13_ok {W H : Int} {O : Nat → Bool} {n : Nat} {f t : Int} (h : lnB W H n = true) (hr : (0 ≤ f ∧ f < (n : Int)) ∧ (0 ≤ t ∧ t < (n : Int))) (hc : 0 ≤ cst W H O t f) : er13 W H O n f t = 0 ∧ vl13 W H O n f t = cst W H O t f := by
  have : er13 W H O n f t = 0 := er13_zero.2 ⟨lnB_yes.1 h, hr.1, hr.2, hc⟩
  exact ⟨this, by unfold vl13; rw [if_pos this]⟩
/-- What Way tells, by cases. -/
theorem way_err {W H : Int} {O : Nat → Bool} {n : Nat} {f t most : Int} {w w' : World} {e : Ending} (h : RetWy W H O n f t most w e w') {x : Int} (hx : er13 W H O n f t = x) (hx0 : x ≠ 0) : RowKit.Below w.heap.size w w' ∧ e = .returned (.tuple #[.slice none 0 0, .int .i64 x]) := by
  obtain ⟨hb, hc⟩ := h
  rw [hx] at hc
  rcases hc with ⟨_, rfl⟩ | ⟨h1, _⟩ | ⟨h1, _⟩
  · exact ⟨hb, rfl⟩
  · exact absurd h1 hx0
  · exact absurd h1 hx0
theorem Pth.head {W H : Int} {O : Nat → Bool} {d : Int → Int} {b k : Int} {l : List Int} (h : Pth W H O d b k l) : ∃ r, l = k :: r := by
  cases h with
  | last => exact ⟨[], rfl⟩
  | more _ _ _ => exact ⟨_, rfl⟩

set_option maxRecDepth 100000 in
set_option maxHeartbeats 16000000 in
theorem walk_RouteWays (W H : Int) (A : Option Addr) (n c : Nat) (O : Nat → Bool) (f t k b : Int) (w : World) (hl : Lin w A n c O) :
    Calls Tryd.prog 4 #[.agg #[.int .i64 W, .int .i64 H, .slice A n c, .int .i64 f, .int .i64 t, .int .i64 k, .int .i64 b]] w (Ret (.bool true) w) := by
  have HL := Lib.hid hl.cut
  have HT := Lib.hid hl.tb
  have FC := Lib.hid (fun u => few13_any W H A n c u hl.nc hl.cm)
  have K0 := Lib.hid (Kx.new w 35 #[.int .i64 W, .int .i64 H, .slice A n c, .int .i64 f, .int .i64 t, .int .i64 k, .int .i64 b])
  have hm0 := (cut13_le n).2
  clear hl
  generalize hm : cut13 n = m at *
  clear hm
  have MC := Lib.hid (fun u => may13_any W H A m c u (by unfold maxLen; omega))
  have CC := Lib.hid (fun u (hb : RowKit.Below w.heap.size w u) => cost13_any W H O m c f t A u (HL.out.keep hb))
  have WC := Lib.hid (fun u (hb : RowKit.Below w.heap.size w u) => way13_any2 W H O m c f t k A u (HL.out.keep hb))
  have AW : Hid (∀ u u', RowKit.Below w.heap.size w u → RowKit.Below u.heap.size u u' → Calls Tryd.prog 12 #[] u' (fun e w' => e = .returned (.bool true) ∧ RowKit.Below w.heap.size w w')) := by
    intro u u' h1 h2
    have h3 := h1.trans (h2.mono h1.size)
    refine (awake13_any u' (HT.out.keep h3)).mono ?_
    rintro e w' ⟨rfl, hb⟩
    exact ⟨rfl, h3.trans (hb.mono h3.size)⟩
  go_enter Tryd.func4, Tryd.ntmps4
  go_wp2_with fail
  refine (FC.out _).mono ?_
  rintro e w1 ⟨rfl, b1⟩
  have K1 := Lib.hid (K0.out.keep b1)
  have B1 : Hid (Bx2 w w.heap.size w1.heap.size (w1.alloc (.cells #[.int .i64 W, .int .i64 H, .slice A m c] 24)) W H A n m c f t k b) := ⟨K1.out.alloc _, Kx.next K1.out.below _ _⟩
  clear b1 K0 K1 FC
  obtain ⟨y0, y1, y2, x3, x4, x5, x6⟩ := B1.out.c
  go_wp2_with fail
  refine (MC.out _).mono ?_
  rintro e w2 ⟨rfl, b1⟩
  have B2 := Lib.hid (B1.out.keep b1)
  clear b1 B1 y0 y1 y2 x3 x4 x5 x6
  obtain ⟨y0, y1, y2, x3, x4, x5, x6⟩ := B2.out.c
  cases hln : lnB W H m with
  | false =>
    obtain ⟨E1, E2⟩ := er13_bad (O := O) (f := f) (t := t) hln
    have HE := Lib.hid E1
    go_wp2_with fail
    refine (CC.out _ B2.out.x.below).mono ?_
    rintro e w3 ⟨⟨rfl, b1⟩, -, -⟩
    rw [E1, E2]
    have B3 := Lib.hid (B2.out.keep b1)
    clear b1 B2 y0 y1 y2 x3 x4 x5 x6 E1 E2
    obtain ⟨y0, y1, y2, x3, x4, x5, x6⟩ := B3.out.c
    go_wp2_with fail
    refine (WC.out _ B3.out.x.below).mono ?_
    intro e w4 hw
    obtain ⟨b1, rfl⟩ := way_err hw HE.out (by decide)
    have B4 := Lib.hid (B3.out.keep b1)
    clear b1 B3 y0 y1 y2 x3 x4 x5 x6 hw HE
    obtain ⟨y0, y1, y2, x3, x4, x5, x6⟩ := B4.out.c
    go_wp2_with fail
    refine (MC.out _).mono ?_
    rintro e w5 ⟨rfl, b1⟩
    rw [hln]
    have B5 := Lib.hid (B4.out.keep b1)
    clear b1 B4 y0 y1 y2 x3 x4 x5 x6 hln
    go_wp2_with fail
    refine (AW.out w5 _ B5.out.x.below (Below.refl _ _)).mono ?_
    rintro e wZ ⟨rfl, hb⟩
    have HB := Lib.hid hb
    clear hb AW
    go_wp2
    go_ret
    exact Ret.mk rfl HB.out
  | true =>
    go_wp2_with fail
    refine (small13_any W H A m c _).mono ?_
    rintro e w3 ⟨rfl, b1⟩
    have B3 := Lib.hid (B2.out.keep b1)
    clear b1 B2 y0 y1 y2 x3 x4 x5 x6
    cases hsm : decide ((m : Int) ≤ 160) with
    | false =>
      clear hsm hln
      go_wp2_with fail
      refine (AW.out w3 _ B3.out.x.below (Below.refl _ _)).mono ?_
      rintro e wZ ⟨rfl, hb⟩
      have HB := Lib.hid hb
      clear hb AW
      go_wp2
      go_ret
      exact Ret.mk rfl HB.out
    | true =>
      clear hsm
      obtain ⟨y0, y1, y2, x3, x4, x5, x6⟩ := B3.out.c
      have HLN := Lib.hid (lnB_yes.1 hln)
      have hmb := HLN.out.bd
      by_cases hrg : (0 ≤ f ∧ f < (m : Int)) ∧ (0 ≤ t ∧ t < (m : Int))
      · obtain ⟨⟨r1, r2⟩, r3, r4⟩ := id hrg
        obtain ⟨fN, hfN⟩ : ∃ fN : Nat, f = (fN : Int) := ⟨f.toNat, by omega⟩
        subst hfN
        obtain ⟨tN, htN⟩ : ∃ tN : Nat, t = (tN : Int) := ⟨t.toNat, by omega⟩
        subst htN
        have hfm : fN < m := by omega
        have htm : tN < m := by omega
        have d1 : decide ((fN : Int) < 0) = false := decide_eq_false (by omega)
        have d2 : decide ((m : Int) ≤ (fN : Int)) = false := decide_eq_false (by omega)
        have d3 : decide ((tN : Int) < 0) = false := decide_eq_false (by omega)
        have d4 : decide ((m : Int) ≤ (tN : Int)) = false := decide_eq_false (by omega)
        have RR := Lib.hid (fun u (hb : RowKit.Below w.heap.size w u) => refCosts13_any W H O m c tN A u HLN.out ((HL.out.keep hb).bo) HL.out.nc HL.out.cm htm)
        rcases cst_or (W := W) (H := H) (O := O) (tN : Int) (fN : Int) with ⟨hc, _⟩ | ⟨hc, _⟩
        · obtain ⟨E1, E2⟩ := er13_none (O := O) hln hrg hc
          have HE := Lib.hid E1
          go_wp2_with fail
          refine (CC.out _ B3.out.x.below).mono ?_
          rintro e w4 ⟨⟨rfl, b1⟩, -, -⟩
          rw [E1, E2]
          have B4 := Lib.hid (B3.out.keep b1)
          clear b1 B3 y0 y1 y2 x3 x4 x5 x6 E1 E2
          obtain ⟨y0, y1, y2, x3, x4, x5, x6⟩ := B4.out.c
          go_wp2_with fail
          refine (WC.out _ B4.out.x.below).mono ?_
          intro e w5 hw
          obtain ⟨b1, rfl⟩ := way_err hw HE.out (by decide)
          have B5 := Lib.hid (B4.out.keep b1)
          clear b1 B4 y0 y1 y2 x3 x4 x5 x6 hw HE
          obtain ⟨y0, y1, y2, x3, x4, x5, x6⟩ := B5.out.c
          go_wp2_with fail
          refine (MC.out _).mono ?_
          rintro e w6 ⟨rfl, b1⟩
          rw [hln]
          have B6 := Lib.hid (B5.out.keep b1)
          clear b1 B5 y0 y1 y2 x3 x4 x5 x6
          obtain ⟨y0, y1, y2, x3, x4, x5, x6⟩ := B6.out.c
          go_wp2_with fail
          refine (RR.out _ B6.out.x.below).mono ?_
          rintro e w7 ⟨b1, rq, rfl, hq, -⟩
          have B7 := Lib.hid (B6.out.keep b1)
          have e0 := hq.cell hfm
          rw [hc] at e0
          clear b1 B6 y0 y1 y2 x3 x4 x5 x6 hq hln hc hrg RR
          obtain ⟨y0, y1, y2, x3, x4, x5, x6⟩ := B7.out.c
          go_wp2_with fail
          refine (AW.out w7 _ B7.out.x.below (Below.refl _ _)).mono ?_
          rintro e wZ ⟨rfl, hb⟩
          have HB := Lib.hid hb
          clear hb AW
          go_wp2
          go_ret
          exact Ret.mk rfl HB.out
        · obtain ⟨E1, E2⟩ := er13_ok (O := O) hln hrg hc
          have HE := Lib.hid E1
          go_wp2_with fail
          refine (CC.out _ B3.out.x.below).mono ?_
          rintro e w4 ⟨⟨rfl, b1⟩, v1, v2⟩
          rw [E2] at v1 v2
          rw [E1, E2]
          have B4 := Lib.hid (B3.out.keep b1)
          clear b1 B3 y0 y1 y2 x3 x4 x5 x6 E1 E2
          obtain ⟨y0, y1, y2, x3, x4, x5, x6⟩ := B4.out.c
          go_wp2_with fail
          refine (WC.out _ B4.out.x.below).mono ?_
          rintro e w5 ⟨b1, hw⟩
          have B5 := Lib.hid (B4.out.keep b1)
          clear b1 B4 y0 y1 y2 x3 x4 x5 x6
          obtain ⟨y0, y1, y2, x3, x4, x5, x6⟩ := B5.out.c
          have hcl : decide (cst W H O (tN : Int) (fN : Int) < 0) = false := decide_eq_false (by omega)
          have hcc : (cst W H O (tN : Int) (fN : Int) != cst W H O (tN : Int) (fN : Int)) = false := by simp
          rcases hw with ⟨h1, _⟩ | ⟨_, h2, rfl⟩ | ⟨_, h2, A2, k2, l, rfl, h3, h4, h5, h6, h7⟩
          · exact absurd HE.out h1
          · have hmo : decide (k < cst W H O (tN : Int) (fN : Int)) = true := decide_eq_true h2
            clear h2 HE
            go_wp2_with fail
            refine (MC.out _).mono ?_
            rintro e w6 ⟨rfl, b1⟩
            rw [hln]
            have B6 := Lib.hid (B5.out.keep b1)
            clear b1 B5 y0 y1 y2 x3 x4 x5 x6
            obtain ⟨y0, y1, y2, x3, x4, x5, x6⟩ := B6.out.c
            go_wp2_with fail
            refine (RR.out _ B6.out.x.below).mono ?_
            rintro e w7 ⟨b1, rq, rfl, hq, -⟩
            have B7 := Lib.hid (B6.out.keep b1)
            have e0 := hq.cell hfm
            clear b1 B6 y0 y1 y2 x3 x4 x5 x6 hq hln hrg RR
            generalize cst W H O (tN : Int) (fN : Int) = V at *
            obtain ⟨y0, y1, y2, x3, x4, x5, x6⟩ := B7.out.c
            go_wp2_with fail
            refine (AW.out w7 _ B7.out.x.below (Below.refl _ _)).mono ?_
            rintro e wZ ⟨rfl, hb⟩
            have HB := Lib.hid hb
            clear hb AW
            go_wp2
            go_ret
            exact Ret.mk rfl HB.out
          · have hmo : decide (k < cst W H O (tN : Int) (fN : Int)) = false := decide_eq_false (by omega)
            have HP := Lib.hid h7
            have HI5 := Lib.hid h6
            have hit : isL W H O (tN : Int) := (cst_wk hc).ends.2
            have HIT := Lib.hid hit
            clear h2 HE h6 h7 hit
            go_wp2_with fail
            refine (MC.out _).mono ?_
            rintro e w6 ⟨rfl, b1⟩
            rw [hln]
            have B6 := Lib.hid (B5.out.keep b1)
            have HI6 := Lib.hid (HI5.out.keep b1)
            clear b1 B5 y0 y1 y2 x3 x4 x5 x6 HI5
            obtain ⟨y0, y1, y2, x3, x4, x5, x6⟩ := B6.out.c
            go_wp2_with fail
            refine (RR.out _ B6.out.x.below).mono ?_
            rintro e w7 ⟨b1, rq, rfl, hq, hbd⟩
            have B7 := Lib.hid (B6.out.keep b1)
            have HI7 := Lib.hid (HI6.out.keep b1)
            have HQ := Lib.hid hq
            have HBD := Lib.hid hbd
            have e0 := hq.cell hfm
            clear b1 B6 y0 y1 y2 x3 x4 x5 x6 hq hln hrg RR HI6 hbd hc
            have hlen : 1 ≤ l.length := by
              obtain ⟨r, hr⟩ := HP.out.head
              rw [hr]; simp
            obtain ⟨y0, y1, y2, x3, x4, x5, x6⟩ := B7.out.c
            unfold maxLen at h4
            have hcV : cst W H O (tN : Int) (fN : Int) ≤ 12285 := v2
            generalize hVV : cst W H O (tN : Int) (fN : Int) = V at *
            clear hVV
            go_wp2
            clear e0 y0 y1 y2 x3 x4 x5 x6
            go_loopw [10, 11] (fun s10 s11 wr => ∃ (q kk : Nat), s10 = .int .i64 (kk : Int) ∧ s11 = .int .i64 (q : Int) ∧ kk < m ∧ q < l.length ∧ Hid (Pth W H O (cst W H O (tN : Int)) (tN : Int) (kk : Int) (l.drop q)) ∧ Hid (RowKit.Below w7.heap.size w7 wr)) (fun _ s11 _ => l.length - (intOf s11).toNat)
            case atStart => exact ⟨0, fN, rfl, rfl, hfm, by omega, HP.out, Below.refl _ _⟩
            case round =>
              obtain ⟨q, kk, rfl, rfl, hkk, hql, hPq, hB⟩ := hrel
              have BR := Lib.hid (B7.out.keep hB.out)
              obtain ⟨y0, y1, y2, x3, x4, x5, x6⟩ := BR.out.c
              obtain ⟨gp, op, rfl, hgp, hcl7⟩ := (HI7.out.keep hB.out) (by omega)
              have ew0 := hcl7 q hql
              obtain ⟨r, hr⟩ := hPq.out.head
              have hdq : l.getD q 0 = (kk : Int) := by
                have h9 := congrArg (·[0]?) hr
                simp only [List.getElem?_drop, Nat.add_zero, List.getElem?_cons_zero] at h9
                simp [List.getD, h9]
              have ew : wr.cell? ⟨gp, op + q, none⟩ = some (.int .i64 (kk : Int)) := by rw [← hdq]; exact ew0
              have hqI : decide ((q : Int) < (l.length : Int)) = true := decide_eq_true (by omega)
              have hqJ : (q : Int) < (l.length : Int) := by omega
              have hkI : ((kk : Int) != (kk : Int)) = false := by simp
              have hrl : r.length + 1 = l.length - q := by
                have h9 := congrArg List.length hr
                simp at h9
                omega
              have HCS : Hid ((kk = tN ∧ r = []) ∨ (kk ≠ tN ∧ ∃ n' : Int, 0 < cst W H O (tN : Int) (kk : Int) ∧ IsNx W H O (cst W H O (tN : Int)) (kk : Int) n' ∧ Pth W H O (cst W H O (tN : Int)) (tN : Int) n' r)) := by
                have hP := hPq.out
                rw [hr] at hP
                generalize hz : (kk : Int) = z at hP
                cases hP with
                | last => exact .inl ⟨by omega, rfl⟩
                | more h1 h2 h3 =>
                  subst hz
                  refine .inr ⟨fun e => ?_, _, h1, h2, h3⟩
                  subst e
                  rw [cst_here HIT.out] at h1
                  omega
              clear hcl7 hPq hdq hgp ew0
              rcases HCS.out with ⟨rfl, rfl⟩ | ⟨hne, n', hpos, hnx, hPn⟩
              · have hlq : l.length = q + 1 := by simp at hrl; omega
                have hkt : ((kk : Int) == (kk : Int)) = true := by simp
                clear HCS hr hrl HI7 HP
                generalize l.length = L at *
                subst hlq
                go_wp2_with fail
                refine (AW.out w7 _ B7.out.x.below hB.out).mono ?_
                rintro e wZ ⟨rfl, hb⟩
                have HB := Lib.hid hb
                clear hb AW
                go_wp2
                go_ret
                exact Ret.mk rfl HB.out
              · have hkt : ((kk : Int) == (tN : Int)) = false := by simp; omega
                have NC := Lib.hid (next13_any W H O m c rq tN kk A wr HLN.out ((HL.out.keep BR.out.x.below).bo) (HQ.out.keep hB.out) HBD.out hkk hpos)
                have HR := Lib.hid (And.intro hr (And.intro hnx hPn))
                clear HCS hr hnx hPn hpos
                go_wp2_with fail
                refine NC.out.mono ?_
                rintro e w8 ⟨m', rfl, hn8, b8⟩
                have hee := hn8.same HR.out.2.1
                subst hee
                obtain ⟨s', hs', hw', _, hgo⟩ := hn8
                have h0g := hw'.1
                have hisn := (go_is h0g).2
                rw [hgo] at hisn h0g
                obtain ⟨nN, hnN⟩ : ∃ nN : Nat, m' = (nN : Int) := ⟨m'.toNat, by omega⟩
                subst hnN
                have hnm : nN < m := by
                  have := hisn.2.1
                  have := HLN.out.sz
                  omega
                have HPN : Hid (Pth W H O (cst W H O (tN : Int)) (tN : Int) (nN : Int) (l.drop (q + 1))) := by
                  have h9 := congrArg List.tail HR.out.1
                  simp only [List.tail_drop, List.tail_cons] at h9
                  show Pth _ _ _ _ _ _ _
                  rw [h9]
                  exact HR.out.2.2
                have hq1 : q + 1 < l.length := by
                  obtain ⟨r', hr'⟩ := HR.out.2.2.head
                  rw [hr'] at hrl
                  simp at hrl
                  omega
                have HB8 := Lib.hid (hB.out.trans (b8.mono hB.out.size))
                clear b8 hs' hw' hgo h0g hisn NC HR hrl BR
                go_wp2
                go_roundw
                case rel => exact ⟨q + 1, nN, rfl, by go_num, hnm, hq1, HPN.out, HB8.out⟩
                case measure => simp [intOf]; omega
      · obtain ⟨E1, E2⟩ := er13_rng (O := O) hln hrg
        have HE := Lib.hid E1
        go_wp2_with fail
        refine (CC.out _ B3.out.x.below).mono ?_
        rintro e w4 ⟨⟨rfl, b1⟩, -, -⟩
        rw [E1, E2]
        have B4 := Lib.hid (B3.out.keep b1)
        clear b1 B3 y0 y1 y2 x3 x4 x5 x6 E1 E2
        obtain ⟨y0, y1, y2, x3, x4, x5, x6⟩ := B4.out.c
        go_wp2_with fail
        refine (WC.out _ B4.out.x.below).mono ?_
        intro e w5 hw
        obtain ⟨b1, rfl⟩ := way_err hw HE.out (by decide)
        have B5 := Lib.hid (B4.out.keep b1)
        clear b1 B4 y0 y1 y2 x3 x4 x5 x6 hw HE
        obtain ⟨y0, y1, y2, x3, x4, x5, x6⟩ := B5.out.c
        go_wp2_with fail
        refine (MC.out _).mono ?_
        rintro e w6 ⟨rfl, b1⟩
        rw [hln]
        have B6 := Lib.hid (B5.out.keep b1)
        clear b1 B5 y0 y1 y2 x3 x4 x5 x6 hln
        obtain ⟨y0, y1, y2, x3, x4, x5, x6⟩ := B6.out.c

        by_cases q0 : f < 0
        · have d0 : decide (f < 0) = true := decide_eq_true q0
          clear hrg
          go_wp2_with fail
          refine (AW.out w6 _ B6.out.x.below (Below.refl _ _)).mono ?_
          rintro e wZ ⟨rfl, hb⟩
          have HB := Lib.hid hb
          clear hb AW
          go_wp2
          go_ret
          exact Ret.mk rfl HB.out
        · have d0 : decide (f < 0) = false := decide_eq_false q0
          by_cases q1 : (m : Int) ≤ f
          · have d1 : decide ((m : Int) ≤ f) = true := decide_eq_true q1
            clear hrg
            go_wp2_with fail
            refine (AW.out w6 _ B6.out.x.below (Below.refl _ _)).mono ?_
            rintro e wZ ⟨rfl, hb⟩
            have HB := Lib.hid hb
            clear hb AW
            go_wp2
            go_ret
            exact Ret.mk rfl HB.out
          · have d1 : decide ((m : Int) ≤ f) = false := decide_eq_false q1
            by_cases q2 : t < 0
            · have d2 : decide (t < 0) = true := decide_eq_true q2
              clear hrg
              go_wp2_with fail
              refine (AW.out w6 _ B6.out.x.below (Below.refl _ _)).mono ?_
              rintro e wZ ⟨rfl, hb⟩
              have HB := Lib.hid hb
              clear hb AW
              go_wp2
              go_ret
              exact Ret.mk rfl HB.out
            · have d2 : decide (t < 0) = false := decide_eq_false q2
              by_cases q3 : (m : Int) ≤ t
              · have d3 : decide ((m : Int) ≤ t) = true := decide_eq_true q3
                clear hrg
                go_wp2_with fail
                refine (AW.out w6 _ B6.out.x.below (Below.refl _ _)).mono ?_
                rintro e wZ ⟨rfl, hb⟩
                have HB := Lib.hid hb
                clear hb AW
                go_wp2
                go_ret
                exact Ret.mk rfl HB.out
              · have d3 : decide ((m : Int) ≤ t) = false := decide_eq_false q3
                exact absurd ⟨⟨by omega, by omega⟩, by omega, by omega⟩ hrg
end Go.Proofs.YtcipedijjemghaaDoor
