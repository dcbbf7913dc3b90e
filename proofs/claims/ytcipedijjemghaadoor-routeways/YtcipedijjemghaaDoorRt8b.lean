/- The walk of the reference's Costs. -/
import Derived.Test.YtcipedijjemghaaDoorRt8
import Derived.Test.YtcipedijjemghaaDoorTak10
namespace Go.Proofs.YtcipedijjemghaaDoor
open Go.RowKit Go.Sort Go.Shelf
set_option linter.unusedVariables false
set_option linter.unusedSimpArgs false
attribute [local go_sem] Oper.semAt_some

set_option maxRecDepth 100000 in
set_option maxHeartbeats 16000000 in
theorem refCosts13_any (W H : Int) (O : Nat → Bool) (n ca b : Nat) (A : Option Addr) (w : World) (hL : Lnd W H n) (hO : Bo w A n O) (hnc : n ≤ ca) (hcm : ca ≤ maxLen) (hb : b < n) :
    Calls Tryd.prog 14 #[.agg #[.int .i64 W, .int .i64 H, .slice A n ca], .int .i64 (b : Int)] w (RetRc W H O n b w) := by
  have hn := hL.bd
  unfold maxLen at hcm
  have hmk := run_make_row' (P := Tryd.prog) 26 3 (.int .i64 0) 8 Tryd.underlying26 Tryd.infoI rfl .i64 .i64 n (by omega) (by omega)
  obtain ⟨g, o, rfl, hg, hcl⟩ := hO (by omega)
  have GC := Lib.hid (fun k s u (hu : RowKit.Below w.heap.size w u) hs h0 h1 => goes13_any W H O k s (some ⟨g, o, none⟩) n ca u w hL hO hu hs h0 h1)
  have HL := Lib.hid hL
  have HC := Lib.hid hcl
  have K0 := Lib.hid (Kx.new w 24 #[.int .i64 W, .int .i64 H, .slice (some ⟨g, o, none⟩) n ca])
  have HM := Lib.hid (Ir.made (w.alloc (.cells #[.int .i64 W, .int .i64 H, .slice (some ⟨g, o, none⟩) n ca] 24)) n)
  have K1 := Lib.hid (K0.out.alloc (.cells (madeCells #[.int .i64 0] n) 3))
  rw [size_alloc] at HM
  have hbI : (b : Int) < (n : Int) := by omega
  clear hO hL hcl
  go_enter Tryd.func14, Tryd.ntmps14
  go_wp2
  go_loopw [6] (fun t wr => ∃ k : Nat, k ≤ n ∧ t = .int .i64 (k : Int) ∧ Hid (Ir wr (w.heap.size + 1) n (fun i => if i < k then -1 else 0)) ∧ Hid (RowKit.Below w.heap.size w wr) ∧ Hid (wr.heap[w.heap.size]? = some (.cells #[.int .i64 W, .int .i64 H, .slice (some ⟨g, o, none⟩) n ca] 24 (0, 0)))) (fun t _ => n - (intOf t).toNat)
  case atStart => exact ⟨0, by omega, rfl, HM.out.congr (fun i _ => by simp), K1.out.below, K1.out.blk⟩
  case round =>
    obtain ⟨k, hk, rfl, hI, hB, hX⟩ := hrel
    by_cases hkn : k < n
    · have hkI : decide ((k : Int) < (n : Int)) = true := decide_eq_true (by omega)
      have hkJ : (k : Int) < (n : Int) := by omega
      have e0 := hI.out.cell hkn
      have e1 := hI.out.frozen k
      have HI2 := Lib.hid ((hI.out.set hkn (-1)).congr (Q := fun i => if i < k + 1 then -1 else 0) (fun i hi => by
        by_cases h : i = k
        · subst h; rw [upd_same]; simp
        · rw [upd_other _ _ _ h]
          by_cases h2 : i < k
          · simp [h2, Nat.lt_succ_of_lt h2]
          · have : ¬ i < k + 1 := by omega
            simp [h2, this]))
      have G := grown_set wr (w.heap.size + 1) k (.int .i64 (-1))
      have HB2 : Hid (RowKit.Below w.heap.size w (wr.setCell ⟨w.heap.size + 1, k, none⟩ (.int .i64 (-1)))) := hB.out.trans (grownBy_below G (fun r e => by injection e with e; omega) hB.out.size)
      have HX2 : Hid (_ = _) := (G.block _ (Array.getElem?_eq_some_iff.1 hX.out).1 (by simp)).trans hX.out
      clear G
      go_wp2
      go_roundw
      case rel => exact ⟨k + 1, by omega, by go_num, HI2.out, HB2.out, HX2.out⟩
      case measure => simp [intOf]; omega
    · have hkI : decide ((k : Int) < (n : Int)) = false := decide_eq_false (by omega)
      obtain rfl : k = n := by omega
      have HI2 := Lib.hid (hI.out.congr (Q := fun _ => -1) (fun i hi => by simp [hi]))
      have e2 : wr.cell? ⟨w.heap.size, 2, none⟩ = some (.slice (some ⟨g, o, none⟩) k ca) := by rw [cell_of_row _ _ 2 _ _ (0, 0) hX.out]; rfl
      have e3 : wr.cell? ⟨g, o + b, none⟩ = some (.bool (O b)) := (hB.out.cell (p := ⟨g, o + b, none⟩) hg).trans (HC.out b hb)
      have e4 := HI2.out.cell hb
      have e5 := HI2.out.frozen b
      clear hI hkn
      go_upto_if 28 with fail
      go_cut [28] (fun s28 wc => ∃ R : Nat → Int, Hid (Ir wc (w.heap.size + 1) k R) ∧ Hid (Rj W H O k b R) ∧ Hid (RowKit.Below w.heap.size w wc) ∧ Hid (wc.heap[w.heap.size]? = some (.cells #[.int .i64 W, .int .i64 H, .slice (some ⟨g, o, none⟩) k ca] 24 (0, 0))))
      case first =>
        cases hob : O b with
        | false =>
          rw [hob] at e3
          have HR : Hid (Rj W H O k b (fun _ => -1)) := .inr ⟨hob, fun _ _ => rfl⟩
          clear hob
          go_wp2
          go_meet
          exact ⟨_, HI2, HR, hB, hX⟩
        | true =>
          rw [hob] at e3
          have hisb : isL W H O (b : Int) := ⟨by omega, by have := HL.out.sz; omega, by rw [Int.toNat_natCast]; exact hob⟩
          have HR : Hid (Rj W H O k b (upd (fun _ => -1) b 0)) := by
            refine .inl ⟨hob, ?_, fun j hj => ?_⟩
            · rw [gR_upd _ _ (Int.le_refl _)]
              exact Wj.start hb hisb
            · by_cases e : j = b
              · subst e; rw [upd_same]; omega
              · rw [upd_other _ _ _ e]; exact .inl rfl
          have HI3 := Lib.hid (HI2.out.set hb 0)
          have G := grown_set wr (w.heap.size + 1) b (.int .i64 0)
          have HB3 : Hid (RowKit.Below w.heap.size w (wr.setCell ⟨w.heap.size + 1, b, none⟩ (.int .i64 0))) := hB.out.trans (grownBy_below G (fun r e => by injection e with e; omega) hB.out.size)
          have HX3 : Hid (_ = _) := (G.block _ (Array.getElem?_eq_some_iff.1 hX.out).1 (by simp)).trans hX.out
          clear hob G hisb
          go_wp2
          go_meet
          exact ⟨_, HI3, HR, HB3, HX3⟩
      case rest =>
        obtain ⟨R, hI, hR, hB2, hX2⟩ := hcut
        clear HI2 hB hX e2 e3 e4 e5 hmk HM K1
        go_wp2
        go_loopw [7] (fun s7 wr => ∃ (R : Nat → Int) (chg : Bool), s7 = .bool chg ∧ Hid (Ir wr (w.heap.size + 1) k R) ∧ Hid (Rj W H O k b R) ∧ Hid (chg = false → ∀ q, q < k → Pul W H O k R q 8) ∧ Hid (RowKit.Below w.heap.size w wr) ∧ Hid (wr.heap[w.heap.size]? = some (.cells #[.int .i64 W, .int .i64 H, .slice (some ⟨g, o, none⟩) k ca] 24 (0, 0)))) (fun s7 wr => mr13 k (w.heap.size + 1) s7 wr)
        case atStart => exact ⟨R, true, rfl, hI.out, hR.out, fun h => absurd h (by decide), hB2.out, hX2.out⟩
        case round =>
          clear R hI hR hB2 hX2
          obtain ⟨R0, chg, rfl, hI, hR, hP, hB, hX⟩ := hrel
          have hmu := mr13_is hI.out chg
          cases chg with
          | false =>
            have HD := Lib.hid (fun (q : Nat) (hq : q < k) => hR.out.done hn.2 HL.out.sz (hP.out rfl) hq)
            have HV := Lib.hid (fun (q : Nat) (hq : q < k) => hR.out.vals hq)
            clear hP hR hmu
            go_wp2
            go_ret
            refine ⟨hB.out, w.heap.size + 1, rfl, hI.out.congr (fun i hi => HD.out i hi), fun q hq => ?_⟩
            rw [← HD.out q hq]
            have := HV.out q hq
            omega
          | true =>
            rw [if_pos rfl] at hmu
            have P0 : Hid (Ps13 W H O k b R0 R0 false (∀ q, q < 0 → Pul W H O k R0 q 8)) := ⟨hR.out, .inl ⟨rfl, fun _ _ => rfl, fun q hq => absurd hq (by omega)⟩⟩
            clear hP hR
            obtain ⟨mu, hmu2⟩ : ∃ x, mr13 k (w.heap.size + 1) (.bool true) wr = x := ⟨_, rfl⟩
            have HMU : Hid (mr13 k (w.heap.size + 1) (.bool true) wr = mu) := hmu2
            have HMS : Hid (mu = sumR (gR R0) k + 1) := by show _ = _; rw [← hmu2, hmu]
            clear hmu hmu2
            obtain ⟨w0, hw0⟩ : ∃ x, x = wr := ⟨_, rfl⟩
            subst hw0
            go_wp2
            go_loopw [7, 8] (fun s7 s8 wr => ∃ (q : Nat) (R : Nat → Int) (chg : Bool), s7 = .bool chg ∧ s8 = .int .i64 (q : Int) ∧ q ≤ k ∧ Hid (Ir wr (w.heap.size + 1) k R) ∧ Hid (Ps13 W H O k b R0 R chg (∀ j, j < q → Pul W H O k R j 8)) ∧ Hid (RowKit.Below w.heap.size w wr) ∧ Hid (wr.heap[w.heap.size]? = some (.cells #[.int .i64 W, .int .i64 H, .slice (some ⟨g, o, none⟩) k ca] 24 (0, 0)))) (fun _ s8 _ => k - (intOf s8).toNat)
            case atStart => exact ⟨0, R0, false, rfl, rfl, by omega, hI.out, P0.out, hB.out, hX.out⟩
            case round =>
              clear hI P0 hB hX
              obtain ⟨q, R, chg, rfl, rfl, hq, hI, hPs, hB, hX⟩ := hrel
              obtain ⟨w1, hw1⟩ : ∃ x, x = wr := ⟨_, rfl⟩
              subst hw1
              by_cases hqk : q < k
              · have hqI : decide ((q : Int) < (k : Int)) = true := decide_eq_true (by omega)
                have hqJ : (q : Int) < (k : Int) := by omega
                have P1 : Hid (Ps13 W H O k b R0 R chg ((∀ j, j < q → Pul W H O k R j 8) ∧ Pul W H O k R q 0)) := hPs.out.mono fun h => ⟨h, fun t _ ht => absurd ht (by omega)⟩
                clear hPs
                go_wp2
                go_loopw [7, 9] (fun s7 s9 wr => ∃ (s : Nat) (R : Nat → Int) (chg : Bool), s7 = .bool chg ∧ s9 = .int .i64 (s : Int) ∧ s ≤ 8 ∧ Hid (Ir wr (w.heap.size + 1) k R) ∧ Hid (Ps13 W H O k b R0 R chg ((∀ j, j < q → Pul W H O k R j 8) ∧ Pul W H O k R q s)) ∧ Hid (RowKit.Below w.heap.size w wr) ∧ Hid (wr.heap[w.heap.size]? = some (.cells #[.int .i64 W, .int .i64 H, .slice (some ⟨g, o, none⟩) k ca] 24 (0, 0)))) (fun _ s9 _ => 8 - (intOf s9).toNat)
                case atStart => exact ⟨0, R, chg, rfl, rfl, by omega, hI.out, P1.out, hB.out, hX.out⟩
                case round =>
                  clear hI P1 hB hX
                  obtain ⟨s, R, chg, rfl, rfl, hs, hI, hPs, hB, hX⟩ := hrel
                  obtain ⟨w2, hw2⟩ : ∃ x, x = wr := ⟨_, rfl⟩
                  subst hw2
                  by_cases hs8 : s < 8
                  · have hsI : decide ((s : Int) < 8) = true := decide_eq_true (by omega)
                    obtain ⟨p1, p2⟩ := prc_bd s
                    have C := Lib.hid (GC.out (q : Int) s w2 hB.out hs8 (by omega) (by have := HL.out.sz; omega))
                    have c0 : w2.cell? ⟨w.heap.size, 0, none⟩ = some (.int .i64 W) := by rw [cell_of_row _ _ 0 _ _ (0, 0) hX.out]; rfl
                    have c1 : w2.cell? ⟨w.heap.size, 1, none⟩ = some (.int .i64 H) := by rw [cell_of_row _ _ 1 _ _ (0, 0) hX.out]; rfl
                    have c2 : w2.cell? ⟨w.heap.size, 2, none⟩ = some (.slice (some ⟨g, o, none⟩) k ca) := by rw [cell_of_row _ _ 2 _ _ (0, 0) hX.out]; rfl
                    go_wp2_with fail
                    refine C.out.mono ?_
                    rintro e w3 ⟨rfl, b3⟩
                    have I3 := Lib.hid (hI.out.keep b3)
                    have B3 := Lib.hid (hB.out.trans (b3.mono hB.out.size))
                    have X3 : Hid (w3.heap[w.heap.size]? = some (.cells #[.int .i64 W, .int .i64 H, .slice (some ⟨g, o, none⟩) k ca] 24 (0, 0))) := (b3.block _ (Array.getElem?_eq_some_iff.1 hX.out).1).trans hX.out
                    clear b3 C c0 c1 c2 hI hB hX
                    cases hd : decide (0 ≤ goL W H O (q : Int) s) with
                    | false =>
                      have hn' : ¬ 0 ≤ goL W H O (q : Int) s := of_decide_eq_false hd
                      have hz := go_neg hn'
                      rw [hz]
                      have P2 : Hid (Ps13 W H O k b R0 R chg ((∀ j, j < q → Pul W H O k R j 8) ∧ Pul W H O k R q (s + 1))) := hPs.out.mono fun h => ⟨h.1, h.2.next (fun m hm e => absurd e (by rw [hz]; omega))⟩
                      clear hPs
                      clear hd hn' hz
                      have c2 : w3.cell? ⟨w.heap.size, 2, none⟩ = some (.slice (some ⟨g, o, none⟩) k ca) := by rw [cell_of_row _ _ 2 _ _ (0, 0) X3.out]; rfl
                      go_wp2
                      have k0 := cell_regrown c2
                      refine wp_region_quiet_below (by kernel_rfl) (by kernel_rfl) ?_
                      repeat (go_big_quiet_step (fail))
                      refine wpQuiet_nil ?_
                      intro _ hw'
                      obtain ⟨⟨dq, osq⟩, hw''⟩ := hw'
                      subst hw''
                      have hb4 := below_regrown w3 dq osq
                      have I4 := Lib.hid (I3.out.keep hb4)
                      have B4 := Lib.hid (B3.out.trans (hb4.mono B3.out.size))
                      have X4 : Hid ((Go.Sort.grow (redrawn w3 dq) osq).heap[w.heap.size]? = some (.cells #[.int .i64 W, .int .i64 H, .slice (some ⟨g, o, none⟩) k ca] 24 (0, 0))) := (hb4.block _ (Array.getElem?_eq_some_iff.1 X3.out).1).trans X3.out
                      clear k0 hb4 I3 B3 X3 c2
                      generalize Go.Sort.grow (redrawn w3 dq) osq = w4 at *
                      have I5 := I4
                      have B5 := B4
                      have X5 := X4
                      clear I4 B4 X4
                      go_wp2
                      go_roundw
                      case rel => exact ⟨s + 1, _, chg, rfl, by go_num, by omega, I5.out, P2.out, B5.out, X5.out⟩
                      case measure => simp [intOf]; omega
                    | true =>
                      have hg0 : 0 ≤ goL W H O (q : Int) s := of_decide_eq_true hd
                      obtain ⟨m, hm⟩ : ∃ m : Nat, goL W H O (q : Int) s = (m : Int) := ⟨(goL W H O (q : Int) s).toNat, by omega⟩
                      have hmk : m < k := by
                        have := (go_is hg0).2.2.1
                        have := HL.out.sz
                        omega
                      have hmI : (m : Int) < (k : Int) := by omega
                      have e0 := I3.out.cell hmk
                      have e1 := I3.out.cell hqk
                      have hvm := hPs.out.1.vals hmk
                      have hvq := hPs.out.1.vals hqk
                      rw [hm]
                      clear hd hg0
                      by_cases hRm : R m = -1
                      · rw [hRm] at e0
                        have P2 : Hid (Ps13 W H O k b R0 R chg ((∀ j, j < q → Pul W H O k R j 8) ∧ Pul W H O k R q (s + 1))) := hPs.out.mono fun h => ⟨h.1, h.2.next (fun m' hm' e hf => absurd hRm (by rw [show m = m' by omega]; exact hf))⟩
                        clear hPs
                        clear hm hRm hvm hvq
                        go_wp2
                        have k0 := cell_regrown e0
                        have k1 := cell_regrown e1
                        refine wp_region_quiet_below (by kernel_rfl) (by kernel_rfl) ?_
                        repeat (go_big_quiet_step (fail))
                        refine wpQuiet_nil ?_
                        intro _ hw'
                        obtain ⟨⟨dq, osq⟩, hw''⟩ := hw'
                        subst hw''
                        have hb4 := below_regrown w3 dq osq
                        have I4 := Lib.hid (I3.out.keep hb4)
                        have B4 := Lib.hid (B3.out.trans (hb4.mono B3.out.size))
                        have X4 : Hid ((Go.Sort.grow (redrawn w3 dq) osq).heap[w.heap.size]? = some (.cells #[.int .i64 W, .int .i64 H, .slice (some ⟨g, o, none⟩) k ca] 24 (0, 0))) := (hb4.block _ (Array.getElem?_eq_some_iff.1 X3.out).1).trans X3.out
                        clear k0 k1 hb4 I3 B3 X3 e0 e1
                        generalize Go.Sort.grow (redrawn w3 dq) osq = w4 at *
                        have I5 := I4
                        have B5 := B4
                        have X5 := X4
                        clear I4 B4 X4
                        go_wp2
                        go_roundw
                        case rel => exact ⟨s + 1, _, chg, rfl, by go_num, by omega, I5.out, P2.out, B5.out, X5.out⟩
                        case measure => simp [intOf]; omega
                      · have hRm1 := hRm
                        have hRm0 : 0 ≤ R m ∧ R m ≤ 12285 := hvm.resolve_left hRm
                        have hR0 : decide (0 ≤ R m) = true := decide_eq_true hRm0.1
                        obtain ⟨hm1, hm2⟩ := hRm0
                        by_cases hRq : R q = -1
                        · rw [hRq] at e1
                          have hup : R q = -1 ∨ R m + prc s < R q := .inl hRq
                          clear hRm hvm hvq
                          go_wp2
                          have k0 := cell_regrown e0
                          have k1 := cell_regrown e1
                          refine wp_region_quiet_below (by kernel_rfl) (by kernel_rfl) ?_
                          repeat (go_big_quiet_step (fail))
                          refine wpQuiet_nil ?_
                          intro _ hw'
                          obtain ⟨⟨dq, osq⟩, hw''⟩ := hw'
                          subst hw''
                          have hb4 := below_regrown w3 dq osq
                          have I4 := Lib.hid (I3.out.keep hb4)
                          have B4 := Lib.hid (B3.out.trans (hb4.mono B3.out.size))
                          have X4 : Hid ((Go.Sort.grow (redrawn w3 dq) osq).heap[w.heap.size]? = some (.cells #[.int .i64 W, .int .i64 H, .slice (some ⟨g, o, none⟩) k ca] 24 (0, 0))) := (hb4.block _ (Array.getElem?_eq_some_iff.1 X3.out).1).trans X3.out
                          clear k0 k1 hb4 I3 B3 X3 e0 e1
                          generalize Go.Sort.grow (redrawn w3 dq) osq = w4 at *
                          clear hRq
                          have P2 : Hid (Ps13 W H O k b R0 (upd R q (R m + prc s)) true ((∀ j, j < q → Pul W H O k (upd R q (R m + prc s)) j 8) ∧ Pul W H O k (upd R q (R m + prc s)) q (s + 1))) := hPs.out.fall hn.2 hs8 hqk hmk hm hRm1 hup
                          clear hPs hup
                          go_wp2_with fail
                          have I6 : Hid (Ir w4.drew (w.heap.size + 1) k R) := I4.out.keep (Below.refl _ _).drew
                          have B6 : Hid (RowKit.Below w.heap.size w w4.drew) := B4.out.drew
                          have X6 : Hid (w4.drew.heap[w.heap.size]? = some (.cells #[.int .i64 W, .int .i64 H, .slice (some ⟨g, o, none⟩) k ca] 24 (0, 0))) := X4.out
                          refine wp_regionT (m := 10) (R := fun _ => True) (B := (fun w' : World => w'.cell? ⟨w.heap.size + 1, m, none⟩ = some (.int .i64 (R m)))) (by kernel_rfl) ?_
                          clear I4 B4 X4
                          generalize w4.drew = w5 at *
                          have HBB : Hid ((fun w' : World => w'.cell? ⟨w.heap.size + 1, m, none⟩ = some (.int .i64 (R m))) w5) := I6.out.cell hmk
                          have HS : Hid (True ∧ (fun w' : World => w'.cell? ⟨w.heap.size + 1, m, none⟩ = some (.int .i64 (R m))) w5) := ⟨trivial, HBB.out⟩
                          simp only [List.size_toArray, List.length_cons, List.length_nil, Nat.reduceAdd, Array.replicate_succ, Array.replicate_zero, List.push_toArray, List.nil_append, List.cons_append]
                          refine wpAnyT_take (i := 0) (v := ?_) rfl (by kernel_rfl) (by kernel_rfl) (by kernel_rfl) (by kernel_rfl) (by kernel_rfl) (by kernel_rfl) (fun _ _ _ h => h) (Or.inl ⟨by rfl, ?_⟩) HS.out ?_
                          rotate_left
                          · rintro w' ⟨-, hb0⟩
                            go_simp
                            with_reducible rfl
                          simp only [Act.put, List.getElem_toArray, List.getElem_cons_zero, List.getElem_cons_succ, List.setIfInBounds_toArray, List.set_cons_zero, List.set_cons_succ]
                          refine wpAnyT_take (i := 1) (v := ?_) rfl (by kernel_rfl) (by kernel_rfl) (by kernel_rfl) (by kernel_rfl) (by kernel_rfl) (by kernel_rfl) (fun _ _ _ h => h) (Or.inl ⟨by rfl, ?_⟩) HS.out ?_
                          rotate_left
                          · rintro w' ⟨-, hb0⟩
                            go_simp
                            with_reducible rfl
                          simp only [Act.put, List.getElem_toArray, List.getElem_cons_zero, List.getElem_cons_succ, List.setIfInBounds_toArray, List.set_cons_zero, List.set_cons_succ]
                          refine wpAnyT_take (i := 2) (v := ?_) rfl (by kernel_rfl) (by kernel_rfl) (by kernel_rfl) (by kernel_rfl) (by kernel_rfl) (by kernel_rfl) (fun _ _ _ h => h) (Or.inl ⟨by rfl, ?_⟩) HS.out ?_
                          rotate_left
                          · rintro w' ⟨-, hb0⟩
                            go_simp
                            with_reducible rfl
                          simp only [Act.put, List.getElem_toArray, List.getElem_cons_zero, List.getElem_cons_succ, List.setIfInBounds_toArray, List.set_cons_zero, List.set_cons_succ]
                          refine wpAnyT_take (i := 3) (v := ?_) rfl (by kernel_rfl) (by kernel_rfl) (by kernel_rfl) (by kernel_rfl) (by kernel_rfl) (by kernel_rfl) (fun _ _ _ h => h) (Or.inl ⟨by rfl, ?_⟩) HS.out ?_
                          rotate_left
                          · rintro w' ⟨-, hb0⟩
                            go_simp
                            with_reducible rfl
                          simp only [Act.put, List.getElem_toArray, List.getElem_cons_zero, List.getElem_cons_succ, List.setIfInBounds_toArray, List.set_cons_zero, List.set_cons_succ]
                          refine wpAnyT_take (i := 4) (v := ?_) rfl (by kernel_rfl) (by kernel_rfl) (by kernel_rfl) (by kernel_rfl) (by kernel_rfl) (by kernel_rfl) (fun _ _ _ h => h) (Or.inl ⟨by rfl, ?_⟩) HS.out ?_
                          rotate_left
                          · rintro w' ⟨-, hb0⟩
                            go_simp
                            with_reducible rfl
                          simp only [Act.put, List.getElem_toArray, List.getElem_cons_zero, List.getElem_cons_succ, List.setIfInBounds_toArray, List.set_cons_zero, List.set_cons_succ]
                          refine wpAnyT_take (i := 5) (v := ?_) rfl (by kernel_rfl) (by kernel_rfl) (by kernel_rfl) (by kernel_rfl) (by kernel_rfl) (by kernel_rfl) (fun _ _ _ h => h) (Or.inl ⟨by rfl, ?_⟩) HS.out ?_
                          rotate_left
                          · rintro w' ⟨-, hb0⟩
                            go_simp
                            with_reducible rfl
                          simp only [Act.put, List.getElem_toArray, List.getElem_cons_zero, List.getElem_cons_succ, List.setIfInBounds_toArray, List.set_cons_zero, List.set_cons_succ]
                          refine wpAnyT_take (i := 6) (v := ?_) rfl (by kernel_rfl) (by kernel_rfl) (by kernel_rfl) (by kernel_rfl) (by kernel_rfl) (by kernel_rfl) (fun _ _ _ h => h) (Or.inl ⟨by rfl, ?_⟩) HS.out ?_
                          rotate_left
                          · rintro w' ⟨-, hb0⟩
                            go_simp
                            with_reducible rfl
                          simp only [Act.put, List.getElem_toArray, List.getElem_cons_zero, List.getElem_cons_succ, List.setIfInBounds_toArray, List.set_cons_zero, List.set_cons_succ]
                          refine wpAnyT_one (i := 7) (by kernel_rfl) rfl (fun K' hK => ?_)
                          rw [if_pos (by rfl)]
                          simp only [List.getElem_toArray, List.getElem_cons_zero, List.getElem_cons_succ, List.setIfInBounds_toArray, List.set_cons_zero, List.set_cons_succ] at hK ⊢
                          have HK' := Lib.hid hK
                          clear hK
                          go_simp
                          refine (price13_eq s _ hs8).mono ?_
                          rintro e w' ⟨rfl, rfl⟩
                          refine HK'.out _ _ trivial (fun _ => HBB.out) ?_
                          clear HK'
                          refine wpAnyT_one (i := 8) (by kernel_rfl) rfl (fun K' hK => ?_)
                          rw [if_pos (by rfl)]
                          simp only [List.getElem_toArray, List.getElem_cons_zero, List.getElem_cons_succ, List.setIfInBounds_toArray, List.set_cons_zero, List.set_cons_succ] at hK ⊢
                          have HK' := Lib.hid hK
                          clear hK
                          go_simp
                          refine HK'.out _ _ trivial (fun _ => HBB.out) ?_
                          clear HK'
                          refine wpAnyT_one (i := 9) (by kernel_rfl) rfl (fun K' hK => ?_)
                          rw [if_pos (by rfl)]
                          simp only [List.getElem_toArray, List.getElem_cons_zero, List.getElem_cons_succ, List.setIfInBounds_toArray, List.set_cons_zero, List.set_cons_succ] at hK ⊢
                          have HK' := Lib.hid hK
                          clear hK
                          go_simp
                          refine HK'.out _ _ trivial (fun _ => HBB.out) ?_
                          clear HK'
                          refine wpAnyT_one (i := 10) (by kernel_rfl) rfl (fun K' hK => ?_)
                          rw [if_pos (by rfl)]
                          simp only [List.getElem_toArray, List.getElem_cons_zero, List.getElem_cons_succ, List.setIfInBounds_toArray, List.set_cons_zero, List.set_cons_succ] at hK ⊢
                          have HK' := Lib.hid hK
                          clear hK
                          have eq := I6.out.cell hqk
                          have fq := I6.out.frozen q
                          go_simp
                          have I5 := Lib.hid (I6.out.set hqk (R m + prc s))
                          have GG := grown_set w5 (w.heap.size + 1) q (.int .i64 (R m + prc s))
                          have B5 := Lib.hid (B6.out.trans (grownBy_below GG (fun r e => by injection e with e; omega) B6.out.size))
                          have X5 : Hid ((w5.setCell ⟨w.heap.size + 1, q, none⟩ (.int .i64 (R m + prc s))).heap[w.heap.size]? = some (.cells #[.int .i64 W, .int .i64 H, .slice (some ⟨g, o, none⟩) k ca] 24 (0, 0))) := (GG.block _ (Array.getElem?_eq_some_iff.1 X6.out).1 (by simp)).trans X6.out
                          refine HK'.out _ _ trivial (fun hh => absurd hh (by decide)) ?_
                          clear HK' eq fq GG I6 B6 X6 HBB HS
                          refine wpAnyT_done (by kernel_rfl) ?_ _
                          go_wp2
                          go_roundw
                          case rel => exact ⟨s + 1, _, true, rfl, by go_num, by omega, I5.out, P2.out, B5.out, X5.out⟩
                          case measure => simp [intOf]; omega
                        · have hRq0 : 0 ≤ R q ∧ R q ≤ 12285 := hvq.resolve_left hRq
                          have hRl : decide (R q < 0) = false := decide_eq_false (by omega)
                          obtain ⟨hq1, hq2⟩ := hRq0
                          have HPC := Lib.hid (re13 (V := w3) (fun u => price13_any s u hs8))
                          by_cases hlt : R m + prc s < R q
                          · have hltd : decide (R m + prc s < R q) = true := decide_eq_true hlt
                            have hup : R q = -1 ∨ R m + prc s < R q := .inr hlt
                            clear hRm hvm hvq hlt
                            go_wp2
                            have k0 := cell_regrown e0
                            have k1 := cell_regrown e1
                            refine wp_region_quiet_below (by kernel_rfl) (by kernel_rfl) ?_
                            repeat (go_big_quiet_step (with_reducible exact HPC.out _ _))
                            refine wpQuiet_nil ?_
                            intro _ hw'
                            obtain ⟨⟨dq, osq⟩, hw''⟩ := hw'
                            subst hw''
                            have hb4 := below_regrown w3 dq osq
                            have I4 := Lib.hid (I3.out.keep hb4)
                            have B4 := Lib.hid (B3.out.trans (hb4.mono B3.out.size))
                            have X4 : Hid ((Go.Sort.grow (redrawn w3 dq) osq).heap[w.heap.size]? = some (.cells #[.int .i64 W, .int .i64 H, .slice (some ⟨g, o, none⟩) k ca] 24 (0, 0))) := (hb4.block _ (Array.getElem?_eq_some_iff.1 X3.out).1).trans X3.out
                            clear k0 k1 hb4 I3 B3 X3 e0 e1
                            generalize Go.Sort.grow (redrawn w3 dq) osq = w4 at *
                            clear HPC hRq
                            have P2 : Hid (Ps13 W H O k b R0 (upd R q (R m + prc s)) true ((∀ j, j < q → Pul W H O k (upd R q (R m + prc s)) j 8) ∧ Pul W H O k (upd R q (R m + prc s)) q (s + 1))) := hPs.out.fall hn.2 hs8 hqk hmk hm hRm1 hup
                            clear hPs hup
                            go_wp2_with fail
                            have I6 : Hid (Ir w4.drew (w.heap.size + 1) k R) := I4.out.keep (Below.refl _ _).drew
                            have B6 : Hid (RowKit.Below w.heap.size w w4.drew) := B4.out.drew
                            have X6 : Hid (w4.drew.heap[w.heap.size]? = some (.cells #[.int .i64 W, .int .i64 H, .slice (some ⟨g, o, none⟩) k ca] 24 (0, 0))) := X4.out
                            refine wp_regionT (m := 10) (R := fun _ => True) (B := (fun w' : World => w'.cell? ⟨w.heap.size + 1, m, none⟩ = some (.int .i64 (R m)))) (by kernel_rfl) ?_
                            clear I4 B4 X4
                            generalize w4.drew = w5 at *
                            have HBB : Hid ((fun w' : World => w'.cell? ⟨w.heap.size + 1, m, none⟩ = some (.int .i64 (R m))) w5) := I6.out.cell hmk
                            have HS : Hid (True ∧ (fun w' : World => w'.cell? ⟨w.heap.size + 1, m, none⟩ = some (.int .i64 (R m))) w5) := ⟨trivial, HBB.out⟩
                            simp only [List.size_toArray, List.length_cons, List.length_nil, Nat.reduceAdd, Array.replicate_succ, Array.replicate_zero, List.push_toArray, List.nil_append, List.cons_append]
                            refine wpAnyT_take (i := 0) (v := ?_) rfl (by kernel_rfl) (by kernel_rfl) (by kernel_rfl) (by kernel_rfl) (by kernel_rfl) (by kernel_rfl) (fun _ _ _ h => h) (Or.inl ⟨by rfl, ?_⟩) HS.out ?_
                            rotate_left
                            · rintro w' ⟨-, hb0⟩
                              go_simp
                              with_reducible rfl
                            simp only [Act.put, List.getElem_toArray, List.getElem_cons_zero, List.getElem_cons_succ, List.setIfInBounds_toArray, List.set_cons_zero, List.set_cons_succ]
                            refine wpAnyT_take (i := 1) (v := ?_) rfl (by kernel_rfl) (by kernel_rfl) (by kernel_rfl) (by kernel_rfl) (by kernel_rfl) (by kernel_rfl) (fun _ _ _ h => h) (Or.inl ⟨by rfl, ?_⟩) HS.out ?_
                            rotate_left
                            · rintro w' ⟨-, hb0⟩
                              go_simp
                              with_reducible rfl
                            simp only [Act.put, List.getElem_toArray, List.getElem_cons_zero, List.getElem_cons_succ, List.setIfInBounds_toArray, List.set_cons_zero, List.set_cons_succ]
                            refine wpAnyT_take (i := 2) (v := ?_) rfl (by kernel_rfl) (by kernel_rfl) (by kernel_rfl) (by kernel_rfl) (by kernel_rfl) (by kernel_rfl) (fun _ _ _ h => h) (Or.inl ⟨by rfl, ?_⟩) HS.out ?_
                            rotate_left
                            · rintro w' ⟨-, hb0⟩
                              go_simp
                              with_reducible rfl
                            simp only [Act.put, List.getElem_toArray, List.getElem_cons_zero, List.getElem_cons_succ, List.setIfInBounds_toArray, List.set_cons_zero, List.set_cons_succ]
                            refine wpAnyT_take (i := 3) (v := ?_) rfl (by kernel_rfl) (by kernel_rfl) (by kernel_rfl) (by kernel_rfl) (by kernel_rfl) (by kernel_rfl) (fun _ _ _ h => h) (Or.inl ⟨by rfl, ?_⟩) HS.out ?_
                            rotate_left
                            · rintro w' ⟨-, hb0⟩
                              go_simp
                              with_reducible rfl
                            simp only [Act.put, List.getElem_toArray, List.getElem_cons_zero, List.getElem_cons_succ, List.setIfInBounds_toArray, List.set_cons_zero, List.set_cons_succ]
                            refine wpAnyT_take (i := 4) (v := ?_) rfl (by kernel_rfl) (by kernel_rfl) (by kernel_rfl) (by kernel_rfl) (by kernel_rfl) (by kernel_rfl) (fun _ _ _ h => h) (Or.inl ⟨by rfl, ?_⟩) HS.out ?_
                            rotate_left
                            · rintro w' ⟨-, hb0⟩
                              go_simp
                              with_reducible rfl
                            simp only [Act.put, List.getElem_toArray, List.getElem_cons_zero, List.getElem_cons_succ, List.setIfInBounds_toArray, List.set_cons_zero, List.set_cons_succ]
                            refine wpAnyT_take (i := 5) (v := ?_) rfl (by kernel_rfl) (by kernel_rfl) (by kernel_rfl) (by kernel_rfl) (by kernel_rfl) (by kernel_rfl) (fun _ _ _ h => h) (Or.inl ⟨by rfl, ?_⟩) HS.out ?_
                            rotate_left
                            · rintro w' ⟨-, hb0⟩
                              go_simp
                              with_reducible rfl
                            simp only [Act.put, List.getElem_toArray, List.getElem_cons_zero, List.getElem_cons_succ, List.setIfInBounds_toArray, List.set_cons_zero, List.set_cons_succ]
                            refine wpAnyT_take (i := 6) (v := ?_) rfl (by kernel_rfl) (by kernel_rfl) (by kernel_rfl) (by kernel_rfl) (by kernel_rfl) (by kernel_rfl) (fun _ _ _ h => h) (Or.inl ⟨by rfl, ?_⟩) HS.out ?_
                            rotate_left
                            · rintro w' ⟨-, hb0⟩
                              go_simp
                              with_reducible rfl
                            simp only [Act.put, List.getElem_toArray, List.getElem_cons_zero, List.getElem_cons_succ, List.setIfInBounds_toArray, List.set_cons_zero, List.set_cons_succ]
                            refine wpAnyT_one (i := 7) (by kernel_rfl) rfl (fun K' hK => ?_)
                            rw [if_pos (by rfl)]
                            simp only [List.getElem_toArray, List.getElem_cons_zero, List.getElem_cons_succ, List.setIfInBounds_toArray, List.set_cons_zero, List.set_cons_succ] at hK ⊢
                            have HK' := Lib.hid hK
                            clear hK
                            go_simp
                            refine (price13_eq s _ hs8).mono ?_
                            rintro e w' ⟨rfl, rfl⟩
                            refine HK'.out _ _ trivial (fun _ => HBB.out) ?_
                            clear HK'
                            refine wpAnyT_one (i := 8) (by kernel_rfl) rfl (fun K' hK => ?_)
                            rw [if_pos (by rfl)]
                            simp only [List.getElem_toArray, List.getElem_cons_zero, List.getElem_cons_succ, List.setIfInBounds_toArray, List.set_cons_zero, List.set_cons_succ] at hK ⊢
                            have HK' := Lib.hid hK
                            clear hK
                            go_simp
                            refine HK'.out _ _ trivial (fun _ => HBB.out) ?_
                            clear HK'
                            refine wpAnyT_one (i := 9) (by kernel_rfl) rfl (fun K' hK => ?_)
                            rw [if_pos (by rfl)]
                            simp only [List.getElem_toArray, List.getElem_cons_zero, List.getElem_cons_succ, List.setIfInBounds_toArray, List.set_cons_zero, List.set_cons_succ] at hK ⊢
                            have HK' := Lib.hid hK
                            clear hK
                            go_simp
                            refine HK'.out _ _ trivial (fun _ => HBB.out) ?_
                            clear HK'
                            refine wpAnyT_one (i := 10) (by kernel_rfl) rfl (fun K' hK => ?_)
                            rw [if_pos (by rfl)]
                            simp only [List.getElem_toArray, List.getElem_cons_zero, List.getElem_cons_succ, List.setIfInBounds_toArray, List.set_cons_zero, List.set_cons_succ] at hK ⊢
                            have HK' := Lib.hid hK
                            clear hK
                            have eq := I6.out.cell hqk
                            have fq := I6.out.frozen q
                            go_simp
                            have I5 := Lib.hid (I6.out.set hqk (R m + prc s))
                            have GG := grown_set w5 (w.heap.size + 1) q (.int .i64 (R m + prc s))
                            have B5 := Lib.hid (B6.out.trans (grownBy_below GG (fun r e => by injection e with e; omega) B6.out.size))
                            have X5 : Hid ((w5.setCell ⟨w.heap.size + 1, q, none⟩ (.int .i64 (R m + prc s))).heap[w.heap.size]? = some (.cells #[.int .i64 W, .int .i64 H, .slice (some ⟨g, o, none⟩) k ca] 24 (0, 0))) := (GG.block _ (Array.getElem?_eq_some_iff.1 X6.out).1 (by simp)).trans X6.out
                            refine HK'.out _ _ trivial (fun hh => absurd hh (by decide)) ?_
                            clear HK' eq fq GG I6 B6 X6 HBB HS
                            refine wpAnyT_done (by kernel_rfl) ?_ _
                            go_wp2
                            go_roundw
                            case rel => exact ⟨s + 1, _, true, rfl, by go_num, by omega, I5.out, P2.out, B5.out, X5.out⟩
                            case measure => simp [intOf]; omega
                          · have hltd : decide (R m + prc s < R q) = false := decide_eq_false hlt
                            have P2 : Hid (Ps13 W H O k b R0 R chg ((∀ j, j < q → Pul W H O k R j 8) ∧ Pul W H O k R q (s + 1))) := hPs.out.mono fun h => ⟨h.1, h.2.next (fun m' hm' e hf => by
                              have : m' = m := by omega
                              subst this
                              exact ⟨hRq, by omega⟩)⟩
                            clear hPs
                            clear hm hRm hvm hvq hlt
                            go_wp2
                            have k0 := cell_regrown e0
                            have k1 := cell_regrown e1
                            refine wp_region_quiet_below (by kernel_rfl) (by kernel_rfl) ?_
                            repeat (go_big_quiet_step (with_reducible exact HPC.out _ _))
                            refine wpQuiet_nil ?_
                            intro _ hw'
                            obtain ⟨⟨dq, osq⟩, hw''⟩ := hw'
                            subst hw''
                            have hb4 := below_regrown w3 dq osq
                            have I4 := Lib.hid (I3.out.keep hb4)
                            have B4 := Lib.hid (B3.out.trans (hb4.mono B3.out.size))
                            have X4 : Hid ((Go.Sort.grow (redrawn w3 dq) osq).heap[w.heap.size]? = some (.cells #[.int .i64 W, .int .i64 H, .slice (some ⟨g, o, none⟩) k ca] 24 (0, 0))) := (hb4.block _ (Array.getElem?_eq_some_iff.1 X3.out).1).trans X3.out
                            clear k0 k1 hb4 I3 B3 X3 e0 e1
                            generalize Go.Sort.grow (redrawn w3 dq) osq = w4 at *
                            clear HPC
                            have I5 := I4
                            have B5 := B4
                            have X5 := X4
                            clear I4 B4 X4
                            go_wp2
                            go_roundw
                            case rel => exact ⟨s + 1, _, chg, rfl, by go_num, by omega, I5.out, P2.out, B5.out, X5.out⟩
                            case measure => simp [intOf]; omega
                  · have hsI : decide ((s : Int) < 8) = false := decide_eq_false (by omega)
                    obtain rfl : s = 8 := by omega
                    have P2 : Hid (Ps13 W H O k b R0 R chg (∀ j, j < q + 1 → Pul W H O k R j 8)) := hPs.out.mono fun h j hj => by
                      by_cases e : j = q
                      · subst e; exact h.2
                      · exact h.1 j (by omega)
                    clear hPs hs8
                    go_wp2
                    go_roundw
                    case rel => exact ⟨q + 1, R, chg, rfl, by go_num, by omega, hI.out, P2.out, hB.out, hX.out⟩
                    case measure => simp [intOf]; omega
              · have hqI : decide ((q : Int) < (k : Int)) = false := decide_eq_false (by omega)
                obtain rfl : q = k := by omega
                have hmu := mr13_is hI.out chg
                have HF : Hid (chg = false → ∀ j, j < q → Pul W H O q R j 8) := by
                  intro h
                  rcases hPs.out.2 with ⟨_, _, h2⟩ | ⟨h2, _⟩
                  · exact h2
                  · rw [h] at h2; cases h2
                have HLT : sumR (gR R) q + (if chg = true then 1 else 0) < mu := by
                  rw [HMS.out]
                  rcases hPs.out.2 with ⟨h1, h2, _⟩ | ⟨h1, h2⟩
                  · rw [h1, sumR_congr (R := gR R) (Q := gR R0) (fun i hi => by unfold gR; rw [h2 i hi])]
                    simp
                  · rw [if_pos h1]; omega
                have HRJ := Lib.hid hPs.out.1
                clear hPs hqk
                go_wp2
                go_roundw
                case rel => exact ⟨R, chg, rfl, hI.out, HRJ.out, HF.out, hB.out, hX.out⟩
                case measure => rw [hmu, HMU.out]; exact HLT
end Go.Proofs.YtcipedijjemghaaDoor
