/- Contracts of the reference's numbers without end, eighth part: Mul's walk. -/
import Derived.Test.YtckeplbmkjoiaaaDoorBig7
namespace Go.Proofs.YtckeplbmkjoiaaaDoor
open Go.RowKit
set_option linter.unusedVariables false

set_option maxHeartbeats 4000000 in
theorem mulB_any (v u : Value) (x y : Int) (w : World) (hv : BigIs w v x) (hu : BigIs w u y) (hx : Small x) (hy : Small y) (hxy : Small (x * y)) :
    Calls Tryd.prog 38 #[v, u] w (RetBig (x * y) w) := by
  obtain ⟨A, ca, a, rfl, hat⟩ := hv
  obtain ⟨B, cb, b, rfl, hbt⟩ := hu
  have HA := Lib.hid hat
  have HB := Lib.hid hbt
  have SA := Lib.hid (hat.few hx)
  have SB := Lib.hid (hbt.few hy)
  have SXY := Lib.hid hxy
  have HE := Lib.hid (ofSign_mul x y)
  clear hat hbt hx hy hxy
  generalize hnx : decide (x < 0) = nx at HE ⊢
  generalize hny : decide (y < 0) = ny at HE ⊢
  clear hnx hny
  have HW0 : Hid (∀ W : World, Boxes w W nx ny (.slice A a.length ca) (.slice B b.length cb) → W.heap.size = w.heap.size + 1 + 1 + 1 → MulW w A B a b ca cb nx ny none [] 0 0 (W.alloc (.cells #[.bool false, .slice none 0 0] 59))) :=
    fun W hX hs => MulW.start w A B a b ca cb nx ny W _ hX hs (HA.out.row.keep hX.below) (HB.out.row.keep hX.below)
  have HX0 := Lib.hid (HW0.out _ (Boxes.mk3 w nx ny (.slice A a.length ca) (.slice B b.length cb) 59) (by simp))
  clear HW0
  have hla := SA.out
  have hlb := SB.out
  generalize ena : a.length = na at hla HX0 ⊢
  generalize enb : b.length = nb at hlb HX0 ⊢
  have HNA := Lib.hid ena
  have HNB := Lib.hid enb
  clear ena enb
  go_enter Tryd.func38, Tryd.ntmps38
  go_wp2
  go_loopw [6] (fun i wr => ∃ (k : Nat) (As : Option Addr) (sds : List Nat) (cs : Nat), i = .int .i64 (k : Int) ∧ k ≤ nb ∧ Hid (MulW w A B a b ca cb nx ny As sds cs ((val a * valTo b k : Nat) : Int) wr)) (fun i _ => nb - (intOf i).toNat)
  case atStart => exact ⟨0, none, [], 0, rfl, by omega, HX0⟩
  case round =>
    obtain ⟨k, As, sds, cs, rfl, hk, HM⟩ := hrel
    rename World => W1
    obtain ⟨c0, c1, c2, c3, c4, c5, f4, f5, hbw, hsz0⟩ := HM.out.boxes
    rw [HNA.out] at c1
    rw [HNB.out] at c3
    have HBW := Lib.hid hbw
    clear hbw
    by_cases hkb : k < nb
    · go_wp2
      go_loopw [7, 8] (fun v j wi => ∃ m : Nat, j = .int .i64 (m : Int) ∧ m ≤ k ∧ wi.ownsRow W1.heap.size 3 1 v m (ints (List.replicate m 0)) ∧ Below W1.heap.size W1 wi) (fun _ j _ => k - (intOf j).toNat)
      case atStart => exact ⟨0, rfl, by omega, World.ownsRow_nil _ _ _ _, Below.refl _ _⟩
      case round =>
        obtain ⟨m, rfl, hmk, hown, hbel⟩ := hrel
        have HO := Lib.hid hown
        have HBL := Lib.hid hbel
        have hsz := hbel.size
        clear hown hbel
        by_cases hm : m < k
        · go_wp2_with (at_builtin; refine append_digit rfl (.tmp 25) (.tmp 26) rfl W1.heap.size m (List.replicate m 0) 0 _ rfl _ wr rfl HO.out rfl (by omega) hsz ?_; intro v' w1 hown' hb')
          go_roundw
          case rel =>
            refine ⟨m + 1, by go_num, by omega, ?_, HBL.out.trans hb'⟩
            rw [List.replicate_succ']
            exact hown'
          case measure => simp [intOf]; omega
        · obtain rfl : k = m := by omega
          have HM2 := Lib.hid (HM.out.keep HBL.out)
          have HR0 := Lib.hid (MulR.start a (dn b k))
          have hb1 : dn b k < 1000 := HB.out.dok k
          go_wp2
          rename World => W2
          go_loopw [7, 9, 10] (fun v c j wi => ∃ (m cy : Nat) (o : List Nat), j = .int .i64 (m : Int) ∧ c = .int .i64 (cy : Int) ∧ cy ≤ 999 ∧ m ≤ na + 1 ∧ Hid (MulR a (dn b k) o m cy) ∧ wi.ownsRow W1.heap.size 3 1 v (k + m) (ints (List.replicate k 0 ++ o)) ∧ Below W1.heap.size W1 wi) (fun _ _ j _ => na + 2 - (intOf j).toNat)
          case atStart => exact ⟨0, 0, [], rfl, rfl, by omega, by omega, HR0, by simpa using HO.out, HBL.out⟩
          case round =>
            clear HO HBL hsz
            obtain ⟨m, cy, o, rfl, rfl, hcy, hm1, HR, hown, hbel⟩ := hrel
            have HO := Lib.hid hown
            have HBL := Lib.hid hbel
            have hsz := hbel.size
            clear hown hbel
            have HM3 := Lib.hid (HM.out.keep HBL.out)
            obtain ⟨d0, d1, d2, d3, d4, d5, e4, e5, _, _⟩ := HM3.out.boxes
            rw [HNA.out] at d1
            rw [HNB.out] at d3
            by_cases hc : m < na ∨ 0 < cy
            · obtain ⟨gb, rfl, _, hcb⟩ := HM3.out.rb (by rw [HNB.out]; omega)
              have hcbk := hcb k (by rw [HNB.out]; omega)
              clear hcb
              have CA : Hid (∀ n : Nat, Calls Tryd.prog 53 #[.slice A na ca, .int .i64 (m : Int)] (wr.drewN n) fun e w' => e = .returned (.int .i64 (dn a m : Int)) ∧ w' = wr.drewN n) := by
                intro n
                rw [← HNA.out]
                exact (at_any A ca a m (wr.drewN n) HM3.out.ra (by rw [HNA.out]; omega) (by omega)).mono fun _ _ h => ⟨h.1, h.2.symm⟩
              obtain ⟨hR', hpq⟩ := HR.out.step HA.out.dok hb1 (by rw [HNA.out]; exact hc)
              have HR' := Lib.hid hR'
              clear hR'
              have hm2 : m + 1 ≤ na + 1 := by have := HR'.out.top; rw [HNA.out] at this; exact this
              generalize dn a m = p at *
              generalize dn b k = q at *
              have hpq0 : (0 : Int) ≤ (p : Int) * (q : Int) := Int.mul_nonneg (by omega) (by omega)
              have hpq1 : (p : Int) * (q : Int) ≤ 998001 := by rw [← Int.natCast_mul]; omega
              have HD : Hid (((p : Int) * (q : Int) + (cy : Int)) % 1000 = (((p * q + cy) % 1000 : Nat) : Int) ∧ ((p : Int) * (q : Int) + (cy : Int)) / 1000 = (((p * q + cy) / 1000 : Nat) : Int)) := by
                show _ ∧ _
                rw [← Int.natCast_mul]
                omega
              have hk0 : (0 : Int) ≤ (k : Int) := by omega
              have hk1 : (k : Int) < (nb : Int) := by omega
              have hw1 : IntKind.i64.wrap ((p : Int) * (q : Int)) = (p : Int) * (q : Int) := IntWalk.i64_in _ (by omega)
              have hw2 : IntKind.i64.wrap ((p : Int) * (q : Int) + (cy : Int)) = (p : Int) * (q : Int) + (cy : Int) := IntWalk.i64_in _ (by omega)
              rcases (show m < na ∨ (¬ m < na ∧ 0 < cy) by omega) with h1 | ⟨h1, h2⟩
              all_goals
                clear hc
                go_wp2_with fail
                go_quiet ((go_at_call 53; exact Calls.quiet_of_same (CA.out _)))
                clear hw1 hw2
                go_wp2_with (at_builtin; refine append_digit rfl (.tmp 51) (.tmp 54) rfl W1.heap.size (k + m) (List.replicate k 0 ++ o) ((p * q + cy) % 1000) _ HD.out.1 _ (wr.drewN _) rfl HO.out rfl (by omega) hsz ?_; intro v' w1 hown' hb')
                rw [List.append_assoc] at hown'
                go_roundw
                case rel => exact ⟨m + 1, (p * q + cy) / 1000, o ++ [(p * q + cy) % 1000], by go_num, congrArg _ HD.out.2, HR'.out.cy9, hm2, HR', hown', HBL.out.trans ((bdrewN (Below.refl _ _) _).trans hb')⟩
                case measure => simp [intOf]; omega
            · have h1 : ¬ m < na := by omega
              have h2 : ¬ 0 < cy := by omega
              clear hc
              have HV : Hid (val o = val a * dn b k) := HR.out.done (by rw [HNA.out]; exact h1) h2
              have hown := HO.out
              have hlen : (List.replicate k 0 ++ o).length = k + m := by rw [List.length_append, List.length_replicate, HR.out.len]
              rw [← hlen] at hown
              obtain ⟨A3, c3', rfl, hr3, hc3, hm3⟩ := Row.own hown
              have HR3 := Lib.hid hr3
              have HDK : Hid (Dok (List.replicate k 0 ++ o)) := by
                intro i
                by_cases hi : i < k
                · rw [dn_append_lt _ _ _ (by simpa using hi)]
                  simp [dn, hi]
                · have : dn (List.replicate k 0 ++ o) i = dn o (i - k) := by
                    unfold dn
                    rw [List.getD, List.getD, List.getElem?_append_right (by simp; omega)]
                    simp
                  rw [this]
                  exact HR.out.dok _
              have HVD : Hid (val (List.replicate k 0 ++ o) = val a * (dn b k * 1000 ^ k)) := by
                show val (List.replicate k 0 ++ o) = val a * (dn b k * 1000 ^ k)
                rw [val_append, val_zeros, HV.out, List.length_replicate]
                generalize 1000 ^ k = X
                grind
              have HL3 : Hid ((List.replicate k 0 ++ o).length ≤ 100000) := by show (List.replicate k 0 ++ o).length ≤ 100000; omega
              clear hown hr3 hlen
              generalize List.replicate k 0 ++ o = ds at *
              obtain ⟨_, _, _, s0, s1, g0, g1, hsum, hpos⟩ := HM3.out
              have HSUM : Hid (∀ W, Below wr.heap.size wr W → BigIs W (.agg #[.bool false, .slice As sds.length cs]) ((val a * valTo b k : Nat) : Int)) := by
                intro W hW
                refine ⟨As, cs, sds, ?_, hsum.keep hW⟩
                rw [decide_eq_false (by omega)]
              have HZ1 : Hid (Small ((val a * valTo b k : Nat) : Int)) := small_part SXY.out (by rw [HA.out.is]; exact Nat.le_refl _) (by rw [← HB.out.is]; exact (digit_part b k).2.1)
              have HZ2 : Hid (Small (ofSign false (val ds))) := by
                show Small (ofSign false (val ds))
                rw [HVD.out, show ∀ n : Nat, ofSign false n = (n : Int) from fun n => rfl]
                exact small_part SXY.out (by rw [HA.out.is]; exact Nat.le_refl _) (by rw [← HB.out.is]; exact (digit_part b k).1)
              have HZ3 : Hid (((val a * valTo b k : Nat) : Int) + ofSign false (val ds) = ((val a * valTo b (k + 1) : Nat) : Int)) := by
                show _ = _
                rw [HVD.out, show ∀ n : Nat, ofSign false n = (n : Int) from fun n => rfl, ← (digit_part b k).2.2, Nat.mul_add]
                omega
              have HN3 : Hid (decide (((val a * valTo b (k + 1) : Nat) : Int) < 0) = false) := decide_eq_false (by omega)
              clear hsum hpos
              generalize e3 : ((val a * valTo b (k + 1) : Nat) : Int) = z3 at HZ3 HN3
              generalize e1 : ((val a * valTo b k : Nat) : Int) = z1 at HSUM HZ1 HZ3
              generalize e2 : ofSign false (val ds) = z2 at HZ2 HZ3
              have E1 := Lib.hid e1
              have E2 := Lib.hid e2
              have E3 := Lib.hid e3
              clear e1 e2 e3
              go_wp2_with fail
              go_region_with (first
                | (go_at_call 49; refine (trim_any false A3 c3' ds wr.drew (HR3.out.keep (Below.refl wr.heap.size wr).drew) hc3 hm3 HDK.out HL3.out).mono ?_; rintro e w1 ⟨v1, rfl, hbig1, hb1'⟩; rw [E2.out] at hbig1; have HB1 : Hid (Below wr.heap.size wr w1) := (Below.refl wr.heap.size wr).drew.trans hb1'; have HV1 := Lib.hid hbig1; clear hb1' hbig1; have k0 := kcB HB1.out s0; have k1 := kcB HB1.out s1)
                | (go_at_call 54; refine (addB_any _ v1 z1 z2 _ (HSUM.out _ HB1.out) HV1.out HZ1.out HZ2.out).mono ?_; rintro e w2 ⟨v2, rfl, ⟨A2, c2', ds2, rfl, hat2⟩, hb2'⟩; rw [HZ3.out] at hat2 ⊢; rw [HN3.out]; have HB2 : Hid (Below wr.heap.size wr w2) := HB1.out.trans (hb2'.mono HB1.out.size); have HAT2 := Lib.hid hat2; clear hb2' hat2; have k0 := kcB HB2.out s0; have k1 := kcB HB2.out s1; have j0 := kfB HB2.out s0 g0; have j1 := kfB HB2.out s1 g1))
              all_goals (try go_wp2)
              all_goals
                go_roundw
                case rel =>
                  refine ⟨k + 1, A2, ds2, c2', by go_num, by omega, ?_⟩
                  rw [E3.out]
                  exact (HM3.out.keep HB2.out).store HAT2.out (by have := E3.out; omega)
                case measure => simp [intOf]; omega
    · have HK : Hid (valTo b k = val b) := val_to (by rw [HNB.out]; omega)
      obtain ⟨_, _, _, s0, s1, g0, g1, hsum, hpos⟩ := HM.out
      have HSUM := Lib.hid hsum
      have HV : Hid (val sds = x.natAbs * y.natAbs) := by
        show val sds = x.natAbs * y.natAbs
        rw [hsum.is, HK.out, HA.out.is, HB.out.is]
        omega
      have HL : Hid (sds.length ≤ 100000) := by
        have h : sds.length ≤ 100 := canon_len hsum.canon (by rw [HV.out, ← Int.natAbs_mul]; exact SXY.out)
        show sds.length ≤ 100000
        omega
      clear hsum hpos
      go_wp2_with fail
      refine (trim_any _ As cs sds _ HSUM.out.row HSUM.out.cap HSUM.out.top HSUM.out.dok HL.out).mono ?_
      rintro e w2 ⟨v2, rfl, hbig, hb2⟩
      rw [HV.out, HE.out] at hbig
      obtain ⟨A2, c2', ds2, rfl, hat2⟩ := hbig
      have HAT2 := Lib.hid hat2
      have HB2 := Lib.hid hb2
      have k4 := kcB hb2 c4
      have k5 := kcB hb2 c5
      have j4 := kfB hb2 c4 f4
      have j5 := kfB hb2 c5 f5
      clear hat2 hb2
      go_wp2
      refine bodyPost_ret (v := .agg #[.bool (decide (x * y < 0)), .slice A2 ds2.length c2']) (by simp [results, Tryd.results38, go_sem, k4, k5]) rfl ?_
      exact RetBig.box (b0 := false) HAT2.out k4 (HBW.out.trans (HB2.out.mono HBW.out.size)) (by omega)

end Go.Proofs.YtckeplbmkjoiaaaDoor
