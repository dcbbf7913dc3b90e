/- The law NearPairs. -/
import Derived.Test.YtkghjaodnkjmoaaNr21
import Derived.Deep.DeepCutAuto
namespace Go.Proofs.Ytkghjaodnkjmoaa
open Go.RowKit Go.Sort Go.Shelf
set_option linter.unusedVariables false
attribute [local go_sem] eq_two

section
variable (X Y : Nat → Int)
theorem sq_neg (a b : Int) : (a - b) * (a - b) = (b - a) * (b - a) := by
  rw [← Int.neg_mul_neg (a - b) (a - b), Int.neg_sub]
theorem sqd_dst (i j : Nat) : sqd (X i) (Y i) (X j) (Y j) = dst X Y (X i) (Y i) j := by
  unfold sqd dst
  rw [sq_neg (X i) (X j), sq_neg (Y i) (Y j)]
theorem prow_succ (j : Nat) (r : Int) (i : Nat) (hij : i < j) : prow X Y (j + 1) r i = prow X Y j r i ++ if dst X Y (X i) (Y i) j ≤ r * r then [((i : Int), (j : Int))] else [] := by
  unfold prow wsel sel win
  rw [List.range_succ, List.filter_append, List.filter_append, List.map_append, List.map_append]
  congr 1
  have h : (i : Int) + 1 ≤ (j : Int) := by omega
  by_cases h2 : dst X Y (X i) (Y i) j ≤ r * r <;> simp [okd, h2, h]
theorem prow_none (r : Int) (i : Nat) : ∀ j, j ≤ i + 1 → prow X Y j r i = [] := by
  intro j hj
  unfold prow wsel sel win
  rw [List.filter_eq_nil_iff.2 ?_]
  · rfl
  · intro a ha
    have := (List.mem_filter.1 ha).1
    simp at this
    simp
    omega
theorem prow_pre (r : Int) (i j : Nat) (hij : i < j) : ∀ d, ∃ R, prow X Y (j + d) r i = prow X Y j r i ++ R
  | 0 => ⟨[], by simp⟩
  | d + 1 => by
    obtain ⟨R, hR⟩ := prow_pre r i j hij d
    exact ⟨R ++ _, by rw [← Nat.add_assoc, prow_succ X Y (j + d) r i (by omega), hR, List.append_assoc]⟩
theorem pall_pre (n : Nat) (r : Int) (i : Nat) : ∀ d, ∃ R, pall X Y n r (i + d) = pall X Y n r i ++ R
  | 0 => ⟨[], by simp⟩
  | d + 1 => by
    obtain ⟨R, hR⟩ := pall_pre n r i d
    exact ⟨R ++ _, by rw [← Nat.add_assoc, pall_succ, hR, List.append_assoc]⟩
/-- A pair that is near stands where it is looked for. -/
theorem pall_at (n : Nat) (r : Int) (i j : Nat) (hij : i < j) (hj : j < n) (hd : dst X Y (X i) (Y i) j ≤ r * r) : (pall X Y n r n)[(pall X Y n r i).length + (prow X Y j r i).length]? = some ((i : Int), (j : Int)) := by
  obtain ⟨R, hR⟩ := pall_pre X Y n r (i + 1) (n - (i + 1))
  rw [show i + 1 + (n - (i + 1)) = n by omega, pall_succ] at hR
  obtain ⟨R2, hR2⟩ := prow_pre X Y r i (j + 1) (by omega) (n - (j + 1))
  rw [show j + 1 + (n - (j + 1)) = n by omega, prow_succ X Y j r i hij, if_pos hd] at hR2
  have e : (wsel X Y n (X i) (Y i) r ((i : Int) + 1)).map (fun j => ((i : Int), j)) = prow X Y n r i := rfl
  rw [e, hR2] at hR
  rw [hR, List.append_assoc, List.getElem?_append_right (by omega), Nat.add_sub_cancel_left, List.append_assoc, List.append_assoc, List.getElem?_append_right (by omega), Nat.sub_self]
  rfl
theorem pall_next (n : Nat) (r : Int) (i : Nat) : (pall X Y n r (i + 1)).length = (pall X Y n r i).length + (prow X Y n r i).length := by
  rw [pall_succ, List.length_append]
  rfl
set_option maxRecDepth 100000 in
set_option maxHeartbeats 8000000 in
theorem walk_NearPairs (A : Option Addr) (n c : Nat) (r : Int) (w : World) (hP : Ps X Y w A n) (hnc : n ≤ c) (hcm : c ≤ maxLen) (hA : A = none → c = 0) (hwf : (Lit.int .i64 r).wf = true) :
    Calls Try.prog 5 #[.slice A n c, .int .i64 r] w (Ret (.bool true) w) := by
  have HP := Lib.hid (hP.take X Y (cut_le 60 n).1)
  have HA := Lib.hid hA
  have hN := (cut_le 60 n).2
  unfold maxLen at hcm
  clear hP hA hwf
  go_enter Try.func5, Try.ntmps5
  go_upto_if 14 with fail
  go_cut [0] (fun s0 wx => s0 = .slice A (cut 60 n) c ∧ wx = w)
  case first =>
    by_cases h1 : 60 < n
    · have h1' : (60 : Int) < (n : Int) := by omega
      have h3 : (60 : Nat) ≤ c := by omega
      have HE : Hid (cut 60 n = 60) := by show _ = _; simp [cut, h1]
      go_wp2
      go_meet
      exact ⟨by rw [HE.out], rfl⟩
    · have h1' : ¬ (60 : Int) < (n : Int) := by omega
      have HE : Hid (cut 60 n = n) := by show _ = _; simp [cut, h1]
      go_wp2
      go_meet
      exact ⟨by rw [HE.out], rfl⟩
  case rest =>
    obtain ⟨rfl, rfl⟩ := hcut
    clear hnc hcm
    generalize cut 60 n = N at *
    have MD := Lib.hid (made_any X Y A N c wc HP.out HA.out (by omega))
    go_wp2_with fail
    refine MD.out.mono ?_
    rintro e w3 ⟨b3, ⟨hm, p, rfl, hI⟩ | ⟨hm, rfl⟩⟩
    case inr =>
      have K3 := Lib.hid b3
      clear b3 MD hm
      go_wp2_with fail
      refine (awake_any w3).mono ?_
      rintro e w4 ⟨rfl, b4⟩
      have K4 : Hid (Below wc.heap.size wc w4) := K3.out.trans (b4.mono K3.out.size)
      clear b4 K3
      go_wp2
      go_ret
      exact Ret.mk rfl K4.out
    have HM := Lib.hid ((may_iff X Y).1 hm)
    have K3 := Lib.hid b3
    have HI := Lib.hid hI
    clear b3 MD hm hI
    have PN := Lib.hid (pairs_any X Y p N r w3 HI.out HM.out.2 HM.out.1)
    go_wp2_with fail
    refine PN.out.mono ?_
    rintro e w4 ⟨b4, ⟨hs, rfl⟩ | ⟨hs, A5, k5, rfl, _, _, hP5⟩⟩
    · have K4 : Hid (Below wc.heap.size wc w4) := K3.out.trans (b4.mono K3.out.size)
      clear b4 PN K3 HI
      go_wp2_with fail
      refine (in_any r w4).mono ?_
      rw [hs]
      rintro e w5 ⟨rfl, b5⟩
      have K5 : Hid (Below wc.heap.size wc w5) := K4.out.trans (b5.mono K4.out.size)
      clear b5 K4 hs
      go_wp2_with fail
      refine (awake_any w5).mono ?_
      rintro e w6 ⟨rfl, b6⟩
      have K6 : Hid (Below wc.heap.size wc w6) := K5.out.trans (b6.mono K5.out.size)
      clear b6 K5
      go_wp2
      go_ret
      exact Ret.mk rfl K6.out
    have K4 : Hid (Below wc.heap.size wc w4) := K3.out.trans (b4.mono K3.out.size)
    have HPr := Lib.hid hP5
    obtain ⟨rr, hr2⟩ : ∃ z, r * r = z := ⟨_, rfl⟩
    have hrr : wrap64 (r * r) = rr := by
      obtain ⟨a1, a2⟩ := mul_bound (a := r) (b := 67108864) (by have := sp_iff.1 hs; omega) (sp_iff.1 hs).2
      rw [← hr2]
      exact IntWalk.wrap64_in _ (by omega)
    have HAt := Lib.hid (pall_at X Y N r)
    have HSu := Lib.hid (prow_succ X Y · r)
    rw [hr2] at HAt HSu
    have HNx := Lib.hid (pall_next X Y N r)
    have HLen : Hid ((pall X Y N r N).length ≤ 3600) := by
      have := pall_len X Y N r N
      have h2 : N * N ≤ 60 * 60 := Nat.mul_le_mul hN hN
      show _ ≤ _
      omega
    have HF := Lib.hid (fun i j (hi : i < N) (hj : j < N) u => far_any (X i) (Y i) (X j) (Y j) u (sp_iff.1 (HM.out.2 i hi).1) (sp_iff.1 (HM.out.2 i hi).2) (sp_iff.1 (HM.out.2 j hj).1) (sp_iff.1 (HM.out.2 j hj).2))
    clear b4 PN K3 HI hP5 hr2
    go_wp2_with fail
    refine (in_any r w4).mono ?_
    rw [hs]
    rintro e w5 ⟨rfl, b5⟩
    have K5 : Hid (Below wc.heap.size wc w5) := K4.out.trans (b5.mono K4.out.size)
    have HPr5 := Lib.hid (HPr.out.keep b5)
    clear b5 K4 hs HPr
    obtain ⟨pl, hpl⟩ : ∃ pl, pall X Y N r N = pl := ⟨_, rfl⟩
    rw [hpl] at HAt HPr5 HLen ⊢
    have HPl := Lib.hid hpl
    clear hpl
    obtain ⟨L, hL⟩ : ∃ L, pl.length = L := ⟨_, rfl⟩
    rw [hL] at HLen ⊢
    have HLn := Lib.hid hL
    clear hL
    go_wp2
    go_loopw [9, 10] (fun s9 s10 wr => ∃ (i K : Nat), i ≤ N ∧ s10 = .int .i64 (i : Int) ∧ s9 = .int .i64 (K : Int) ∧ Hid (K = (pall X Y N r i).length) ∧ Hid (Below wc.heap.size wc wr ∧ Below w5.heap.size w5 wr)) (fun _ s10 _ => N - (intOf s10).toNat)
    case atStart => exact ⟨0, 0, by omega, rfl, rfl, rfl, K5.out, Below.refl _ _⟩
    case round =>
      obtain ⟨i, K, hi, rfl, rfl, hK, hB⟩ := hrel
      by_cases hin : i < N
      · have hiI : (i : Int) < (N : Int) := by omega
        have HK1 : Hid ((pall X Y N r (i + 1)).length = K + (prow X Y N r i).length) := by show _ = _; rw [HNx.out i, hK.out]
        have HAi := Lib.hid (fun j h1 h2 h3 => HAt.out i j h1 h2 h3)
        rw [← hK.out] at HAi
        have HSi := Lib.hid (fun j (h : i < j) => HSu.out j i h)
        have HP0 := Lib.hid (prow_none X Y r i)
        generalize hPR : (fun j => prow X Y j r i) = PR at *
        have hPR2 : ∀ j, prow X Y j r i = PR j := fun j => by rw [← hPR]
        simp only [hPR2] at HK1 HAi HSi HP0
        clear hPR hPR2
        go_wp2
        generalize hBB : wr = W0 at *
        clear hBB
        go_loopw [9, 11] (fun s9 s11 wr => ∃ (j q : Nat), i + 1 ≤ j ∧ j ≤ N ∧ s11 = .int .i64 (j : Int) ∧ s9 = .int .i64 (q : Int) ∧ Hid (q = K + (PR j).length) ∧ Hid (Below wc.heap.size wc wr ∧ Below w5.heap.size w5 wr)) (fun _ s11 _ => N - (intOf s11).toNat)
        case atStart => exact ⟨i + 1, K, by omega, by omega, by go_num, rfl, by show K = _; rw [HP0.out (i + 1) (by omega)]; rfl, hB.out⟩
        case round =>
          obtain ⟨j, q, hij, hj, rfl, rfl, hQ, hB1⟩ := hrel
          by_cases hjN : j < N
          · have hjI : (j : Int) < (N : Int) := by omega
            obtain ⟨g, o, rfl, c0, c1⟩ := HP.out.at X Y hB1.out.1 hin
            obtain ⟨g', o', e', d0, d1⟩ := HP.out.at X Y hB1.out.1 hjN
            injection e' with e'
            injection e' with e1 e2 e3
            subst e1 e2
            clear e3
            have z0 := cell_regrown c0
            have z1 := cell_regrown c1
            have z2 := cell_regrown d0
            have z3 := cell_regrown d1
            have F1 := Lib.hid (calls_re (V := wr) (HF.out i j hin hjN))
            have HD : Hid (dst X Y (X i) (Y i) j = sqd (X i) (Y i) (X j) (Y j)) := (sqd_dst X Y i j).symm
            have HAj := Lib.hid (HAi.out j (by omega) hjN)
            have HSj := Lib.hid (HSi.out j (by omega))
            rw [HD.out] at HAj HSj
            clear c0 c1 d0 d1 HD
            go_wp2
            generalize X i = xi at *
            generalize Y i = yi at *
            generalize X j = xj at *
            generalize Y j = yj at *
            refine wp_region_quiet_below (by kernel_rfl) (by kernel_rfl) ?_
            repeat (go_big_quiet_step (with_reducible exact F1.out _ _))
            refine wpQuiet_nil ?_
            intro _ hw'
            obtain ⟨⟨dq, osq⟩, hw''⟩ := hw'
            subst hw''
            have B2 : Hid (Below wc.heap.size wc (grow (redrawn wr dq) osq) ∧ Below w5.heap.size w5 (grow (redrawn wr dq) osq)) := ⟨hB1.out.1.trans ((below_regrown wr dq osq).mono hB1.out.1.size), hB1.out.2.trans ((below_regrown wr dq osq).mono hB1.out.2.size)⟩
            clear hB1 F1 z0 z1 z2 z3
            generalize grow (redrawn wr dq) osq = w6 at *
            generalize sqd xi yi xj yj = d at *
            by_cases hd : d ≤ rr
            · have hat := HAj.out hd
              rw [← hQ.out] at hat
              have hql : q < L := by rw [← HLn.out]; exact (List.getElem?_eq_some_iff.1 hat).1
              obtain ⟨g5, o5, rfl, hg5, hc5⟩ := HPr5.out (by rw [HLn.out]; omega)
              obtain ⟨c0, c1⟩ := hc5 q _ hat
              have c0 := kc B2.out.2 c0
              have c1 := kc B2.out.2 c1
              dsimp only at c0 c1
              have HS2 : Hid (q + 1 = K + (PR (j + 1)).length) := by
                have h := HSj.out
                rw [if_pos hd] at h
                show _ = _
                rw [h, hQ.out, List.length_append, List.length_singleton, Nat.add_assoc]
              have hL3 := HLen.out
              have hqI : (q : Int) < (L : Int) := by omega
              clear hat hc5 HAj HSj
              have hd' : decide (d ≤ rr) = true := by simp [hd]
              go_wp2
              go_roundw
              case rel => exact ⟨j + 1, q + 1, by omega, by omega, by go_num, by go_num, HS2, B2⟩
              case measure => simp [intOf]; omega
            · have HS2 : Hid (q = K + (PR (j + 1)).length) := by
                have h := HSj.out
                rw [if_neg hd, List.append_nil] at h
                show _ = _
                rw [h, hQ.out]
              have hd' : decide (d ≤ rr) = false := by simp [hd]
              clear HAj HSj
              go_wp2
              go_roundw
              case rel => exact ⟨j + 1, q, by omega, by omega, by go_num, rfl, HS2, B2⟩
              case measure => simp [intOf]; omega
          · obtain rfl : j = N := by omega
            have hjI : ¬ (j : Int) < (j : Int) := by omega
            have HQ2 : Hid (q = (pall X Y j r (i + 1)).length) := by show _ = _; rw [HK1.out]; exact hQ.out
            go_wp2
            go_roundw
            case rel => exact ⟨i + 1, q, by omega, by go_num, rfl, HQ2, hB1⟩
            case measure => simp [intOf]; omega
      · obtain rfl : i = N := by omega
        have hiI : ¬ (i : Int) < (i : Int) := by omega
        obtain rfl : L = K := by rw [hK.out, HPl.out, HLn.out]
        go_wp2_with fail
        refine (awake_any wr).mono ?_
        rintro e w9 ⟨rfl, b9⟩
        have K9 : Hid (Below wc.heap.size wc w9) := hB.out.1.trans (b9.mono hB.out.1.size)
        clear b9
        go_wp2
        go_ret
        exact Ret.mk rfl K9.out
end
end Go.Proofs.Ytkghjaodnkjmoaa
