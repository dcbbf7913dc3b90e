/- The law ArenaTells. -/
import Derived.Test.YtghbbedekmdpoaaAr9
namespace Go.Proofs.Ytghbbedekmdpoaa
open Go.RowKit Go.Sort
set_option linter.unusedVariables false
attribute [local go_sem] Try.zeroAr

theorem nums_pre (T : Nat → Int) (L : Nat → Bool) (q : Nat) : ∀ m, ∃ l, nums T L (q + m) = nums T L q ++ l
  | 0 => ⟨[], by simp⟩
  | m + 1 => by
    obtain ⟨l, h⟩ := nums_pre T L q m
    show ∃ l, (if L (q + m) then nums T L (q + m) ++ [las T (q + m)] else nums T L (q + m)) = _
    split
    · exact ⟨l ++ [las T (q + m)], by rw [h, List.append_assoc]⟩
    · exact ⟨l, h⟩
theorem nums_at {T : Nat → Int} {L : Nat → Bool} {q : Nat} (hq : q < 64) (hl : L q = true) :
    (nums T L q).length < (nums T L 64).length ∧ (nums T L 64).getD (nums T L q).length 0 = las T q ∧ (nums T L (q + 1)).length = (nums T L q).length + 1 := by
  have h1 : nums T L (q + 1) = nums T L q ++ [las T q] := by show (if L q then _ else _) = _; rw [if_pos hl]
  obtain ⟨l, h⟩ := nums_pre T L (q + 1) (64 - (q + 1))
  rw [show q + 1 + (64 - (q + 1)) = 64 by omega, h1] at h
  refine ⟨?_, ?_, ?_⟩
  · rw [h]; simp
  · rw [h, List.append_assoc]
    simp [List.getD]
  · rw [h1]; simp
theorem nums_skip {T : Nat → Int} {L : Nat → Bool} {q : Nat} (hl : L q = false) : (nums T L (q + 1)).length = (nums T L q).length := by
  have h1 : nums T L (q + 1) = nums T L q := by show (if L q then _ else _) = _; rw [hl]; rfl
  rw [h1]

set_option maxRecDepth 100000 in
set_option maxHeartbeats 4000000 in
theorem tells_bad (T : Nat → Int) (L : Nat → Bool) (id : Int) (w : World) (hA : okA T L = false) :
    Calls Try.prog 5 #[.agg (ar T L), .int .i64 id] w (Ret (.bool true) w) := by
  have HA := Lib.hid hA
  have HN : Hid (lis T L = []) := by show _ = _; unfold lis; rw [hA]; rfl
  clear hA
  have X := Lib.hid (Kx.new w 25 (ar T L))
  go_enter Try.func5, Try.ntmps5
  go_wp2_with (refine wpList_load_at (loadVar_ar X.out.blk) rfl rfl rfl ?_)
  generalize w.alloc (.cells (ar T L) 25) = w1 at *
  refine (all_bad T L w1 HA.out).mono ?_
  rintro e w2 ⟨A, c, rfl, -, -, -, b2⟩
  have X2 := Lib.hid (X.out.keep b2)
  clear b2 X
  go_wp2_with fail
  refine (refPlace_any id w2).mono ?_
  rintro e w3 ⟨rfl, b3⟩
  have X3 := Lib.hid (X2.out.keep b3)
  clear b3 X2
  go_wp2_with fail
  refine (place_any id w3).mono ?_
  rintro e w4 ⟨rfl, b4⟩
  have X4 := Lib.hid (X3.out.keep b4)
  clear b4 X3
  go_wp2_with (refine wpList_load_g (loadVar_ar X4.out.blk) rfl rfl (by rfl) ?_)
  refine (count_any T L w4).mono ?_
  rw [HN.out]
  rintro e w5 ⟨rfl, b5⟩
  have X5 := Lib.hid (X4.out.keep b5)
  clear b5 X4
  go_wp2_with (refine wpList_load_at (loadVar_ar X5.out.blk) rfl rfl rfl ?_)
  refine (refMay_any T L w5).mono ?_
  rw [HA.out]
  rintro e w6 ⟨rfl, b6⟩
  have X6 := Lib.hid (X5.out.keep b6)
  clear b6 X5
  go_wp2_with (refine wpList_load_g (loadVar_ar X6.out.blk) rfl rfl (by rfl) ?_)
  refine (is_any T L id w6).mono ?_
  rw [HA.out, Bool.false_and]
  rintro e w7 ⟨rfl, b7⟩
  have X7 := Lib.hid (X6.out.keep b7)
  clear b7 X6
  go_wp2_with fail
  refine (awake_any w7).mono ?_
  rintro e w8 ⟨rfl, b8⟩
  have B := Lib.hid (X7.out.keep b8).below
  clear b8 X7
  go_wp2
  go_ret
  exact Ret.mk rfl B.out

set_option maxRecDepth 100000 in
set_option maxHeartbeats 8000000 in
theorem tells_ok (T : Nat → Int) (L : Nat → Bool) (id : Int) (w : World) (hA : okA T L = true) :
    Calls Try.prog 5 #[.agg (ar T L), .int .i64 id] w (Ret (.bool true) w) := by
  have HA := Lib.hid hA
  have HN : Hid (lis T L = nums T L 64) := by show _ = _; unfold lis; rw [hA]; rfl
  clear hA
  have X := Lib.hid (Kx.new w 25 (ar T L))
  go_enter Try.func5, Try.ntmps5
  go_wp2_with (refine wpList_load_at (loadVar_ar X.out.blk) rfl rfl rfl ?_)
  generalize w.alloc (.cells (ar T L) 25) = w1 at *
  refine (all_ok T L w1 HA.out).mono ?_
  rintro e w2 ⟨A, c, rfl, -, -, hI, b2⟩
  have X2 := Lib.hid (X.out.keep b2)
  have HI := Lib.hid hI
  have HL : Hid ((nums T L 64).length ≤ 64) := nums_len T L 64
  obtain ⟨N, hN⟩ : ∃ N, (nums T L 64).length = N := ⟨_, rfl⟩
  have HLN := Lib.hid hN
  rw [hN] at HI
  rw [hN]
  clear b2 X hI hN
  go_wp2_with fail
  refine (refPlace_any id w2).mono ?_
  rintro e w3 ⟨rfl, b3⟩
  have X3 := Lib.hid (X2.out.keep b3)
  have I3 := Lib.hid (HI.out.keep b3)
  clear b3 X2 HI
  go_wp2_with fail
  refine (place_any id w3).mono ?_
  rintro e w4 ⟨rfl, b4⟩
  have X4 := Lib.hid (X3.out.keep b4)
  have I4 := Lib.hid (I3.out.keep b4)
  clear b4 X3 I3
  go_wp2_with (refine wpList_load_g (loadVar_ar X4.out.blk) rfl rfl (by rfl) ?_)
  refine (count_any T L w4).mono ?_
  rw [HN.out, HLN.out]
  rintro e w5 ⟨rfl, b5⟩
  have X5 := Lib.hid (X4.out.keep b5)
  have I5 := Lib.hid (I4.out.keep b5)
  clear b5 X4 I4
  go_wp2_with (refine wpList_load_at (loadVar_ar X5.out.blk) rfl rfl rfl ?_)
  refine (refMay_any T L w5).mono ?_
  rw [HA.out]
  rintro e w6 ⟨rfl, b6⟩
  have X6 := Lib.hid (X5.out.keep b6)
  have I6 := Lib.hid (I5.out.keep b6)
  clear b6 X5 I5
  go_wp2_with fail
  go_loopw [7, 8] (fun k q wr => ∃ j : Nat, j ≤ 64 ∧ q = .int .i64 (j : Int) ∧ k = .int .i64 (((nums T L j).length : Nat) : Int) ∧ Hid (Kx w w.heap.size wr 25 (ar T L)) ∧ Hid (Is wr A N (fun i => (nums T L 64).getD i 0))) (fun _ q _ => 64 - (intOf q).toNat)
  case atStart => exact ⟨0, by omega, rfl, rfl, X6.out, I6.out⟩
  case round =>
    obtain ⟨j, hj, rfl, rfl, hX, hI⟩ := hrel
    clear X6 I6
    by_cases hlt : j < 64
    · have hlt' : (j : Int) < 64 := by omega
      have c1 := hX.out.cell (64 + j) (ar_l T L hlt)
      have HC := Lib.hid (fun u => refLast_any T L j u hlt (okA_at HA.out hlt).1 (okA_at HA.out hlt).2.1)
      cases hl : L j
      · have HS := Lib.hid (nums_skip (T := T) hl)
        rw [hl] at c1
        have HB : Hid ((nums T L j).length ≤ 64) := by have := nums_len T L j; show _ ≤ _; omega
        generalize hk : (nums T L j).length = k at *
        go_wp2
        go_roundw
        case rel => exact ⟨j + 1, by omega, by go_num, by rw [HS.out], hX, hI⟩
        case measure => simp [intOf]; omega
      · obtain ⟨n1, n2, n3⟩ := nums_at (T := T) hlt hl
        rw [hl] at c1
        have HS := Lib.hid n3
        have HK : Hid ((nums T L j).length < N) := by have := HLN.out; show _ < _; omega
        obtain ⟨g, o, hA', hg, hc⟩ := hI.out (by have := HK.out; omega)
        have z1 : wr.cell? ⟨g, o + (nums T L j).length, none⟩ = some (.int .i64 ((nums T L 64).getD (nums T L j).length 0)) := hc _ HK.out
        rw [n2] at z1
        clear n1 n2 n3 hc
        subst hA'
        generalize (nums T L j).length = k at *
        generalize las T j = s at *
        have hkn : (k : Int) < (N : Int) := by have := HK.out; omega
        have hkd : decide ((N : Int) ≤ (k : Int)) = false := by simp; exact HK.out
        have h64 := HL.out
        go_wp2
        have z2 := cell_regrown z1
        have hkd : decide ((N : Int) ≤ (k : Int)) = false := by simp; exact HK.out
        have hkd2 : decide (N ≤ k) = false := by simp; exact HK.out
        have HR := Lib.hid (loadVar_re hX.out.blk)
        have K1 := Lib.hid (calls_re (V := wr) HC.out)
        clear z1 c1
        refine wp_region_quiet_below (by kernel_rfl) (by kernel_rfl) ?_
        repeat (first | (go_big_quiet_want; refine quiet_load HR.out rfl rfl ?_; simp only [Act.put, List.setIfInBounds_toArray, List.set_cons_zero, List.set_cons_succ]; go_big_quiet_on) | (go_big_quiet_step (with_reducible exact K1.out _ _)))
        refine wpQuiet_nil ?_
        intro _ hw'
        obtain ⟨⟨dq, osq⟩, hw''⟩ := hw'
        subst hw''
        have X7 := Lib.hid (hX.out.keep (below_regrown wr dq osq))
        have I7 := Lib.hid (hI.out.keep (below_regrown wr dq osq))
        clear hX hI HR K1 z2
        generalize grow (redrawn wr dq) osq = w7 at *
        go_wp2
        go_roundw
        case rel =>
          have hk64 : k ≤ 64 := by have := HK.out; have := HL.out; have := HLN.out; omega
          exact ⟨j + 1, by omega, by go_num, congrArg (Value.int .i64) (by rw [IntWalk.wrap64_in _ (by omega), HS.out]; omega), X7, I7⟩
        case measure => simp [intOf]; omega
    · have e : j = 64 := by omega
      subst e
      have HB := Lib.hid (fun u => awake_any u)
      have K3 := Lib.hid (calls_re (V := wr) HB.out)
      have hp := plc_lt id
      have hlp : ((plc id : Nat) : Int) < 64 := by omega
      have HC := Lib.hid (fun u => refLast_any T L (plc id) u hp (okA_at HA.out hp).1 (okA_at HA.out hp).2.1)
      have K2 := Lib.hid (calls_re (V := wr) HC.out)
      have K1 := Lib.hid (calls_re (V := wr) (is_any T L id))
      rw [HA.out, Bool.true_and] at K1
      have HR := Lib.hid (loadVar_re hX.out.blk)
      have c1 := hX.out.cell (64 + plc id) (ar_l T L hp)
      rw [HLN.out]
      clear HC HB HL hI
      cases hl : L (plc id)
      · have K1' : isA T L id = false := by simp [isA, hl]
        rw [K1'] at K1
        rw [hl] at c1
        clear K1' hl
        generalize las T (plc id) = s at *
        generalize plc id = p at *
        go_wp2
        have z2 := cell_regrown c1
        clear c1
        refine wp_region_quiet_below (by kernel_rfl) (by kernel_rfl) ?_
        repeat (first | (go_big_quiet_want; refine quiet_load HR.out rfl rfl ?_; simp only [Act.put, List.setIfInBounds_toArray, List.set_cons_zero, List.set_cons_succ]; go_big_quiet_on) | (go_big_quiet_step (with_reducible first | exact K1.out _ _ | exact K2.out _ _ | exact K3.out _ _)))
        refine wpQuiet_nil ?_
        intro _ hw'
        obtain ⟨⟨dq, osq⟩, hw''⟩ := hw'
        subst hw''
        have B := Lib.hid (hX.out.keep (below_regrown wr dq osq)).below
        clear hX HR K1 K2 K3 z2
        generalize grow (redrawn wr dq) osq = w7 at *
        go_wp2
        go_ret
        exact Ret.mk rfl B.out
      · by_cases he : id = las T (plc id)
        · have K1' : isA T L id = true := by unfold isA; rw [hl, decide_eq_true he]; rfl
          rw [K1'] at K1
          rw [hl] at c1
          clear K1' hl
          generalize las T (plc id) = s at *
          generalize plc id = p at *
          subst he
          go_wp2
          have z2 := cell_regrown c1
          clear c1
          refine wp_region_quiet_below (by kernel_rfl) (by kernel_rfl) ?_
          repeat (first | (go_big_quiet_want; refine quiet_load HR.out rfl rfl ?_; simp only [Act.put, List.setIfInBounds_toArray, List.set_cons_zero, List.set_cons_succ]; go_big_quiet_on) | (go_big_quiet_step (with_reducible first | exact K1.out _ _ | exact K2.out _ _ | exact K3.out _ _)))
          refine wpQuiet_nil ?_
          intro _ hw'
          obtain ⟨⟨dq, osq⟩, hw''⟩ := hw'
          subst hw''
          have B := Lib.hid (hX.out.keep (below_regrown wr dq osq)).below
          clear hX HR K1 K2 K3 z2
          generalize grow (redrawn wr dq) osq = w7 at *
          go_wp2
          go_ret
          exact Ret.mk rfl B.out
        · have K1' : isA T L id = false := by unfold isA; rw [hl, decide_eq_false he]; rfl
          rw [K1'] at K1
          rw [hl] at c1
          clear K1' hl
          generalize las T (plc id) = s at *
          generalize plc id = p at *
          have he' : (id == s) = false := by simp [he]
          go_wp2
          have z2 := cell_regrown c1
          clear c1
          refine wp_region_quiet_below (by kernel_rfl) (by kernel_rfl) ?_
          repeat (first | (go_big_quiet_want; refine quiet_load HR.out rfl rfl ?_; simp only [Act.put, List.setIfInBounds_toArray, List.set_cons_zero, List.set_cons_succ]; go_big_quiet_on) | (go_big_quiet_step (with_reducible first | exact K1.out _ _ | exact K2.out _ _ | exact K3.out _ _)))
          refine wpQuiet_nil ?_
          intro _ hw'
          obtain ⟨⟨dq, osq⟩, hw''⟩ := hw'
          subst hw''
          have B := Lib.hid (hX.out.keep (below_regrown wr dq osq)).below
          clear hX HR K1 K2 K3 z2
          generalize grow (redrawn wr dq) osq = w7 at *
          go_wp2
          go_ret
          exact Ret.mk rfl B.out
theorem walk_ArenaTells (T : Nat → Int) (L : Nat → Bool) (id : Int) (w : World) (hid : (Lit.int .i64 id).wf = true) :
    Calls Try.prog 5 #[.agg (ar T L), .int .i64 id] w (Ret (.bool true) w) := by
  cases h : okA T L
  · exact tells_bad T L id w h
  · exact tells_ok T L id w h
end Go.Proofs.Ytghbbedekmdpoaa
