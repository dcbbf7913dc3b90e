/- Contracts: the reference's May and Room; which numbers were given. -/
import Derived.Test.YtghbbedekmdpoaaAr2
namespace Go.Proofs.Ytghbbedekmdpoaa
open Go.RowKit Go.Sort
set_option linter.unusedVariables false

set_option maxHeartbeats 1000000 in
theorem refMay_any (T : Nat → Int) (L : Nat → Bool) (w : World) : Calls Try.prog 9 #[.agg (ar T L)] w (Ret (.bool (okA T L)) w) := by
  have X := Lib.hid (Kx.new w 25 (ar T L))
  go_enter Try.func9, Try.ntmps9
  go_wp2
  generalize w.alloc (.cells (ar T L) 25) = w1 at *
  go_loop [3] (fun i => ∃ k : Nat, k ≤ 64 ∧ i = .int .i64 (k : Int) ∧ Hid (okN T L k = true)) (fun i => 64 - (intOf i).toNat)
  case atStart => exact ⟨0, by omega, rfl, okN_zero T L⟩
  case round =>
    obtain ⟨k, hk, rfl, hA⟩ := hrel
    by_cases hlt : k < 64
    · have hlt' : (k : Int) < 64 := by omega
      have c1 := X.out.cell k (ar_t T L hlt)
      have c2 := X.out.cell (64 + k) (ar_l T L hlt)
      have R := may_round hlt hA (T k) (L k) rfl rfl
      have R1 := Lib.hid R.1
      have R2 := Lib.hid R.2
      clear R hA
      generalize T k = t at *
      generalize L k = l at *
      by_cases h1 : t < 0
      · have HF : Hid (okA T L = false) := R1.out (by simp [okP]; omega)
        go_wp2
        go_ret
        exact Ret.mk (congrArg Value.bool HF.out.symm) X.out.below
      · by_cases h2 : 1048576 < t
        · have h2' : decide (1048576 < t) = true := by simp; omega
          have HF : Hid (okA T L = false) := R1.out (by simp [okP]; omega)
          clear h2
          go_wp2
          go_ret
          exact Ret.mk (congrArg Value.bool HF.out.symm) X.out.below
        · have h2' : decide (1048576 < t) = false := by simp; omega
          clear h2
          cases l
          · have HT : Hid (okN T L (k + 1) = true) := R2.out (by simp [okP] at *; omega)
            go_wp2
            go_round
            case rel => exact ⟨k + 1, by omega, by go_num, HT⟩
            case measure => simp [intOf]; omega
          · by_cases h3 : t < 1
            · have h3' : decide (t < 1) = true := by simp; omega
              have HF : Hid (okA T L = false) := R1.out (by simp [okP]; omega)
              clear h3
              go_wp2
              go_ret
              exact Ret.mk (congrArg Value.bool HF.out.symm) X.out.below
            · have h3' : decide (t < 1) = false := by simp; omega
              have HT : Hid (okN T L (k + 1) = true) := R2.out (by simp [okP] at *; omega)
              clear h3
              go_wp2
              go_round
              case rel => exact ⟨k + 1, by omega, by go_num, HT⟩
              case measure => simp [intOf]; omega
    · have e : k = 64 := by omega
      subst e
      have HT : Hid (okA T L = true) := hA
      go_wp2
      go_ret
      exact Ret.mk (congrArg Value.bool HT.out.symm) X.out.below

/-- What Room answers. -/
def rmv (p : Nat) : Int := if p < 64 then (p : Int) else -1
/-- What a round that looks for room is told. -/
theorem room_round {T : Nat → Int} {L : Nat → Bool} {p k : Nat} (hR : Room T L p) (hk : k < 64) (hA : k ≤ p) (t : Int) (l : Bool) (ht : T k = t) (hl : L k = l) : ((l = false ∧ t < 1048576) → p = k) ∧ (¬ (l = false ∧ t < 1048576) → k + 1 ≤ p) := by
  subst ht hl
  refine ⟨fun h => ?_, fun h => ?_⟩
  · rcases Nat.lt_or_ge k p with q | q
    · have := hR.2.1 k q
      rw [(may1_iff T L k).2 h] at this; cases this
    · omega
  · rcases Nat.lt_or_ge k p with q | q
    · exact q
    · have e : p = k := by omega
      subst e
      exact absurd ((may1_iff _ _ _).1 (hR.2.2 hk)) h
set_option maxHeartbeats 1000000 in
theorem refRoom_any (T : Nat → Int) (L : Nat → Bool) (p : Nat) (w : World) (hR : Room T L p) : Calls Try.prog 11 #[.agg (ar T L)] w (Ret (.int .i64 (rmv p)) w) := by
  have X := Lib.hid (Kx.new w 25 (ar T L))
  have HR := Lib.hid hR
  clear hR
  go_enter Try.func11, Try.ntmps11
  go_wp2
  generalize w.alloc (.cells (ar T L) 25) = w1 at *
  go_loop [3] (fun i => ∃ k : Nat, k ≤ 64 ∧ i = .int .i64 (k : Int) ∧ Hid (k ≤ p)) (fun i => 64 - (intOf i).toNat)
  case atStart => exact ⟨0, by omega, rfl, Nat.zero_le _⟩
  case round =>
    obtain ⟨k, hk, rfl, hA⟩ := hrel
    by_cases hlt : k < 64
    · have hlt' : (k : Int) < 64 := by omega
      have c1 := X.out.cell k (ar_t T L hlt)
      have c2 := X.out.cell (64 + k) (ar_l T L hlt)
      have R := room_round HR.out hlt hA.out (T k) (L k) rfl rfl
      have R1 := Lib.hid R.1
      have R2 := Lib.hid R.2
      clear R hA
      generalize T k = t at *
      generalize L k = l at *
      cases l
      · by_cases h2 : t < 1048576
        · have h2' : decide (t < 1048576) = true := by simp; omega
          have HF : Hid (p = k) := R1.out ⟨rfl, h2⟩
          clear h2
          go_wp2
          go_ret
          exact Ret.mk (congrArg (Value.int .i64) (by rw [HF.out]; unfold rmv; rw [if_pos hlt])) X.out.below
        · have h2' : decide (t < 1048576) = false := by simp; omega
          have HT : Hid (k + 1 ≤ p) := R2.out (fun h => h2 h.2)
          clear h2
          go_wp2
          go_round
          case rel => exact ⟨k + 1, by omega, by go_num, HT⟩
          case measure => simp [intOf]; omega
      · have HT : Hid (k + 1 ≤ p) := R2.out (fun h => by cases h.1)
        go_wp2
        go_round
        case rel => exact ⟨k + 1, by omega, by go_num, HT⟩
        case measure => simp [intOf]; omega
    · have e : k = 64 := by omega
      subst e
      have HT : Hid (rmv p = -1) := by show _ = _; unfold rmv; rw [if_neg (by have := hA.out; omega)]
      go_wp2
      go_ret
      exact Ret.mk (congrArg (Value.int .i64) HT.out.symm) X.out.below

theorem loadVar_re {V : World} {g : Nat} {T : Nat → Int} {L : Nat → Bool} (hb : V.heap[g]? = some (.cells (ar T L) 25 (0, 0))) : ∀ w', (∃ q : Regrown, w' = grow (redrawn V q.d) q.os) → (loadVar 25 ⟨g, 0, none⟩).run Try.prog w' = .ok (.agg (ar T L)) w' := by
  rintro w' ⟨q, rfl⟩
  refine loadVar_ar ?_
  rw [(below_regrown V q.d q.os).block g (Array.getElem?_eq_some_iff.1 hb).1]
  exact hb

set_option maxHeartbeats 1000000 in
theorem assigned_any (T : Nat → Int) (L : Nat → Bool) (id : Int) (w : World) (hA : okA T L = true) : Calls Try.prog 21 #[.agg (ar T L), .int .i64 id] w (Ret (.bool (giv T id)) w) := by
  have X := Lib.hid (Kx.new w 25 (ar T L))
  have hp := plc_lt id
  have h0 := okA_at hA hp
  have HL := Lib.hid (loadVar_re X.out.blk)
  generalize hw : w.alloc (.cells (ar T L) 25) = w1 at *
  have K1 := Lib.hid (calls_re (V := w1) (place_any id))
  have K2 := Lib.hid (calls_re (V := w1) (fun u => last_any T L (plc id) u hp h0.1 h0.2.1))
  clear h0 hA
  go_enter Try.func21, Try.ntmps21
  by_cases h : 0 ≤ id
  · have HE : Hid (giv T id = decide (id ≤ las T (plc id))) := by show _ = _; simp [giv, h]
    generalize giv T id = r at *
    generalize las T (plc id) = s at *
    generalize plc id = p at *
    rw [show r = decide (id ≤ s) from HE.out]
    clear HE
    have hd : decide (0 ≤ id) = true := by simp [h]
    clear h
    go_wp2
    refine wp_region_quiet_below (by kernel_rfl) (by kernel_rfl) ?_
    repeat (first | (go_big_quiet_want; refine quiet_load HL.out rfl rfl ?_; simp only [Act.put, List.setIfInBounds_toArray, List.set_cons_zero, List.set_cons_succ]; go_big_quiet_on) | (go_big_quiet_step (with_reducible first | exact K1.out _ _ | exact K2.out _ _)))
    refine wpQuiet_nil ?_
    intro _ hw'
    obtain ⟨⟨dq, osq⟩, hw''⟩ := hw'
    subst hw''
    have B := Lib.hid (X.out.below.trans ((below_regrown w1 dq osq).mono X.out.below.size))
    clear HL K1 K2 hw X
    generalize grow (redrawn w1 dq) osq = w3 at *
    go_wp2
    go_ret
    exact Ret.mk rfl B.out
  · have HE : Hid (giv T id = false) := by show _ = _; simp [giv, h]
    have hd : decide (0 ≤ id) = false := by simp; omega
    clear h
    generalize giv T id = r at *
    rw [show r = false from HE.out]
    clear HE
    go_wp2
    refine wp_region_quiet_below (by kernel_rfl) (by kernel_rfl) ?_
    repeat (go_big_quiet_step (fail))
    refine wpQuiet_nil ?_
    intro _ hw'
    obtain ⟨⟨dq, osq⟩, hw''⟩ := hw'
    subst hw''
    have B := Lib.hid (X.out.below.trans ((below_regrown w1 dq osq).mono X.out.below.size))
    clear HL K1 K2 hw X
    generalize grow (redrawn w1 dq) osq = w3 at *
    go_wp2
    go_ret
    exact Ret.mk rfl B.out
set_option maxHeartbeats 1000000 in
theorem refGiven_any (T : Nat → Int) (L : Nat → Bool) (id : Int) (w : World) (hA : okA T L = true) : Calls Try.prog 15 #[.agg (ar T L), .int .i64 id] w (Ret (.bool (giv T id)) w) := by
  have X := Lib.hid (Kx.new w 25 (ar T L))
  have hp := plc_lt id
  have h0 := okA_at hA hp
  have HL := Lib.hid (loadVar_re X.out.blk)
  generalize hw : w.alloc (.cells (ar T L) 25) = w1 at *
  have K1 := Lib.hid (calls_re (V := w1) (refPlace_any id))
  have K2 := Lib.hid (calls_re (V := w1) (fun u => refLast_any T L (plc id) u hp h0.1 h0.2.1))
  clear h0 hA
  go_enter Try.func15, Try.ntmps15
  by_cases h : 0 ≤ id
  · have HE : Hid (giv T id = decide (id ≤ las T (plc id))) := by show _ = _; simp [giv, h]
    generalize giv T id = r at *
    generalize las T (plc id) = s at *
    generalize plc id = p at *
    rw [show r = decide (id ≤ s) from HE.out]
    clear HE
    have hd : decide (0 ≤ id) = true := by simp [h]
    clear h
    go_wp2
    refine wp_region_quiet_below (by kernel_rfl) (by kernel_rfl) ?_
    repeat (first | (go_big_quiet_want; refine quiet_load HL.out rfl rfl ?_; simp only [Act.put, List.setIfInBounds_toArray, List.set_cons_zero, List.set_cons_succ]; go_big_quiet_on) | (go_big_quiet_step (with_reducible first | exact K1.out _ _ | exact K2.out _ _)))
    refine wpQuiet_nil ?_
    intro _ hw'
    obtain ⟨⟨dq, osq⟩, hw''⟩ := hw'
    subst hw''
    have B := Lib.hid (X.out.below.trans ((below_regrown w1 dq osq).mono X.out.below.size))
    clear HL K1 K2 hw X
    generalize grow (redrawn w1 dq) osq = w3 at *
    go_wp2
    go_ret
    exact Ret.mk rfl B.out
  · have HE : Hid (giv T id = false) := by show _ = _; simp [giv, h]
    have hd : decide (0 ≤ id) = false := by simp; omega
    clear h
    generalize giv T id = r at *
    rw [show r = false from HE.out]
    clear HE
    go_wp2
    refine wp_region_quiet_below (by kernel_rfl) (by kernel_rfl) ?_
    repeat (go_big_quiet_step (fail))
    refine wpQuiet_nil ?_
    intro _ hw'
    obtain ⟨⟨dq, osq⟩, hw''⟩ := hw'
    subst hw''
    have B := Lib.hid (X.out.below.trans ((below_regrown w1 dq osq).mono X.out.below.size))
    clear HL K1 K2 hw X
    generalize grow (redrawn w1 dq) osq = w3 at *
    go_wp2
    go_ret
    exact Ret.mk rfl B.out
end Go.Proofs.Ytghbbedekmdpoaa
