/- Contracts: a number's place; the number that a place was given last; which arenas are valid. The program's and the reference's. -/
import Derived.Test.YtghbbedekmdpoaaAr1
namespace Go.Proofs.Ytghbbedekmdpoaa
open Go.RowKit
set_option linter.unusedVariables false

theorem tmod_pos {i : Int} (h : 0 ≤ i) : Int.tmod i 64 = i % 64 := Int.tmod_eq_emod_of_nonneg h
theorem tmod_any (i : Int) : -64 < Int.tmod i 64 ∧ Int.tmod i 64 < 64 ∧ (Int.tmod i 64) % 64 = i % 64 ∧ (0 ≤ i → 0 ≤ Int.tmod i 64) := by
  refine ⟨?_, ?_, ?_, ?_⟩
  · rcases Int.lt_or_le i 0 with h | h
    · have := Int.neg_tmod (-i) 64
      rw [Int.neg_neg] at this
      have h2 : Int.tmod (-i) 64 = (-i) % 64 := tmod_pos (by omega)
      omega
    · rw [tmod_pos h]; omega
  · rcases Int.lt_or_le i 0 with h | h
    · have := Int.neg_tmod (-i) 64
      rw [Int.neg_neg] at this
      have h2 : Int.tmod (-i) 64 = (-i) % 64 := tmod_pos (by omega)
      omega
    · rw [tmod_pos h]; omega
  · have := Int.tmod_add_mul_tdiv i 64
    omega
  · intro h; rw [tmod_pos h]; omega

theorem place_any (id : Int) (w : World) : Calls Try.prog 17 #[.int .i64 id] w (Ret (.int .i64 ((plc id : Nat) : Int)) w) := by
  have H := tmod_any id
  have HE : Hid ((Int.tmod id 64 + 64) % 64 = ((plc id : Nat) : Int)) := by show _ = _; rw [plc_cast]; omega
  have HW : wrap64 (Int.tmod id 64) = Int.tmod id 64 := IntWalk.wrap64_in _ (by omega)
  have HW2 : wrap64 (Int.tmod id 64 + 64) = Int.tmod id 64 + 64 := IntWalk.wrap64_in _ (by omega)
  go_enter Try.func17, Try.ntmps17
  go_wp2
  go_ret
  exact Ret.mk (congrArg (Value.int .i64) HE.out) (Below.refl _ _)
theorem refPlace_any (id : Int) (w : World) : Calls Try.prog 14 #[.int .i64 id] w (Ret (.int .i64 ((plc id : Nat) : Int)) w) := by
  have H := tmod_any id
  have HW : wrap64 (Int.tmod id 64) = Int.tmod id 64 := IntWalk.wrap64_in _ (by omega)
  have HW2 : wrap64 (Int.tmod id 64 + 64) = Int.tmod id 64 + 64 := IntWalk.wrap64_in _ (by omega)
  have HC := plc_cast id
  by_cases h : Int.tmod id 64 < 0
  · have HE : Hid (Int.tmod id 64 + 64 = ((plc id : Nat) : Int)) := by show _ = _; omega
    clear HC
    go_enter Try.func14, Try.ntmps14
    go_wp2
    go_ret
    exact Ret.mk (congrArg (Value.int .i64) HE.out) (Below.refl _ _)
  · have HE : Hid (Int.tmod id 64 = ((plc id : Nat) : Int)) := by show _ = _; omega
    clear HC
    go_enter Try.func14, Try.ntmps14
    go_wp2
    go_ret
    exact Ret.mk (congrArg (Value.int .i64) HE.out) (Below.refl _ _)

theorem las_walk {t : Int} {p : Nat} (hp : p < 64) (h0 : 0 ≤ t) (h1 : t ≤ 1048576) : wrap64 (t - 1) = t - 1 ∧ wrap64 (64 * (t - 1)) = 64 * (t - 1) ∧ wrap64 (64 * (t - 1) + (p : Int)) = 64 * (t - 1) + (p : Int) :=
  ⟨IntWalk.wrap64_in _ (by omega), IntWalk.wrap64_in _ (by omega), IntWalk.wrap64_in _ (by omega)⟩
theorem last_any (T : Nat → Int) (L : Nat → Bool) (p : Nat) (w : World) (hp : p < 64) (h0 : 0 ≤ T p) (h1 : T p ≤ 1048576) :
    Calls Try.prog 23 #[.agg (ar T L), .int .i64 (p : Int)] w (Ret (.int .i64 (las T p)) w) := by
  obtain ⟨e1, e2, e3⟩ := las_walk hp h0 h1
  have hc : (w.alloc (.cells (ar T L) 25)).cell? ⟨w.heap.size, p, none⟩ = some (.int .i64 (T p)) := by rw [cell_new]; exact ar_t T L hp
  have hd := ar_t T L hp
  have HE : Hid (64 * (T p - 1) + (p : Int) = las T p) := rfl
  have HB := Lib.hid (below_box (w := w) (.cells (ar T L) 25))
  generalize T p = t at *
  go_enter Try.func23, Try.ntmps23
  go_wp2
  go_ret
  exact Ret.mk (congrArg (Value.int .i64) HE.out) HB.out
theorem refLast_any (T : Nat → Int) (L : Nat → Bool) (p : Nat) (w : World) (hp : p < 64) (h0 : 0 ≤ T p) (h1 : T p ≤ 1048576) :
    Calls Try.prog 12 #[.agg (ar T L), .int .i64 (p : Int)] w (Ret (.int .i64 (las T p)) w) := by
  obtain ⟨e1, e2, e3⟩ := las_walk hp h0 h1
  have hc : (w.alloc (.cells (ar T L) 25)).cell? ⟨w.heap.size, p, none⟩ = some (.int .i64 (T p)) := by rw [cell_new]; exact ar_t T L hp
  have hd := ar_t T L hp
  have HE : Hid (64 * (T p - 1) + (p : Int) = las T p) := rfl
  have HB := Lib.hid (below_box (w := w) (.cells (ar T L) 25))
  generalize T p = t at *
  go_enter Try.func12, Try.ntmps12
  go_wp2
  go_ret
  exact Ret.mk (congrArg (Value.int .i64) HE.out) HB.out

theorem index_ts (T : Nat → Int) {k : Nat} (hk : k < 64) (w : World) : (Instr.index 22 (.agg (arT T).toArray) (.int .i64 (k : Int))).run Try.prog w = .ok (.int .i64 (T k)) w := by
  have hk' : (k : Int) < 64 := by omega
  have h0 : (0 : Int) ≤ (k : Int) := by omega
  have e : ((k : Int)).toNat = k := by omega
  simp only [Instr.index, asIntOf, Sem.run_bind, Sem.run_pure, run_underlying Try.underlying22, Result.andThen_ok, e]
  rw [if_pos ⟨h0, by omega⟩]
  simp only [Sem.run_bind, Try.sizeOf3, Result.andThen_ok, Nat.mul_one]
  exact part_ts T w hk
theorem index_ls (L : Nat → Bool) {k : Nat} (hk : k < 64) (w : World) : (Instr.index 23 (.agg (arL L).toArray) (.int .i64 (k : Int))).run Try.prog w = .ok (.bool (L k)) w := by
  have hk' : (k : Int) < 64 := by omega
  have h0 : (0 : Int) ≤ (k : Int) := by omega
  have e : ((k : Int)).toNat = k := by omega
  simp only [Instr.index, asIntOf, Sem.run_bind, Sem.run_pure, run_underlying Try.underlying23, Result.andThen_ok, e]
  rw [if_pos ⟨h0, by omega⟩]
  simp only [Sem.run_bind, Try.sizeOf4, Result.andThen_ok, Nat.mul_one]
  exact part_ls L w hk
/-- What a round of May is told. -/
theorem may_round {T : Nat → Int} {L : Nat → Bool} {k : Nat} (hk : k < 64) (hA : okN T L k = true) (t : Int) (l : Bool) (ht : T k = t) (hl : L k = l) : (okP t l = false → okA T L = false) ∧ (okP t l = true → okN T L (k + 1) = true) := by
  subst ht hl
  exact ⟨fun h => okA_no hk h, fun h => by rw [okN_succ, hA, h]; rfl⟩

set_option maxHeartbeats 1000000 in
theorem may_any (T : Nat → Int) (L : Nat → Bool) (w : World) : Calls Try.prog 8 #[.agg (ar T L)] w (Ret (.bool (okA T L)) w) := by
  have X := Lib.hid (Kx.new w 25 (ar T L))
  go_enter Try.func8, Try.ntmps8
  go_wp2_with (refine wpList_load_at (loadVar_ts (alloc_blk _ _ _)) rfl rfl rfl ?_)
  generalize w.alloc (.cells (ar T L) 25) = w1 at *
  go_loop [7] (fun i => ∃ k : Nat, k ≤ 64 ∧ i = .int .i64 (k : Int) ∧ Hid (okN T L k = true)) (fun i => 64 - (intOf i).toNat)
  case atStart => exact ⟨0, by omega, rfl, okN_zero T L⟩
  case round =>
    obtain ⟨k, hk, rfl, hA⟩ := hrel
    by_cases hlt : k < 64
    · have hlt' : (k : Int) < 64 := by omega
      have c1 := index_ts T hlt w1
      have c2 := X.out.cell (64 + k) (ar_l T L hlt)
      have R := may_round hlt hA (T k) (L k) rfl rfl
      have R1 := Lib.hid R.1
      have R2 := Lib.hid R.2
      clear R hA
      generalize T k = t at *
      generalize L k = l at *
      by_cases h1 : t < 0
      · have HF : Hid (okA T L = false) := R1.out (by simp [okP]; omega)
        go_wp2
        go_ret
        exact Ret.mk (congrArg Value.bool HF.out.symm) X.out.below
      · by_cases h2 : 1048576 < t
        · have h2' : decide (1048576 < t) = true := by simp; omega
          have HF : Hid (okA T L = false) := R1.out (by simp [okP]; omega)
          clear h2
          go_wp2
          go_ret
          exact Ret.mk (congrArg Value.bool HF.out.symm) X.out.below
        · have h2' : decide (1048576 < t) = false := by simp; omega
          clear h2
          cases l
          · have HT : Hid (okN T L (k + 1) = true) := R2.out (by simp [okP] at *; omega)
            go_wp2
            go_round
            case rel => exact ⟨k + 1, by omega, by go_num, HT⟩
            case measure => simp [intOf]; omega
          · by_cases h3 : t = 0
            · have HF : Hid (okA T L = false) := R1.out (by simp [okP]; omega)
              subst h3
              go_wp2
              go_ret
              exact Ret.mk (congrArg Value.bool HF.out.symm) X.out.below
            · have h3' : (t == 0) = false := by simp [h3]
              have HT : Hid (okN T L (k + 1) = true) := R2.out (by simp [okP] at *; omega)
              go_wp2
              go_round
              case rel => exact ⟨k + 1, by omega, by go_num, HT⟩
              case measure => simp [intOf]; omega
    · have e : k = 64 := by omega
      subst e
      have HT : Hid (okA T L = true) := hA
      go_wp2
      go_ret
      exact Ret.mk (congrArg Value.bool HT.out.symm) X.out.below
end Go.Proofs.Ytghbbedekmdpoaa
