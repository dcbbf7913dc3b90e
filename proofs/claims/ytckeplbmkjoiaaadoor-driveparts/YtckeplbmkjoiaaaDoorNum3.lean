/- Contracts of package num, third part: two words divided, one more, the signs; Mul and MulDiv. -/
import Derived.Test.YtckeplbmkjoiaaaDoorNum2
namespace Go.Proofs.YtckeplbmkjoiaaaDoor
open Go.RowKit
set_option linter.unusedVariables false

theorem divide_end {w : World} {hi lo b q0 q1 r : Int} (h0 : 0 ≤ hi) (h1 : hi ≤ 18446744073709551615) (h2 : 0 ≤ lo) (h3 : lo ≤ 18446744073709551615) (h4 : 1 ≤ b)
    (e0 : q0 = hi / b) (e1 : q1 = dvd (hi % b) lo 64 / b) (e2 : r = dvd (hi % b) lo 64 % b) :
    Value.tuple #[.agg #[.int .u64 q0, .int .u64 q1], .int .u64 r] = .tuple #[.agg #[.int .u64 (whi ((hi * 18446744073709551616 + lo) / b)), .int .u64 (wlo ((hi * 18446744073709551616 + lo) / b))], .int .u64 ((hi * 18446744073709551616 + lo) % b)] := by
  obtain ⟨a0, a1, a2⟩ := dvd_words hi lo b h0 h1 h2 h3 h4
  rw [a0, a1, a2, e0, e1, e2]

/-- What 'divide' answers. -/
def divV (hi lo b : Int) : Value := .tuple #[.agg #[.int .u64 (whi ((hi * 18446744073709551616 + lo) / b)), .int .u64 (wlo ((hi * 18446744073709551616 + lo) / b))], .int .u64 ((hi * 18446744073709551616 + lo) % b)]

set_option maxHeartbeats 400000 in
theorem divide_any (hi lo b : Int) (w : World) (h0 : 0 ≤ hi) (h1 : hi ≤ 18446744073709551615) (h2 : 0 ≤ lo) (h3 : lo ≤ 18446744073709551615) (h4 : 1 ≤ b) (h5 : b ≤ 9223372036854775808) :
    Calls Tryd.prog 68 #[.agg #[.int .u64 hi, .int .u64 lo], .int .u64 b] w (Ret (divV hi lo b) w) := by
  cases hz : (hi % b == 0) with
  | true =>
    have hz' : hi % b = 0 := by simpa using hz
    have HD := Lib.hid (dvd_words0 hi lo b h0 h1 h2 h3 h4 hz')
    clear hz'
    go_enter Tryd.func68, Tryd.ntmps68
    go_wp2
    go_region
    go_wp2
    go_region
    all_goals (try go_wp2)
    all_goals
      refine bodyPost_ret (v := divV hi lo b) ?_ rfl ⟨rfl, ?_⟩
      · unfold divV
        rw [HD.out.1, HD.out.2.1, HD.out.2.2]
        simp [results, Tryd.results68, go_sem]
      · repeat (first | exact Below.refl _ _ | apply Below.drew | (refine Below.setCell ?_ (by simp) _) | (refine Below.alloc ?_ (by simp) _))
  | false =>
    go_enter Tryd.func68, Tryd.ntmps68
    go_wp2
    go_region
    go_wp2
    go_loop [7, 8, 9] (fun r l i => ∃ (k : Nat) (R L : Int), k ≤ 64 ∧ i = .int .i64 (63 - (k : Int)) ∧ r = .int .u64 R ∧ l = .int .u64 L ∧ Hid (R = dvd (hi % b) lo k % b) ∧ Hid (L = dvd (hi % b) lo k / b)) (fun _ _ i => (intOf i + 1).toNat)
    case atStart =>
      refine ⟨0, hi % b, 0, by omega, rfl, rfl, rfl, ?_, ?_⟩
      · show hi % b = _
        rw [dvd_zero _ _ h2 h3, Int.emod_emod_of_dvd _ (Int.dvd_refl b)]
      · show (0 : Int) = _
        rw [dvd_zero _ _ h2 h3, Int.ediv_eq_zero_of_lt (Int.emod_nonneg _ (by omega)) (Int.emod_lt_of_pos _ (by omega))]
    case round =>
      obtain ⟨k, R, L, hk, rfl, rfl, rfl, HR, HL⟩ := hrel
      by_cases hk4 : k < 64
      · obtain ⟨r0, r1, l0, l1, ho, s1, s2⟩ := dvd_round hi lo b R L k hk4 h0 h2 h3 h4 h5 HR.out HL.out
        have HO := Lib.hid ho
        have H1 := Lib.hid s1
        have H2 := Lib.hid s2
        have HB : Hid (bits BinOp.or IntKind.u64 (L * 2) 1 = 2 * L + 1) := or_one L l0 l1
        clear ho s1 s2
        by_cases hc : b ≤ bits BinOp.or IntKind.u64 (R * 2) (bits BinOp.and IntKind.u64 (lo / 2 ^ (63 - k)) 1)
        · go_wp2
          go_round
          case rel =>
            have hc' := hc
            rw [HO.out] at hc'
            refine ⟨k + 1, 2 * R + lo / 2 ^ (63 - k) % 2 - b, 2 * L + 1, by omega, by go_num, ?_, ?_, ?_, ?_⟩
            · rw [HO.out, IntWalk.u64_in _ (by omega)]
            · rw [HB.out]
            · exact (H1.out hc').2.symm
            · exact (H1.out hc').1.symm
          case measure => simp [intOf]; omega
        · go_wp2
          go_round
          case rel =>
            have hc' := hc
            rw [HO.out] at hc'
            refine ⟨k + 1, 2 * R + lo / 2 ^ (63 - k) % 2, 2 * L, by omega, by go_num, ?_, ?_, ?_, ?_⟩
            · rw [HO.out]
            · congr 1; first | omega | (rw [IntWalk.u64_in _ (by omega)]; omega)
            · exact (H2.out (by omega)).2.symm
            · exact (H2.out (by omega)).1.symm
          case measure => simp [intOf]; omega
      · have hk64 : k = 64 := by omega
        have HR' : Hid (R = dvd (hi % b) lo 64 % b) := by rw [← hk64]; exact HR
        have HL' : Hid (L = dvd (hi % b) lo 64 / b) := by rw [← hk64]; exact HL
        clear HR HL hk64
        have HF := Lib.hid (divide_end (w := w) (q0 := hi / b) (q1 := L) (r := R) h0 h1 h2 h3 h4 rfl HL'.out HR'.out)
        go_wp2
        refine bodyPost_ret (v := divV hi lo b) ?_ rfl ⟨rfl, ?_⟩
        · unfold divV
          rw [← HF.out]
          simp [results, Tryd.results68, go_sem]
        · repeat (first | exact Below.refl _ _ | apply Below.drew | (refine Below.setCell ?_ (by simp) _) | (refine Below.alloc ?_ (by simp) _))

set_option maxHeartbeats 400000 in
theorem next_any (n : Int) (w : World) (h0 : 0 ≤ n) (h1 : n ≤ 170141183460469231731687303715884105728) :
    Calls Tryd.prog 70 #[.agg #[.int .u64 (whi n), .int .u64 (wlo n)]] w (Ret (.agg #[.int .u64 (whi (n + 1)), .int .u64 (wlo (n + 1))]) w) := by
  have a0 := wlo_lo n
  have a1 := wlo_hi n
  have b0 : 0 ≤ whi n := by unfold whi; omega
  have b1 : whi n ≤ 9223372036854775808 := by unfold whi; omega
  cases hz : (IntKind.u64.wrap (wlo n + 1) == 0) with
  | true =>
    have H : Hid (whi (n + 1) = whi n + 1 ∧ wlo (n + 1) = IntKind.u64.wrap (wlo n + 1)) := by
      have wr : ∀ n, IntKind.u64.wrap n = n % 18446744073709551616 := fun n => by simp [IntKind.wrap, IntKind.bits, IntKind.signed]
      have hz' : IntKind.u64.wrap (wlo n + 1) = 0 := by simpa using hz
      rw [wr] at hz' ⊢
      unfold Hid whi wlo at *
      omega
    go_enter Tryd.func70, Tryd.ntmps70
    go_wp2
    refine bodyPost_ret (v := .agg #[.int .u64 (whi (n + 1)), .int .u64 (wlo (n + 1))]) ?_ rfl ⟨rfl, ?_⟩
    · rw [H.out.1, H.out.2]
      simp [results, Tryd.results70, go_sem]
    · repeat (first | exact Below.refl _ _ | apply Below.drew | (refine Below.setCell ?_ (by simp) _) | (refine Below.alloc ?_ (by simp) _))
  | false =>
    have H : Hid (whi (n + 1) = whi n ∧ wlo (n + 1) = IntKind.u64.wrap (wlo n + 1)) := by
      have wr : ∀ n, IntKind.u64.wrap n = n % 18446744073709551616 := fun n => by simp [IntKind.wrap, IntKind.bits, IntKind.signed]
      have hz' : ¬ IntKind.u64.wrap (wlo n + 1) = 0 := by simpa using hz
      rw [wr] at hz' ⊢
      unfold Hid whi wlo at *
      omega
    go_enter Tryd.func70, Tryd.ntmps70
    go_wp2
    refine bodyPost_ret (v := .agg #[.int .u64 (whi (n + 1)), .int .u64 (wlo (n + 1))]) ?_ rfl ⟨rfl, ?_⟩
    · rw [H.out.1, H.out.2]
      simp [results, Tryd.results70, go_sem]
    · repeat (first | exact Below.refl _ _ | apply Below.drew | (refine Below.setCell ?_ (by simp) _) | (refine Below.alloc ?_ (by simp) _))


set_option maxHeartbeats 400000 in
/-- Not negative. -/
theorem signed_plus (n r : Int) (p : Nat) (w : World) (hp : w.cell? ⟨p, 0, none⟩ = some (.bool false)) (hpb : p < w.heap.size) (h0 : 0 ≤ n) :
    Calls Tryd.prog 69 #[.agg #[.int .u64 (whi n), .int .u64 (wlo n)], .int .u64 r, .pointer (some ⟨p, 0, none⟩)] w (Ret (.tuple #[.int .i64 (rV n), .int .i64 (rE n)]) w) := by
  cases hh : (whi n != 0) with
  | true =>
    have H := Lib.hid (sign_over (by simpa using hh) h0)
    go_enter Tryd.func69, Tryd.ntmps69
    go_wp2
    go_ret2
    exact Ret.mk (two_eq H.out.1.symm H.out.2.1.symm) ((Below.refl _ _).alloc (Nat.le_refl _) _)
  | false =>
    have hh' : whi n = 0 := by simpa using hh
    by_cases hl : wlo n < 9223372036854775808
    · have H := Lib.hid (sign_plus hh' hl)
      have HW : Hid (wrap64 (wlo n) = wlo n) := IntWalk.wrap64_in _ (by have := wlo_lo n; omega)
      clear hh'
      go_enter Tryd.func69, Tryd.ntmps69
      go_wp2
      go_ret2
      exact Ret.mk (two_eq (HW.out.trans H.out.1.symm) H.out.2.symm) ((Below.refl _ _).alloc (Nat.le_refl _) _)
    · have H := Lib.hid (sign_plus_over hh' (by omega))
      clear hh'
      go_enter Tryd.func69, Tryd.ntmps69
      go_wp2
      go_ret2
      exact Ret.mk (two_eq H.out.1.symm H.out.2.symm) ((Below.refl _ _).alloc (Nat.le_refl _) _)

set_option maxHeartbeats 400000 in
/-- Negative, nothing left. -/
theorem signed_minus (n : Int) (p : Nat) (w : World) (hp : w.cell? ⟨p, 0, none⟩ = some (.bool true)) (hpb : p < w.heap.size) (h0 : 0 ≤ n) :
    Calls Tryd.prog 69 #[.agg #[.int .u64 (whi n), .int .u64 (wlo n)], .int .u64 0, .pointer (some ⟨p, 0, none⟩)] w (Ret (.tuple #[.int .i64 (rV (-n)), .int .i64 (rE (-n))]) w) := by
  cases hh : (whi n != 0) with
  | true =>
    have H := Lib.hid (sign_over (by simpa using hh) h0)
    go_enter Tryd.func69, Tryd.ntmps69
    go_wp2
    go_ret2
    exact Ret.mk (two_eq H.out.2.2.1.symm H.out.2.2.2.symm) ((Below.refl _ _).alloc (Nat.le_refl _) _)
  | false =>
    have hh' : whi n = 0 := by simpa using hh
    by_cases hl : wlo n ≤ 9223372036854775808
    · have H := Lib.hid (sign_minus hh' hl)
      clear hh'
      go_enter Tryd.func69, Tryd.ntmps69
      go_wp2
      go_ret2
      exact Ret.mk (two_eq H.out.1.symm H.out.2.symm) ((Below.refl _ _).alloc (Nat.le_refl _) _)
    · have H := Lib.hid (sign_minus_over hh' (by omega))
      clear hh'
      go_enter Tryd.func69, Tryd.ntmps69
      go_wp2
      go_ret2
      exact Ret.mk (two_eq H.out.1.symm H.out.2.symm) ((Below.refl _ _).alloc (Nat.le_refl _) _)

set_option maxHeartbeats 400000 in
/-- Negative, something left. -/
theorem signed_down (n r : Int) (p : Nat) (w : World) (hp : w.cell? ⟨p, 0, none⟩ = some (.bool true)) (hpb : p < w.heap.size) (h0 : 0 ≤ n) (h1 : n ≤ 170141183460469231731687303715884105728) (hr : (r != 0) = true) :
    Calls Tryd.prog 69 #[.agg #[.int .u64 (whi n), .int .u64 (wlo n)], .int .u64 r, .pointer (some ⟨p, 0, none⟩)] w (Ret (.tuple #[.int .i64 (rV (-(n + 1))), .int .i64 (rE (-(n + 1)))]) w) := by
  cases hh : (whi (n + 1) != 0) with
  | true =>
    have H := Lib.hid (sign_over (n := n + 1) (by simpa using hh) (by omega))
    go_enter Tryd.func69, Tryd.ntmps69
    go_wp2_with fail
    refine (next_any n _ h0 h1).mono ?_
    rintro e w' ⟨rfl, hb⟩
    obtain ⟨hf, hc⟩ := kept_of hb
    go_wp2
    go_ret2
    exact Ret.mk (two_eq H.out.2.2.1.symm H.out.2.2.2.symm) (((below_of_box hb).setCell (p := ⟨w.heap.size, 0, none⟩) (Nat.le_refl _) _).setCell (p := ⟨w.heap.size, 1, none⟩) (Nat.le_refl _) _)
  | false =>
    have hh' : whi (n + 1) = 0 := by simpa using hh
    by_cases hl : wlo (n + 1) ≤ 9223372036854775808
    · have H := Lib.hid (sign_minus hh' hl)
      clear hh'
      go_enter Tryd.func69, Tryd.ntmps69
      go_wp2_with fail
      refine (next_any n _ h0 h1).mono ?_
      rintro e w' ⟨rfl, hb⟩
      obtain ⟨hf, hc⟩ := kept_of hb
      go_wp2
      go_ret2
      exact Ret.mk (two_eq H.out.1.symm H.out.2.symm) (((below_of_box hb).setCell (p := ⟨w.heap.size, 0, none⟩) (Nat.le_refl _) _).setCell (p := ⟨w.heap.size, 1, none⟩) (Nat.le_refl _) _)
    · have H := Lib.hid (sign_minus_over hh' (by omega))
      clear hh'
      go_enter Tryd.func69, Tryd.ntmps69
      go_wp2_with fail
      refine (next_any n _ h0 h1).mono ?_
      rintro e w' ⟨rfl, hb⟩
      obtain ⟨hf, hc⟩ := kept_of hb
      go_wp2
      go_ret2
      exact Ret.mk (two_eq H.out.1.symm H.out.2.symm) (((below_of_box hb).setCell (p := ⟨w.heap.size, 0, none⟩) (Nat.le_refl _) _).setCell (p := ⟨w.heap.size, 1, none⟩) (Nat.le_refl _) _)

/-- What the sign makes of a size and of what is left. -/
def sgn (neg : Bool) (n r : Int) : Int := if neg = true then (if r = 0 then -n else -(n + 1)) else n

theorem signed_any (neg : Bool) (n r : Int) (p : Nat) (w : World) (hp : w.cell? ⟨p, 0, none⟩ = some (.bool neg)) (hpb : p < w.heap.size) (h0 : 0 ≤ n) (h1 : n ≤ 170141183460469231731687303715884105728) :
    Calls Tryd.prog 69 #[.agg #[.int .u64 (whi n), .int .u64 (wlo n)], .int .u64 r, .pointer (some ⟨p, 0, none⟩)] w (Ret (.tuple #[.int .i64 (rV (sgn neg n r)), .int .i64 (rE (sgn neg n r))]) w) := by
  unfold sgn
  cases neg with
  | false => rw [if_neg (by simp)]; exact signed_plus n r p w hp hpb h0
  | true =>
    rw [if_pos rfl]
    by_cases hr : r = 0
    · subst hr
      rw [if_pos rfl]
      exact signed_minus n p w hp hpb h0
    · rw [if_neg hr]
      exact signed_down n r p w hp hpb h0 h1 (by simpa using hr)

set_option maxHeartbeats 400000 in
theorem signer_any (neg : Bool) (w : World) :
    Calls Tryd.prog 65 #[.bool neg] w fun e w' => e = .returned (.func (.func 69) #[] #[.pointer (some ⟨w.heap.size, 0, none⟩)]) ∧ w' = w.alloc (.cells #[.bool neg] 4) := by
  go_enter Tryd.func65, Tryd.ntmps65
  go_wp2
  go_ret
  exact ⟨rfl, rfl⟩

end Go.Proofs.YtckeplbmkjoiaaaDoor
