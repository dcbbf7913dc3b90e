/- The reference's Parts, one and Scaled, over the translated program. -/
import Derived.Test.YtpgifcgidelmaaaReal
namespace Go.Proofs.Ytpgifcgidelmaaa
open Go.RowKit
set_option linter.unusedVariables false

theorem read_bits {b : Nat} (hb : b < 18446744073709551616) {s : Bool} {m : Nat} {i : Int} (h : Ieee.double.read b = .number s m i) :
    s = ((b : Int) / 9223372036854775808 == 1) ∧ (b : Int) / 4503599627370496 % 2048 ≠ 2047 ∧
    (((b : Int) / 4503599627370496 % 2048 = 0 ∧ (m : Int) = (b : Int) % 4503599627370496 ∧ i = -1074) ∨
     ((b : Int) / 4503599627370496 % 2048 ≠ 0 ∧ (m : Int) = (b : Int) % 4503599627370496 + 4503599627370496 ∧ i = (b : Int) / 4503599627370496 % 2048 - 1075)) := by
  unfold Ieee.Format.read at h
  have e1 : Ieee.double.binade = 4503599627370496 := by decide
  have e2 : Ieee.double.infRung = 9218868437227405312 := by decide
  have e3 : Ieee.double.signWeight = 9223372036854775808 := by decide
  have e4 : Ieee.double.leastPlace = -1074 := by decide
  rw [e1, e2, e3, e4] at h
  dsimp only at h
  have hs : (b / 9223372036854775808 % 2 == 1) = ((b : Int) / 9223372036854775808 == 1) := by
    by_cases hc : b / 9223372036854775808 % 2 = 1
    · have : (b : Int) / 9223372036854775808 = 1 := by omega
      rw [hc, this]; rfl
    · have h0 : b / 9223372036854775808 % 2 = 0 := by omega
      have : (b : Int) / 9223372036854775808 = 0 := by omega
      rw [h0, this]; rfl
  rw [hs] at h
  split at h
  · injection h with a1 a2 a3
    exact ⟨a1.symm, by omega, .inl ⟨by omega, by omega, a3.symm⟩⟩
  · split at h
    · injection h with a1 a2 a3
      exact ⟨a1.symm, by omega, .inr ⟨by omega, by omega, by omega⟩⟩
    · split at h <;> cases h

theorem and_exp (x : Int) (h0 : 0 ≤ x) (h1 : x < 18446744073709551616) : bits BinOp.and IntKind.u64 x 2047 = x % 2048 := by
  rw [u64_and _ _ (by omega) (by omega) (by omega) (by omega)]
  have := Nat.and_two_pow_sub_one_eq_mod x.toNat 11
  have h2 : ((x.toNat % 2048 : Nat) : Int) = x % 2048 := by omega
  rw [← h2]
  exact congrArg Int.ofNat this
theorem and_frac (x : Int) (h0 : 0 ≤ x) (h1 : x < 18446744073709551616) : bits BinOp.and IntKind.u64 x 4503599627370495 = x % 4503599627370496 := by
  rw [u64_and _ _ (by omega) (by omega) (by omega) (by omega)]
  have := Nat.and_two_pow_sub_one_eq_mod x.toNat 52
  have h2 : ((x.toNat % 4503599627370496 : Nat) : Int) = x % 4503599627370496 := by omega
  rw [← h2]
  exact congrArg Int.ofNat this
theorem and_bit (x : Int) (h0 : 0 ≤ x) (h1 : x < 18446744073709551616) : bits BinOp.and IntKind.u64 x 1 = x % 2 := by
  rw [u64_and _ _ (by omega) (by omega) (by omega) (by omega)]
  have := Nat.and_two_pow_sub_one_eq_mod x.toNat 1
  have h2 : ((x.toNat % 2 : Nat) : Int) = x % 2 := by omega
  rw [← h2]
  exact congrArg Int.ofNat this

theorem results_tmp4 {fn : Func} {t u v x : Tmp} (h : fn.results = #[.tmp t, .tmp u, .tmp v, .tmp x]) (tmps : Array Value) (P : Program) (w : World) :
    (results fn tmps).run P w = .ok (.tuple #[tmps.getD t undef, tmps.getD u undef, tmps.getD v undef, tmps.getD x undef]) w := by
  simp [results, h]

set_option maxHeartbeats 400000 in
theorem parts_num (b : Nat) (s : Bool) (m : Nat) (i : Int) (w : World) (hb : b < 18446744073709551616) (h : Ieee.double.read b = .number s m i) :
    Calls Try.prog 40 #[.int .u64 b] w (Ret (.tuple #[.bool s, .int .u64 m, .int .i64 i, .int .i64 0]) w) := by
  obtain ⟨h1, h2, h3⟩ := read_bits hb h
  have a1 := and_exp ((b : Int) / 4503599627370496) (by omega) (by omega)
  have a2 := and_frac (b : Int) (by omega) (by omega)
  have b0 : 0 ≤ (b : Int) / 4503599627370496 % 2048 := by omega
  have b1 : (b : Int) / 4503599627370496 % 2048 < 2048 := by omega
  have b2 : 0 ≤ (b : Int) % 4503599627370496 := by omega
  have b3 : (b : Int) % 4503599627370496 < 4503599627370496 := by omega
  have h2' : ((b : Int) / 4503599627370496 % 2048 == 2047) = false := by simp; omega
  rw [h1]
  rcases h3 with ⟨g1, g2, g3⟩ | ⟨g1, g2, g3⟩
  · rw [g2, g3]
    clear h h1 g2 g3
    go_enter Try.func40, Try.ntmps40
    go_wp2
    refine bodyPost_ret (results_tmp4 rfl _ _ _) rfl ?_
    exact Ret.mk rfl (Below.refl _ _)
  · rw [g2, g3]
    have g1' : ((b : Int) / 4503599627370496 % 2048 == 0) = false := by simp; omega
    clear h h1 g2 g3
    go_enter Try.func40, Try.ntmps40
    go_wp2
    refine bodyPost_ret (results_tmp4 rfl _ _ _) rfl ?_
    exact Ret.mk rfl (Below.refl _ _)

set_option maxHeartbeats 400000 in
theorem parts_inf (b : Nat) (w : World) (hb : b < 18446744073709551616) (h : (b : Int) % 9223372036854775808 = 9218868437227405312) :
    Calls Try.prog 40 #[.int .u64 b] w (Ret (.tuple #[.bool ((b : Int) / 9223372036854775808 == 1), .int .u64 0, .int .i64 0, .int .i64 1]) w) := by
  have a1 := and_exp ((b : Int) / 4503599627370496) (by omega) (by omega)
  have a2 := and_frac (b : Int) (by omega) (by omega)
  have e1 : (b : Int) / 4503599627370496 % 2048 = 2047 := by omega
  have e2 : (b : Int) % 4503599627370496 = 0 := by omega
  rw [e1] at a1
  rw [e2] at a2
  clear h e1 e2
  go_enter Try.func40, Try.ntmps40
  go_wp2
  refine bodyPost_ret (results_tmp4 rfl _ _ _) rfl ?_
  exact Ret.mk rfl (Below.refl _ _)

set_option maxHeartbeats 400000 in
theorem parts_nan (b : Nat) (w : World) (hb : b < 18446744073709551616) (h : 9218868437227405312 < (b : Int) % 9223372036854775808) :
    Calls Try.prog 40 #[.int .u64 b] w (Ret (.tuple #[.bool ((b : Int) / 9223372036854775808 == 1), .int .u64 0, .int .i64 0, .int .i64 2]) w) := by
  have a1 := and_exp ((b : Int) / 4503599627370496) (by omega) (by omega)
  have a2 := and_frac (b : Int) (by omega) (by omega)
  have e1 : (b : Int) / 4503599627370496 % 2048 = 2047 := by omega
  have e2 : ((b : Int) % 4503599627370496 != 0) = true := by simp; omega
  have b2 : 0 ≤ (b : Int) % 4503599627370496 := by omega
  rw [e1] at a1
  clear h e1
  go_enter Try.func40, Try.ntmps40
  go_wp2
  refine bodyPost_ret (results_tmp4 rfl _ _ _) rfl ?_
  exact Ret.mk rfl (Below.refl _ _)

theorem one_any (x : Bool) (w : World) :
    Calls Try.prog 47 #[.bool x] w (fun e w' => e = .returned (.int .i64 x.toNat) ∧ w' = w) := by
  cases x
  · go_enter Try.func47, Try.ntmps47
    go_wp2
    go_ret
    exact ⟨rfl, rfl⟩
  · go_enter Try.func47, Try.ntmps47
    go_wp2
    go_ret
    exact ⟨rfl, rfl⟩

/-- What is left over of a number, in units: nothing, below a half, a half, above. -/
noncomputable def cls (r : Nat) : Int := if r = 0 then 0 else if r < pw (-1) then 1 else if r = pw (-1) then 2 else 3

/-- Of m, k bits have fallen off: mk is left, 'half' was the last of them, 'rest' tells whether there was one among the others. -/
def Fell (m k mk : Nat) (half rest : Bool) : Prop := ∃ low, 2 * m = (2 * mk + half.toNat) * 2 ^ k + low ∧ low < 2 ^ k ∧ (rest = true ↔ low ≠ 0)
theorem Fell.start (m : Nat) : Fell m 0 m false false := ⟨0, by simp, by decide, by simp⟩
theorem Fell.step {m k mk : Nat} {half rest : Bool} (h : Fell m k mk half rest) : Fell m (k + 1) (mk / 2) (mk % 2 == 1) (rest || half) := by
  obtain ⟨low, h1, h2, h3⟩ := h
  have hp := Nat.two_pow_pos k
  have hb : (mk % 2 == 1).toNat = mk % 2 := by
    rcases Nat.mod_two_eq_zero_or_one mk with e | e <;> rw [e] <;> rfl
  refine ⟨half.toNat * 2 ^ k + low, ?_, ?_, ?_⟩
  · rw [hb, h1, Nat.pow_succ]
    have e : mk = 2 * (mk / 2) + mk % 2 := by omega
    generalize mk / 2 = q at *
    generalize mk % 2 = t at *
    rw [e]; grind
  · rw [Nat.pow_succ]
    cases half
    · simp; omega
    · simp; omega
  · cases half
    · simpa using h3
    · simp
theorem Fell.done {m k mk : Nat} {half rest : Bool} (hk : k ≤ 1200) (h : Fell m k mk half rest) : m * pw (-(k : Int)) / pw 0 = mk ∧ cls (m * pw (-(k : Int)) % pw 0) = 2 * (half.toNat : Int) + (rest.toNat : Int) := by
  obtain ⟨low, h1, h2, h3⟩ := h
  have e0 : pw 0 = pw (-(k : Int)) * 2 ^ k := pw_at (-(k : Int)) 0 k (by omega) (by omega)
  have eh : pw 0 = pw (-1) * 2 := pw_at (-1) 0 1 (by decide) (by decide)
  have hpk := pw_pos (-(k : Int))
  have hp0 := pw_pos (-1)
  have hz : 2 * (m * pw (-(k : Int))) = (2 * mk + half.toNat) * pw 0 + low * pw (-(k : Int)) := by
    rw [← Nat.mul_assoc, h1, e0]; grind
  have hl : low * pw (-(k : Int)) < pw 0 := by
    rw [e0, Nat.mul_comm (pw _)]; exact Nat.mul_lt_mul_of_pos_right h2 hpk
  have hl0 : low * pw (-(k : Int)) = 0 ↔ low = 0 := by
    constructor
    · intro h
      rcases Nat.mul_eq_zero.1 h with h | h
      · exact h
      · omega
    · intro h; rw [h, Nat.zero_mul]
  generalize m * pw (-(k : Int)) = Z at *
  generalize low * pw (-(k : Int)) = L at *
  have hq : ∃ r, Z = r + mk * pw 0 ∧ 2 * r = half.toNat * pw 0 + L := by
    refine ⟨Z - mk * pw 0, ?_, ?_⟩
    · have : (2 * mk + half.toNat) * pw 0 = 2 * (mk * pw 0) + half.toNat * pw 0 := by grind
      omega
    · have : (2 * mk + half.toNat) * pw 0 = 2 * (mk * pw 0) + half.toNat * pw 0 := by grind
      omega
  obtain ⟨r, rfl, hr⟩ := hq
  have hrl : r < pw 0 := by
    cases half
    · simp at hr; omega
    · simp at hr; omega
  rw [Nat.add_mul_div_right _ _ (by omega), Nat.div_eq_of_lt hrl, Nat.add_mul_mod_self_right, Nat.mod_eq_of_lt hrl]
  refine ⟨by omega, ?_⟩
  unfold cls
  cases half <;> cases rest <;> simp at hr h3 ⊢
  · intro hh; omega
  · rw [if_neg (by omega), if_pos (by omega)]
  · rw [if_neg (by omega), if_neg (by omega), if_pos (by omega)]
  · rw [if_neg (by omega), if_neg (by omega), if_neg (by omega)]
theorem Fell.low {m k K : Nat} {rest : Bool} (hk : k ≤ K) (hK : K ≤ 1200) (h : Fell m k 0 false rest) : m * pw (-(K : Int)) / pw 0 = 0 ∧ cls (m * pw (-(K : Int)) % pw 0) = (rest.toNat : Int) := by
  obtain ⟨low, h1, h2, h3⟩ := h
  simp at h1
  have e0 : pw 0 = pw (-(K : Int)) * 2 ^ K := pw_at (-(K : Int)) 0 K (by omega) (by omega)
  have eh : pw 0 = pw (-1) * 2 := pw_at (-1) 0 1 (by decide) (by decide)
  have hpk := pw_pos (-(K : Int))
  have h4 : 2 * m < 2 ^ K := Nat.lt_of_lt_of_le (by omega) (Nat.pow_le_pow_right (by decide) hk)
  have hz : 2 * (m * pw (-(K : Int))) < pw 0 := by
    rw [e0, ← Nat.mul_assoc, Nat.mul_comm (pw _)]; exact Nat.mul_lt_mul_of_pos_right h4 hpk
  have hl0 : m * pw (-(K : Int)) = 0 ↔ m = 0 := by
    constructor
    · intro h
      rcases Nat.mul_eq_zero.1 h with h | h
      · exact h
      · omega
    · intro h; rw [h, Nat.zero_mul]
  generalize m * pw (-(K : Int)) = Z at *
  rw [Nat.div_eq_of_lt (by omega), Nat.mod_eq_of_lt (by omega)]
  refine ⟨rfl, ?_⟩
  unfold cls
  cases rest
  · simp at h3
    rw [if_pos (by omega)]; rfl
  · simp at h3
    rw [if_neg (by omega), if_pos (by omega)]; rfl
theorem Fell.lim {m k mk : Nat} {half rest : Bool} (h : Fell m k mk half rest) : mk ≤ m := by
  obtain ⟨low, h1, h2, h3⟩ := h
  have hp := Nat.two_pow_pos k
  have : 2 * mk * 1 ≤ (2 * mk + half.toNat) * 2 ^ k := Nat.mul_le_mul (by omega) hp
  omega

/-- What Scaled answers for m times 2^e. -/
def ScaledIs (m : Nat) (e : Int) (q : Nat) (k : Int) (ok : Bool) : Prop :=
  (ok = false ∧ q = 0 ∧ k = 0 ∧ 140737488355328 * pw 0 ≤ m * pw e) ∨ (ok = true ∧ q < 140737488355328 ∧ q = m * pw e / pw 0 ∧ k = cls (m * pw e % pw 0))
def RetScaled (m : Nat) (e : Int) (w : World) (en : Ending) (w' : World) : Prop := ∃ q k ok, ScaledIs m e q k ok ∧ en = .returned (.tuple #[.int .u64 q, .int .i64 k, .bool ok]) ∧ w' = w

set_option maxHeartbeats 400000 in
theorem scaled_neg (m K : Nat) (w : World) (hm : m < 9007199254740992) (hK0 : 0 < K) (hK : K ≤ 1200) :
    Calls Try.prog 41 #[.int .u64 m, .int .i64 (-(K : Int))] w (RetScaled m (-(K : Int)) w) := by
  have HS := Lib.hid (Fell.start m)
  go_enter Try.func41, Try.ntmps41
  go_wp2
  go_loop [0, 1, 7, 8] (fun a e r h => ∃ (k mk : Nat) (half rest : Bool), k ≤ K ∧ a = .int .u64 (mk : Int) ∧ e = .int .i64 ((k : Int) - K) ∧ r = .bool rest ∧ h = .bool half ∧ Hid (Fell m k mk half rest)) (fun _ e _ _ => (-(intOf e)).toNat)
  case atStart => exact ⟨0, m, false, false, by omega, rfl, congrArg (Value.int .i64) (by omega), rfl, rfl, HS⟩
  case round =>
    obtain ⟨k, mk, half, rest, hk, rfl, rfl, rfl, rfl, HR⟩ := hrel
    have hlim := HR.out.lim
    by_cases hkK : k = K
    · subst hkK
      obtain ⟨hD1, hD2⟩ := HR.out.done hK
      have HD1 := Lib.hid hD1
      have HD2 := Lib.hid hD2
      clear HR HS hD1 hD2
      have hkk : (k : Int) - (k : Int) = 0 := by omega
      rw [hkk]
      by_cases hbig : 140737488355328 ≤ (mk : Int)
      · have HX : Hid (ScaledIs m (-(k : Int)) 0 0 false) := .inl ⟨rfl, rfl, rfl, by
          have h := HD1.out
          rw [Nat.div_eq_iff (pw_pos 0)] at h
          have : 140737488355328 * pw 0 ≤ mk * pw 0 := Nat.mul_le_mul_right _ (by omega)
          have := pw_pos 0
          omega⟩
        have hz : ((mk : Int) == 0) = false := by simp; omega
        clear HD1 HD2
        go_wp2
        go_loop [0, 1] (fun a e => a = .int .u64 (mk : Int) ∧ e = .int .i64 0) (fun _ _ => 0)
        case atStart => exact ⟨rfl, rfl⟩
        case round =>
          obtain ⟨rfl, rfl⟩ := hrel
          go_wp2
          go_ret3
          exact ⟨0, 0, false, HX.out, rfl, rfl⟩
      · have HX : Hid (ScaledIs m (-(k : Int)) mk (2 * (half.toNat : Int) + (rest.toNat : Int)) true) := .inr ⟨rfl, by omega, HD1.out.symm, HD2.out.symm⟩
        clear HD1 HD2
        by_cases hz : (mk : Int) = 0
        · have hz' : ((mk : Int) == 0) = true := by simp; omega
          rw [hz] at hbig ⊢
          have hmk : mk = 0 := by omega
          subst hmk
          clear hz hz' hbig hlim
          cases half <;> cases rest
          · go_wp2
            go_loop [0, 1] (fun a e => a = .int .u64 0 ∧ e = .int .i64 0) (fun _ _ => 0)
            case atStart => exact ⟨rfl, rfl⟩
            case round =>
              obtain ⟨rfl, rfl⟩ := hrel
              go_wp2
              go_ret3
              exact ⟨_, _, true, HX.out, rfl, rfl⟩
          · go_wp2
            go_loop [0, 1] (fun a e => a = .int .u64 0 ∧ e = .int .i64 0) (fun _ _ => 0)
            case atStart => exact ⟨rfl, rfl⟩
            case round =>
              obtain ⟨rfl, rfl⟩ := hrel
              go_wp2
              go_ret3
              exact ⟨_, _, true, HX.out, rfl, rfl⟩
          · go_wp2
            go_loop [0, 1] (fun a e => a = .int .u64 0 ∧ e = .int .i64 0) (fun _ _ => 0)
            case atStart => exact ⟨rfl, rfl⟩
            case round =>
              obtain ⟨rfl, rfl⟩ := hrel
              go_wp2
              go_ret3
              exact ⟨_, _, true, HX.out, rfl, rfl⟩
          · go_wp2
            go_loop [0, 1] (fun a e => a = .int .u64 0 ∧ e = .int .i64 0) (fun _ _ => 0)
            case atStart => exact ⟨rfl, rfl⟩
            case round =>
              obtain ⟨rfl, rfl⟩ := hrel
              go_wp2
              go_ret3
              exact ⟨_, _, true, HX.out, rfl, rfl⟩
        · have hz' : ((mk : Int) == 0) = false := by simp; omega
          have hb2 : decide (140737488355328 ≤ (mk : Int)) = false := decide_eq_false hbig
          clear hbig hz hm hlim
          cases half <;> cases rest
          · go_wp2
            go_loop [0, 1] (fun a e => a = .int .u64 (mk : Int) ∧ e = .int .i64 0) (fun _ _ => 0)
            case atStart => exact ⟨rfl, rfl⟩
            case round =>
              obtain ⟨rfl, rfl⟩ := hrel
              go_wp2
              go_ret3
              exact ⟨_, _, true, HX.out, rfl, rfl⟩
          · go_wp2
            go_loop [0, 1] (fun a e => a = .int .u64 (mk : Int) ∧ e = .int .i64 0) (fun _ _ => 0)
            case atStart => exact ⟨rfl, rfl⟩
            case round =>
              obtain ⟨rfl, rfl⟩ := hrel
              go_wp2
              go_ret3
              exact ⟨_, _, true, HX.out, rfl, rfl⟩
          · go_wp2
            go_loop [0, 1] (fun a e => a = .int .u64 (mk : Int) ∧ e = .int .i64 0) (fun _ _ => 0)
            case atStart => exact ⟨rfl, rfl⟩
            case round =>
              obtain ⟨rfl, rfl⟩ := hrel
              go_wp2
              go_ret3
              exact ⟨_, _, true, HX.out, rfl, rfl⟩
          · go_wp2
            go_loop [0, 1] (fun a e => a = .int .u64 (mk : Int) ∧ e = .int .i64 0) (fun _ _ => 0)
            case atStart => exact ⟨rfl, rfl⟩
            case round =>
              obtain ⟨rfl, rfl⟩ := hrel
              go_wp2
              go_ret3
              exact ⟨_, _, true, HX.out, rfl, rfl⟩
    · have hkK' : (k : Int) - (K : Int) < 0 := by omega
      have HN := Lib.hid HR.out.step
      by_cases hz : mk = 0
      · subst hz
        have HL : Hid (∀ K' : Nat, k + 1 ≤ K' → K' ≤ 1200 → m * pw (-(K' : Int)) / pw 0 = 0 ∧ cls (m * pw (-(K' : Int)) % pw 0) = ((rest || half).toNat : Int)) := fun K' h1 h2 => Fell.low h1 h2 HN.out
        have HX : Hid (ScaledIs m (-(K : Int)) 0 ((rest || half).toNat : Int) true) := .inr ⟨rfl, by omega, (HL.out K (by omega) hK).1.symm, (HL.out K (by omega) hK).2.symm⟩
        clear HL HN HR HS hlim
        have hb0 : bits BinOp.and IntKind.u64 0 1 = 0 := by decide
        by_cases hl : (k : Int) - (K : Int) + 1 < 0
        · cases half <;> cases rest
          · go_wp2_with fail
            refine (one_any _ _).mono ?_
            rintro e w1 ⟨rfl, rfl⟩
            go_wp2
            go_ret3
            exact ⟨_, _, true, HX.out, rfl, rfl⟩
          · go_wp2_with fail
            refine (one_any _ _).mono ?_
            rintro e w1 ⟨rfl, rfl⟩
            go_wp2
            go_ret3
            exact ⟨_, _, true, HX.out, rfl, rfl⟩
          · go_wp2_with fail
            refine (one_any _ _).mono ?_
            rintro e w1 ⟨rfl, rfl⟩
            go_wp2
            go_ret3
            exact ⟨_, _, true, HX.out, rfl, rfl⟩
          · go_wp2_with fail
            refine (one_any _ _).mono ?_
            rintro e w1 ⟨rfl, rfl⟩
            go_wp2
            go_ret3
            exact ⟨_, _, true, HX.out, rfl, rfl⟩
        · have hl0 : (k : Int) - (K : Int) = -1 := by omega
          rw [hl0]
          clear hl hl0
          cases half <;> cases rest
          · go_wp2
            go_loop [0, 1] (fun a e => a = .int .u64 0 ∧ e = .int .i64 0) (fun _ _ => 0)
            case atStart => exact ⟨rfl, rfl⟩
            case round =>
              obtain ⟨rfl, rfl⟩ := hrel
              go_wp2
              go_ret3
              exact ⟨_, _, true, HX.out, rfl, rfl⟩
          · go_wp2
            go_loop [0, 1] (fun a e => a = .int .u64 0 ∧ e = .int .i64 0) (fun _ _ => 0)
            case atStart => exact ⟨rfl, rfl⟩
            case round =>
              obtain ⟨rfl, rfl⟩ := hrel
              go_wp2
              go_ret3
              exact ⟨_, _, true, HX.out, rfl, rfl⟩
          · go_wp2
            go_loop [0, 1] (fun a e => a = .int .u64 0 ∧ e = .int .i64 0) (fun _ _ => 0)
            case atStart => exact ⟨rfl, rfl⟩
            case round =>
              obtain ⟨rfl, rfl⟩ := hrel
              go_wp2
              go_ret3
              exact ⟨_, _, true, HX.out, rfl, rfl⟩
          · go_wp2
            go_loop [0, 1] (fun a e => a = .int .u64 0 ∧ e = .int .i64 0) (fun _ _ => 0)
            case atStart => exact ⟨rfl, rfl⟩
            case round =>
              obtain ⟨rfl, rfl⟩ := hrel
              go_wp2
              go_ret3
              exact ⟨_, _, true, HX.out, rfl, rfl⟩
      · have hbit := and_bit (mk : Int) (by omega) (by omega)
        have hlo : -1200 ≤ (k : Int) - (K : Int) := by omega
        by_cases ho : mk % 2 = 1
        · have ho' : ((mk : Int) % 2 == 1) = true := by simp; omega
          have ho2 : (mk % 2 == 1) = true := by simp; omega
          rw [ho2] at HN
          by_cases hq : mk / 2 = 0
          · have hq' : ((mk : Int) / 2 == 0) = true := by simp; omega
            clear HR HS hz ho ho2 hq
            cases half <;> cases rest
            · go_wp2
              go_round
              case rel => exact ⟨k + 1, mk / 2, _, _, by omega, congrArg (Value.int .u64) (by omega), congrArg (Value.int .i64) (by omega), rfl, rfl, HN⟩
              case measure => simp [intOf]; omega
            · go_wp2
              go_round
              case rel => exact ⟨k + 1, mk / 2, _, _, by omega, congrArg (Value.int .u64) (by omega), congrArg (Value.int .i64) (by omega), rfl, rfl, HN⟩
              case measure => simp [intOf]; omega
            · go_wp2
              go_round
              case rel => exact ⟨k + 1, mk / 2, _, _, by omega, congrArg (Value.int .u64) (by omega), congrArg (Value.int .i64) (by omega), rfl, rfl, HN⟩
              case measure => simp [intOf]; omega
            · go_wp2
              go_round
              case rel => exact ⟨k + 1, mk / 2, _, _, by omega, congrArg (Value.int .u64) (by omega), congrArg (Value.int .i64) (by omega), rfl, rfl, HN⟩
              case measure => simp [intOf]; omega
          · have hq' : ((mk : Int) / 2 == 0) = false := by simp; omega
            clear HR HS hz ho ho2 hq
            cases half <;> cases rest
            · go_wp2
              go_round
              case rel => exact ⟨k + 1, mk / 2, _, _, by omega, congrArg (Value.int .u64) (by omega), congrArg (Value.int .i64) (by omega), rfl, rfl, HN⟩
              case measure => simp [intOf]; omega
            · go_wp2
              go_round
              case rel => exact ⟨k + 1, mk / 2, _, _, by omega, congrArg (Value.int .u64) (by omega), congrArg (Value.int .i64) (by omega), rfl, rfl, HN⟩
              case measure => simp [intOf]; omega
            · go_wp2
              go_round
              case rel => exact ⟨k + 1, mk / 2, _, _, by omega, congrArg (Value.int .u64) (by omega), congrArg (Value.int .i64) (by omega), rfl, rfl, HN⟩
              case measure => simp [intOf]; omega
            · go_wp2
              go_round
              case rel => exact ⟨k + 1, mk / 2, _, _, by omega, congrArg (Value.int .u64) (by omega), congrArg (Value.int .i64) (by omega), rfl, rfl, HN⟩
              case measure => simp [intOf]; omega
        · have ho' : ((mk : Int) % 2 == 1) = false := by simp; omega
          have ho2 : (mk % 2 == 1) = false := by simp; omega
          rw [ho2] at HN
          have hq' : ((mk : Int) / 2 == 0) = false := by simp; omega
          clear HR HS hz ho ho2
          cases half <;> cases rest
          · go_wp2
            go_round
            case rel => exact ⟨k + 1, mk / 2, _, _, by omega, congrArg (Value.int .u64) (by omega), congrArg (Value.int .i64) (by omega), rfl, rfl, HN⟩
            case measure => simp [intOf]; omega
          · go_wp2
            go_round
            case rel => exact ⟨k + 1, mk / 2, _, _, by omega, congrArg (Value.int .u64) (by omega), congrArg (Value.int .i64) (by omega), rfl, rfl, HN⟩
            case measure => simp [intOf]; omega
          · go_wp2
            go_round
            case rel => exact ⟨k + 1, mk / 2, _, _, by omega, congrArg (Value.int .u64) (by omega), congrArg (Value.int .i64) (by omega), rfl, rfl, HN⟩
            case measure => simp [intOf]; omega
          · go_wp2
            go_round
            case rel => exact ⟨k + 1, mk / 2, _, _, by omega, congrArg (Value.int .u64) (by omega), congrArg (Value.int .i64) (by omega), rfl, rfl, HN⟩
            case measure => simp [intOf]; omega
end Go.Proofs.Ytpgifcgidelmaaa
