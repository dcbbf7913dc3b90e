/- The reference's put and Float. -/
import Derived.Test.YtpgifcgidelmaaaKe3
namespace Go.Proofs.Ytpgifcgidelmaaa
open Go.RowKit
set_option linter.unusedVariables false

set_option maxHeartbeats 1000000 in
theorem put_any (b s : Nat) (w : World) (hs : s ≤ 8) (hb : b < 18446744073709551616) :
    Calls Try.prog 27 #[.int .u64 (b : Int), .int .i64 (s : Int)] w (RetE (le s b) w) := by
  go_enter Try.func27, Try.ntmps27
  go_wp2
  go_loopw [0, 5, 6] (fun t0 t5 i wr => ∃ k : Nat, k ≤ s ∧ i = .int .i64 (k : Int) ∧ t0 = .int .u64 ((b / 256 ^ k : Nat) : Int) ∧ Hid (Rw wr w.heap.size t5 (le k b)) ∧ Hid (Ext w (.slice none 0 0) wr t5)) (fun _ _ i _ => s - (intOf i).toNat)
  case atStart => exact ⟨0, by omega, rfl, by simp, Rw.nil _ _, Ext.refl _ _⟩
  case round =>
    obtain ⟨k, hk, rfl, rfl, hR, hE⟩ := hrel
    by_cases hlt : k < s
    · have hlt' : (k : Int) < (s : Int) := by omega
      have hx : b / 256 ^ k < 18446744073709551616 := Nat.lt_of_le_of_lt (Nat.div_le_self _ _) hb
      have HS : Hid (le (k + 1) b = le k b ++ [b / 256 ^ k % 256]) := le_end k b
      have HD : Hid (b / 256 ^ (k + 1) = b / 256 ^ k / 256) := by show _ = _; rw [Nat.div_div_eq_div_mul, Nat.pow_succ]
      have HL : Hid ((le k b).length ≤ 8) := by show _ ≤ _; rw [le_length]; omega
      obtain ⟨x, ex⟩ : ∃ x, b / 256 ^ k = x := ⟨_, rfl⟩
      rw [ex] at hx HS HD ⊢
      obtain ⟨l2, el⟩ : ∃ l2, le k b = l2 := ⟨_, rfl⟩
      rw [el] at HL HS hR
      clear ex el
      have u1 : IntKind.u8.wrap (x : Int) = ((x % 256 : Nat) : Int) := by simp [IntKind.wrap, IntKind.bits, IntKind.signed]
      have HZ : Hid (w.heap.size ≤ wr.heap.size) := hE.out.size
      obtain ⟨y, ey⟩ : ∃ y, x % 256 = y := ⟨_, rfl⟩
      obtain ⟨z, ez⟩ : ∃ z, x / 256 = z := ⟨_, rfl⟩
      rw [ey] at u1 HS
      rw [ez] at HD
      have EZ : Hid ((x : Int) / 256 = (z : Int)) := by show _ = _; omega
      have y1 : (x : Int) % 256 = (y : Int) := by omega
      have y2 : IntKind.u8.wrap (y : Int) = (y : Int) := by simp [IntKind.wrap, IntKind.bits, IntKind.signed]; omega
      clear ey ez hb
      go_wp2_with (at_builtin; refine append_new rfl (.tmp 12) (.tmp 16) rfl w.heap.size l2 [y] 1 _ _ wr rfl hR.out rfl rfl rfl (by simp) (by have := HL.out; simp; omega) HZ.out ?_; intro v' w1 hr' he')
      go_roundw
      case rel => exact ⟨k + 1, by omega, by go_num, by rw [HD.out, EZ.out], by show Rw _ _ _ _; rw [HS.out]; exact hr', hE.out.trans he'⟩
      case measure => simp [intOf]; omega
    · have e : k = s := by omega
      subst e
      have hge : ¬ (k : Int) < (k : Int) := by omega
      go_wp2
      go_ret
      exact ⟨_, rfl, hR.out, hE.out.below rfl⟩

/-! ### One float of one number -/
theorem read_two (r : Nat) (hr : 4503599627370496 ≤ r) : r + 4503599627370496 = (-1074 + ((r / 4503599627370496 - 1 : Nat) : Int) + 1075).toNat * 4503599627370496 + (4503599627370496 + r % 4503599627370496) := by
  have e := Nat.div_add_mod r 4503599627370496
  have h1 : 1 ≤ r / 4503599627370496 := by omega
  generalize r / 4503599627370496 = q at *
  generalize r % 4503599627370496 = m at *
  have : (-1074 + ((q - 1 : Nat) : Int) + 1075).toNat = q := by omega
  rw [this]
  omega
theorem read_pos {b m : Nat} {i : Int} (hb : b < 18446744073709551616) (h : Ieee.double.read b = .number false m i) : b + 4503599627370496 = (i + 1075).toNat * 4503599627370496 + m := by
  unfold Ieee.Format.read at h
  have e1 : Ieee.double.binade = 4503599627370496 := by decide
  have e2 : Ieee.double.infRung = 9218868437227405312 := by decide
  have e3 : Ieee.double.signWeight = 9223372036854775808 := by decide
  have e4 : Ieee.double.leastPlace = -1074 := by decide
  rw [e1, e2, e3, e4] at h
  dsimp only at h
  obtain ⟨sg, hsg⟩ : ∃ sg, (b / 9223372036854775808 % 2 == 1) = sg := ⟨_, rfl⟩
  obtain ⟨r, hr⟩ : ∃ r, b % 9223372036854775808 = r := ⟨_, rfl⟩
  rw [hsg, hr] at h
  have hs : sg = false → b = r := by
    intro hf
    subst hf
    simp at hsg
    omega
  clear hsg
  have hr2 : r < 9223372036854775808 := by omega
  clear hr
  split at h
  · rw [Ieee.Datum.number.injEq] at h
    obtain ⟨h1, h2, h3⟩ := h
    have hb := hs h1
    subst hb
    subst h2
    subst h3
    show b + 4503599627370496 = 1 * 4503599627370496 + b
    omega
  · split at h
    · rw [Ieee.Datum.number.injEq] at h
      obtain ⟨h1, h2, h3⟩ := h
      have hb := hs h1
      rw [hb, ← h2, ← h3]
      clear h1 h2 h3 hb hs
      exact read_two r (by omega)
    · split at h <;> cases h
theorem isF_inj {b b' : Nat} {z : Int} (hb : b < 18446744073709551616) (hb' : b' < 18446744073709551616) (hz : 0 < z) (h : IsF b z) (h' : IsF b' z) : b = b' := by
  obtain ⟨s, m, i, hr, hv, hm, hi1, hi2⟩ := h
  obtain ⟨s', m', i', hr', hv', hm', hi1', hi2'⟩ := h'
  have sf : ∀ {s : Bool} {m : Nat} {i : Int}, val s m i = z → s = false ∧ ((m * pw i : Nat) : Int) = z := by
    intro s m i h
    cases s
    · exact ⟨rfl, by simpa [val] using h⟩
    · simp only [val, if_true] at h
      omega
  obtain ⟨rfl, e1⟩ := sf hv
  obtain ⟨rfl, e2⟩ := sf hv'
  have l1 := (read_lim hr).2.2.2
  have l2 := (read_lim hr').2.2.2
  have hmm : m * pw i = m' * pw i' := by omega
  have key : ∀ {m m' : Nat} {i i' : Int}, -1074 ≤ i → i < i' → m < 2 ^ 53 → (m' < 2 ^ 52 → i' = -1074) → m * pw i = m' * pw i' → False := by
    intro m m' i i' h1 h2 h3 h4 h5
    have hm' : 2 ^ 52 ≤ m' := by
      rcases Nat.lt_or_ge m' (2 ^ 52) with q | q
      · have := h4 q; omega
      · exact q
    have p := pw_pos i
    have e : pw i' = pw i * 2 ^ (i' - i).toNat := pw_split (by omega) (by omega)
    have e5 : m = m' * 2 ^ (i' - i).toNat := by
      rw [e] at h5
      exact Nat.eq_of_mul_eq_mul_right p (by rw [h5]; grind)
    have : 2 ^ 1 ≤ 2 ^ (i' - i).toNat := Nat.pow_le_pow_right (by decide) (by omega)
    have : 2 ^ 52 * 2 ^ 1 ≤ m' * 2 ^ (i' - i).toNat := Nat.mul_le_mul hm' this
    omega
  have hii : i = i' := by
    rcases Int.lt_trichotomy i i' with q | q | q
    · exact (key hi1 q hm l2 hmm).elim
    · exact q
    · exact (key hi1' q hm' l1 hmm.symm).elim
  subst hii
  have hmm2 : m = m' := Nat.eq_of_mul_eq_mul_right (pw_pos i) hmm
  subst hmm2
  have := read_pos hb hr
  have := read_pos hb' hr'
  omega
/-- The bits of a number below 2^52, k places up. -/
theorem spd_is (v k : Nat) (h0 : 0 < v) (hv : v ≤ 262144) (hk : k ≤ 52) (h1 : 4503599627370496 ≤ v * 2 ^ k) (h2 : v * 2 ^ k < 9007199254740992) : spd (v : Int) = (1058 - k) * 4503599627370496 + v * 2 ^ k := by
  obtain ⟨s1, s2, -, -⟩ := spd_in (v : Int) (by omega) (by omega)
  have hz : 0 < (v : Int) * (pw (-16) : Int) := Int.mul_pos (by omega) (by have := pw_pos (-16); omega)
  refine isF_inj s2 (by omega) hz s1 ?_
  have hr := read_word false (1058 - k) (v * 2 ^ k) (by omega) (.inl (by omega)) (.inr (by omega))
  have e1 : Ieee.double.binade = 4503599627370496 := by decide
  have e2 : Ieee.double.infRung = 9218868437227405312 := by decide
  have hm : min ((1058 - k) * Ieee.double.binade + v * 2 ^ k) Ieee.double.infRung = (1058 - k) * 4503599627370496 + v * 2 ^ k := by rw [e1, e2]; omega
  rw [hm] at hr
  have hw : Ieee.double.word false ((1058 - k) * 4503599627370496 + v * 2 ^ k) = (1058 - k) * 4503599627370496 + v * 2 ^ k := by
    unfold Ieee.Format.word
    simp
  rw [hw] at hr
  have hval : val false (v * 2 ^ k) (((1058 - k : Nat) : Int) - 1074) = (v : Int) * (pw (-16) : Int) := by
    have ep : pw (-16) = pw (((1058 - k : Nat) : Int) - 1074) * 2 ^ k := pw_at _ _ k (by omega) (by omega)
    rw [ep]
    simp only [val, Bool.false_eq_true, if_false]
    push_cast
    grind
  rw [hval] at hr
  exact hr

set_option maxHeartbeats 1000000 in
theorem float_any (v : Nat) (w : World) (hv : v ≤ 262144) : Calls Try.prog 28 #[.int .i64 (v : Int)] w (fun e w' => e = .returned (.int .u64 ((spd (v : Int) : Nat) : Int)) ∧ w = w') := by
  by_cases h0 : v = 0
  · subst h0
    have e0 : spd ((0 : Nat) : Int) = 0 := (spd_in 0 (by decide) (by decide)).2.2.1 rfl
    rw [e0]
    go_enter Try.func28, Try.ntmps28
    go_wp2
    go_ret
    exact ⟨rfl, rfl⟩
  · have h0' : ¬ (v : Int) = 0 := by omega
    have u0 : IntKind.u64.wrap (v : Int) = (v : Int) := by simp [IntKind.wrap, IntKind.bits, IntKind.signed]; omega
    have HV : Hid (0 < v ∧ v ≤ 262144) := ⟨by omega, hv⟩
    clear h0 hv
    go_enter Try.func28, Try.ntmps28
    go_wp2
    go_loop [3, 4] (fun e m => ∃ k x E : Nat, k ≤ 52 ∧ m = .int .u64 (x : Int) ∧ e = .int .u64 (E : Int) ∧ Hid (x = v * 2 ^ k ∧ E + k = 1059 ∧ x < 9007199254740992)) (fun e _ => (intOf e).toNat)
    case atStart => exact ⟨0, v, 1059, by omega, rfl, rfl, by simp, by omega, by have := HV.out.2; omega⟩
    case round =>
      obtain ⟨k, x, E, hk, rfl, rfl, hX⟩ := hrel
      obtain ⟨x1, x2, x3⟩ := hX.out
      by_cases hlt : x < 4503599627370496
      · have hlt' : (x : Int) < 4503599627370496 := by omega
        have hk52 : k < 52 := by
          rcases Nat.lt_or_ge k 52 with q | q
          · exact q
          · have : 2 ^ 52 ≤ 2 ^ k := Nat.pow_le_pow_right (by decide) q
            have : 1 * 2 ^ 52 ≤ v * 2 ^ k := Nat.mul_le_mul HV.out.1 this
            omega
        have HN : Hid (2 * x = v * 2 ^ (k + 1) ∧ E - 1 + (k + 1) = 1059 ∧ 2 * x < 9007199254740992) := ⟨by rw [x1, Nat.pow_succ]; grind, by omega, by omega⟩
        have hE1 : 1 ≤ E := by omega
        have u1 : IntKind.u64.wrap ((x : Int) * 2) = ((2 * x : Nat) : Int) := by simp [IntKind.wrap, IntKind.bits, IntKind.signed]; omega
        have u2 : IntKind.u64.wrap ((E : Int) - 1) = ((E - 1 : Nat) : Int) := by simp [IntKind.wrap, IntKind.bits, IntKind.signed]; omega
        obtain ⟨X2, eX⟩ : ∃ X2, 2 * x = X2 := ⟨_, rfl⟩
        obtain ⟨E2, eE⟩ : ∃ E2, E - 1 = E2 := ⟨_, rfl⟩
        rw [eX] at u1 HN
        rw [eE] at u2 HN
        have HE := Lib.hid eE
        clear hX x1 x2 x3 eX eE
        go_wp2
        go_round
        case rel => exact ⟨k + 1, X2, E2, by omega, rfl, rfl, HN.out⟩
        case measure => have := HE.out; simp [intOf]; omega
      · have hge : ¬ (x : Int) < 4503599627370496 := by omega
        have HS : Hid (spd (v : Int) = (1058 - k) * 4503599627370496 + x) := by
          show _ = _
          rw [spd_is v k HV.out.1 HV.out.2 hk (by omega) (by omega), x1]
        have u1 : IntKind.u64.wrap ((E : Int) * 4503599627370496) = (E : Int) * 4503599627370496 := by simp [IntKind.wrap, IntKind.bits, IntKind.signed]; omega
        have u2 : IntKind.u64.wrap ((E : Int) * 4503599627370496 + (x : Int)) = (E : Int) * 4503599627370496 + (x : Int) := by simp [IntKind.wrap, IntKind.bits, IntKind.signed]; omega
        have u3 : IntKind.u64.wrap ((E : Int) * 4503599627370496 + (x : Int) - 4503599627370496) = (E : Int) * 4503599627370496 + (x : Int) - 4503599627370496 := by simp [IntKind.wrap, IntKind.bits, IntKind.signed]; omega
        have HX : Hid ((E : Int) * 4503599627370496 + (x : Int) - 4503599627370496 = (((1058 - k) * 4503599627370496 + x : Nat) : Int)) := by show _ = _; omega
        clear hX x1 x2 x3
        go_wp2
        go_ret
        refine ⟨?_, rfl⟩
        rw [HS.out, ← HX.out]
        rfl
end Go.Proofs.Ytpgifcgidelmaaa
