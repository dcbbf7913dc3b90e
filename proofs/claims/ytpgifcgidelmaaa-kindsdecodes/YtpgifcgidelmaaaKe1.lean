/- Contracts of package kinds: bytes that are written. -/
import Derived.Test.YtpgifcgidelmaaaKd6
import Derived.Test.YtpgifcgidelmaaaKeMath
import Derived.Laws.BitsAll
import Derived.Test.YtpgifcgidelmaaaRef6
namespace Go.Proofs.Ytpgifcgidelmaaa
open Go.RowKit
set_option linter.unusedVariables false

set_option maxHeartbeats 1000000 in
theorem withBits_any (base : Nat) (v : Value) (l : List Nat) (s b : Nat) (w : World) (hr : Rw w base v l) (hs : s ≤ 8) (hb : b < 18446744073709551616) (hl : l.length ≤ 900000) (hB : base ≤ w.heap.size) :
    Calls Try.prog 35 #[v, .int .i64 (s : Int), .int .u64 (b : Int)] w (RetX base v (l ++ le s b) w) := by
  have HR := Lib.hid hr
  clear hr
  go_enter Try.func35, Try.ntmps35
  go_wp2
  go_loopw [0, 2, 8] (fun t0 t2 i wr => ∃ k : Nat, k ≤ s ∧ i = .int .i64 (k : Int) ∧ t2 = .int .u64 ((b / 256 ^ k : Nat) : Int) ∧ Hid (Rw wr base t0 (l ++ le k b)) ∧ Hid (Ext w v wr t0)) (fun _ _ i _ => s - (intOf i).toNat)
  case atStart => exact ⟨0, by omega, rfl, by simp, by show Rw _ _ _ _; rw [le, List.append_nil]; exact HR.out, Ext.refl _ _⟩
  case round =>
    obtain ⟨k, hk, rfl, rfl, hR, hE⟩ := hrel
    clear HR
    by_cases hlt : k < s
    · have hlt' : (k : Int) < (s : Int) := by omega
      have hx : b / 256 ^ k < 18446744073709551616 := Nat.lt_of_le_of_lt (Nat.div_le_self _ _) hb
      have HS : Hid (l ++ le (k + 1) b = (l ++ le k b) ++ [b / 256 ^ k % 256]) := by show _ = _; rw [le_end, List.append_assoc]
      have HD : Hid (b / 256 ^ (k + 1) = b / 256 ^ k / 256) := by show _ = _; rw [Nat.div_div_eq_div_mul, Nat.pow_succ]
      have HL : Hid ((l ++ le k b).length ≤ 900008) := by show _ ≤ _; rw [List.length_append, le_length]; omega
      obtain ⟨x, ex⟩ : ∃ x, b / 256 ^ k = x := ⟨_, rfl⟩
      rw [ex] at hx HS HD ⊢
      obtain ⟨l2, el⟩ : ∃ l2, l ++ le k b = l2 := ⟨_, rfl⟩
      rw [el] at HL HS hR
      clear ex el
      have u1 : IntKind.u8.wrap (x : Int) = ((x % 256 : Nat) : Int) := by simp [IntKind.wrap, IntKind.bits, IntKind.signed]
      have HZ : Hid (base ≤ wr.heap.size) := by have := hE.out.size; show _ ≤ _; omega
      obtain ⟨y, ey⟩ : ∃ y, x % 256 = y := ⟨_, rfl⟩
      obtain ⟨z, ez⟩ : ∃ z, x / 256 = z := ⟨_, rfl⟩
      rw [ey] at u1 HS
      rw [ez] at HD
      have EZ : Hid ((x : Int) / 256 = (z : Int)) := by show _ = _; omega
      clear ey ez hx hb hl hB
      go_wp2_with (at_builtin; (refine append_new rfl (.tmp 10) (.tmp 13) rfl base l2 [y] 1 _ _ wr rfl hR.out rfl rfl rfl (by simp) (by have := HL.out; simp; omega) HZ.out ?_; intro v' w1 hr' he'))
      go_roundw
      case rel => exact ⟨k + 1, by omega, by go_num, by rw [HD.out, EZ.out], by show Rw _ _ _ _; rw [HS.out]; exact hr', hE.out.trans he'⟩
      case measure => simp [intOf]; omega
    · have e : k = s := by omega
      subst e
      have hge : ¬ (k : Int) < (k : Int) := by omega
      go_wp2
      go_ret
      exact ⟨_, rfl, hR.out, hE.out⟩
/-- Numbers of one size, one behind the other. -/
def flds (s : Nat) (z : Nat → Int) : Nat → List Nat
  | 0 => []
  | n + 1 => flds s z n ++ le s (z n).toNat
theorem flds_length (s : Nat) (z : Nat → Int) : ∀ n, (flds s z n).length = n * s
  | 0 => by simp [flds]
  | n + 1 => by rw [flds, List.length_append, flds_length s z n, le_length, Nat.succ_mul]

set_option maxHeartbeats 1000000 in
theorem fields_any (base : Nat) (v : Value) (l : List Nat) (s g n : Nat) (zs : List Int) (w : World) (hr : Rw w base v l) (hb : w.heap[g]? = some (.cells (zs.map fun v => Value.int .i64 v).toArray 3 (0, 0))) (hn : zs.length = n)
    (hs : s ≤ 8) (h0 : ∀ i, i < n → 0 ≤ lst zs i ∧ lst zs i < 18446744073709551616) (hl : l.length ≤ 800000) (hn2 : n ≤ 100) (hB : base ≤ w.heap.size) :
    Calls Try.prog 24 #[v, .int .i64 (s : Int), .slice (some ⟨g, 0, none⟩) n n] w (RetX base v (l ++ flds s (lst zs) n) w) := by
  have HR := Lib.hid hr
  have HB := Lib.hid hb
  have H0 := Lib.hid h0
  have HN := Lib.hid hn
  have hne : 3 ≠ 5 := by decide
  clear hr hb h0 hn
  go_enter Try.func24, Try.ntmps24
  go_wp2
  go_loopw [0, 11] (fun t0 i wr => ∃ k : Nat, k ≤ n ∧ i = .int .i64 (k : Int) ∧ Hid (Rw wr base t0 (l ++ flds s (lst zs) k)) ∧ Hid (Ext w v wr t0) ∧ Hid (wr.heap[g]? = some (.cells (zs.map fun v => Value.int .i64 v).toArray 3 (0, 0)))) (fun _ i _ => n - (intOf i).toNat)
  case atStart => exact ⟨0, by omega, rfl, by show Rw _ _ _ _; rw [flds, List.append_nil]; exact HR.out, Ext.refl _ _, HB.out⟩
  case round =>
    obtain ⟨k, hk, rfl, hR, hE, hG⟩ := hrel
    clear HR HB
    by_cases hlt : k < n
    · have hlt' : (k : Int) < (n : Int) := by omega
      have hck : wr.cell? ⟨g, k, none⟩ = some (.int .i64 (lst zs k)) := by
        have hkz : k < zs.length := by have := HN.out; omega
        rw [cell_of_row wr g k _ _ (0, 0) hG.out]
        simp [lst, List.getD, hkz]
      obtain ⟨a0, a1⟩ := H0.out k hlt
      obtain ⟨x, ex⟩ : ∃ x : Nat, lst zs k = (x : Int) := ⟨(lst zs k).toNat, by omega⟩
      have HS : Hid (l ++ flds s (lst zs) (k + 1) = (l ++ flds s (lst zs) k) ++ le s x) := by show _ = _; rw [flds, List.append_assoc, ex]; simp
      have HL : Hid ((l ++ flds s (lst zs) k).length ≤ 900000) := by
        show _ ≤ _
        rw [List.length_append, flds_length]
        have : k * s ≤ 100 * 8 := Nat.mul_le_mul (by omega) hs
        omega
      have HZ : Hid (base ≤ wr.heap.size) := by have := hE.out.size; show _ ≤ _; omega
      rw [ex] at hck a0 a1
      obtain ⟨l2, el⟩ : ∃ l2, l ++ flds s (lst zs) k = l2 := ⟨_, rfl⟩
      rw [el] at HL HS hR
      clear ex el
      have u1 : IntKind.u64.wrap (x : Int) = (x : Int) := by simp [IntKind.wrap, IntKind.bits, IntKind.signed]; omega
      have HX : Hid (x < 18446744073709551616) := by show _ < _; omega
      have HS8 := Lib.hid hs
      clear a0 a1 hs hl hB
      go_wp2_with fail
      refine (withBits_any base _ l2 s x _ hR.out HS8.out HX.out HL.out HZ.out).mono ?_
      rintro e w1 ⟨v', rfl, hr', he'⟩
      have HR' := Lib.hid hr'
      have HE' := Lib.hid (hE.out.trans he')
      have HG' := Lib.hid (blk_ext hG.out hne hR.out he')
      clear hr' he' hck
      go_wp2
      go_roundw
      case rel => exact ⟨k + 1, by omega, by go_num, by show Rw _ _ _ _; rw [HS.out]; exact HR'.out, HE'.out, HG'.out⟩
      case measure => simp [intOf]; omega
    · have e : k = n := by omega
      subst e
      have hge : ¬ (k : Int) < (k : Int) := by omega
      go_wp2
      go_ret
      exact ⟨_, rfl, hR.out, hE.out⟩

/-- The bits of the float that is so many 65536ths. -/
noncomputable def spd (v : Int) : Nat := if h : -70368744177664 ≤ v ∧ v < 70368744177664 then Classical.choose (to_in v h.1 h.2) else 0
theorem spd_in (v : Int) (h1 : -70368744177664 ≤ v) (h2 : v < 70368744177664) :
    IsF (spd v) (v * (pw (-16) : Int)) ∧ spd v < 18446744073709551616 ∧ (v = 0 → spd v = 0) ∧ ∀ w, Calls Try.prog 42 #[.int .i64 v] w (Ret (.tuple #[.float .f64 (spd v), .int .i64 0]) w) := by
  unfold spd
  rw [dif_pos ⟨h1, h2⟩]
  exact Classical.choose_spec (to_in v h1 h2)

set_option maxHeartbeats 1000000 in
theorem withSpeed_any (base : Nat) (v : Value) (l : List Nat) (x : Int) (w : World) (hr : Rw w base v l) (h1 : -70368744177664 ≤ x) (h2 : x < 70368744177664) (hl : l.length ≤ 800000) (hB : base ≤ w.heap.size) :
    Calls Try.prog 36 #[v, .int .i64 x] w (RetX base v (l ++ le 8 (spd x)) w) := by
  obtain ⟨-, s2, -, s4⟩ := spd_in x h1 h2
  have HR := Lib.hid hr
  have HC := Lib.hid s4
  have S2 := Lib.hid s2
  clear hr h1 h2 s4 s2
  generalize spd x = r at *
  have hbits := bitsOf r
  go_enter Try.func36, Try.ntmps36
  go_wp2_with fail
  refine (HC.out _).mono ?_
  rintro e w1 ⟨rfl, b1⟩
  have B1 := Lib.hid b1
  clear b1 HC
  go_wp2_with fail
  refine (withBits_any base _ l 8 r _ (HR.out.keep B1.out) (by decide) S2.out (by omega) (by have := B1.out.size; omega)).mono ?_
  rintro e w2 ⟨v', rfl, hr', he'⟩
  have HR' := Lib.hid hr'
  have HE' := Lib.hid (((Ext.refl w v).step B1.out).trans he')
  clear hr' he'
  go_wp2
  go_ret
  exact ⟨_, rfl, HR'.out, HE'.out⟩
end Go.Proofs.Ytpgifcgidelmaaa
