/- The laws' own few, some, may; the reference's Corner. -/
import Derived.Test.YtcneilhhpblclaaCr8
import Derived.Test.YtcneilhhpblclaaCr2
import Derived.Test.YtcneilhhpblclaaRel3
namespace Go.Proofs.Ytcneilhhpblclaa
open Go.RowKit
set_option linter.unusedVariables false

set_option maxHeartbeats 400000 in
theorem few9_any (W H T : Int) (A : Option Addr) (n c : Nat) (p : Nat → Nat) (w : World) (hb : Bs w A n p) (hn : n ≤ c) (hc : c ≤ maxLen) :
    Calls Try.prog 13 #[.agg #[.int .i64 W, .int .i64 H, .int .i64 T, .slice A n c]] w (Ret (.agg #[.int .i64 W, .int .i64 H, .int .i64 T, .slice A (fewN n) c]) w) := by
  unfold maxLen at hc
  by_cases h : 4300 < n
  · have HE : Hid (fewN n = 4300) := by show _ = _; unfold fewN; rw [if_pos h]
    obtain ⟨g, o, rfl, _, _⟩ := hb (by omega)
    clear hb
    have h' : (4300 : Int) < (n : Int) := by omega
    have hc0 : ¬ c = 0 := by omega
    have hc1 : (4300 : Int) ≤ (c : Int) := by omega
    go_enter Try.func13, Try.ntmps13
    go_wp2
    refine bodyPost_ret (v := .agg #[.int .i64 W, .int .i64 H, .int .i64 T, .slice (some ⟨g, o, none⟩) 4300 c]) (by simp [results, Try.results13, go_sem]) rfl ?_
    rw [HE.out]
    exact Ret.mk rfl (((Below.refl _ _).alloc (Nat.le_refl _) _).alloc (by simp) _)
  · have HE : Hid (fewN n = n) := by show _ = _; unfold fewN; rw [if_neg h]
    clear hb
    have h' : ¬ (4300 : Int) < (n : Int) := by omega
    go_enter Try.func13, Try.ntmps13
    go_wp2
    refine bodyPost_ret (v := .agg #[.int .i64 W, .int .i64 H, .int .i64 T, .slice A n c]) (by simp [results, Try.results13, go_sem]) rfl ?_
    rw [HE.out]
    exact Ret.mk rfl (((Below.refl _ _).alloc (Nat.le_refl _) _).alloc (by simp) _)

set_option maxHeartbeats 400000 in
theorem fewT_any (W H T : Int) (A : Option Addr) (n c : Nat) (p : Nat → Nat) (w : World) (hb : Bs w A n p) (hn : n ≤ c) (hc : c ≤ maxLen) :
    Calls Try.prog 21 #[.agg #[.int .i64 W, .int .i64 H, .int .i64 T, .slice A n c]] w (Ret (.agg #[.int .i64 W, .int .i64 H, .int .i64 T, .slice A (fewN n) c]) w) := by
  unfold maxLen at hc
  by_cases h : 4300 < n
  · have HE : Hid (fewN n = 4300) := by show _ = _; unfold fewN; rw [if_pos h]
    obtain ⟨g, o, rfl, _, _⟩ := hb (by omega)
    clear hb
    have h' : (4300 : Int) < (n : Int) := by omega
    have hc0 : ¬ c = 0 := by omega
    have hc1 : (4300 : Int) ≤ (c : Int) := by omega
    go_enter Try.func21, Try.ntmps21
    go_wp2
    refine bodyPost_ret (v := .agg #[.int .i64 W, .int .i64 H, .int .i64 T, .slice (some ⟨g, o, none⟩) 4300 c]) (by simp [results, Try.results21, go_sem]) rfl ?_
    rw [HE.out]
    exact Ret.mk rfl (((Below.refl _ _).alloc (Nat.le_refl _) _).alloc (by simp) _)
  · have HE : Hid (fewN n = n) := by show _ = _; unfold fewN; rw [if_neg h]
    clear hb
    have h' : ¬ (4300 : Int) < (n : Int) := by omega
    go_enter Try.func21, Try.ntmps21
    go_wp2
    refine bodyPost_ret (v := .agg #[.int .i64 W, .int .i64 H, .int .i64 T, .slice A n c]) (by simp [results, Try.results21, go_sem]) rfl ?_
    rw [HE.out]
    exact Ret.mk rfl (((Below.refl _ _).alloc (Nat.le_refl _) _).alloc (by simp) _)

/-- As many hits as are looked at. -/
def someN (n : Nat) : Nat := if 20 < n then 20 else n
theorem someN_le (n : Nat) : someN n ≤ n ∧ someN n ≤ 20 := by unfold someN; split <;> omega
set_option maxHeartbeats 400000 in
theorem some_any (A : Option Addr) (n c : Nat) (h : Nat → Ht) (w : World) (hb : Hs w A n h) (hn : n ≤ c) (hc : c ≤ maxLen) :
    Calls Try.prog 14 #[.slice A n c] w fun e w' => e = .returned (.slice A (someN n) c) ∧ w = w' := by
  unfold maxLen at hc
  by_cases h' : 20 < n
  · have HE : Hid (someN n = 20) := by show _ = _; unfold someN; rw [if_pos h']
    obtain ⟨g, o, rfl, _, _⟩ := hb (by omega)
    clear hb
    have h2 : (20 : Int) < (n : Int) := by omega
    have hc0 : ¬ c = 0 := by omega
    have hc1 : (20 : Int) ≤ (c : Int) := by omega
    go_enter Try.func14, Try.ntmps14
    go_wp2
    go_ret
    exact ⟨by rw [HE.out]; rfl, rfl⟩
  · have HE : Hid (someN n = n) := by show _ = _; unfold someN; rw [if_neg h']
    clear hb
    have h2 : ¬ (20 : Int) < (n : Int) := by omega
    go_enter Try.func14, Try.ntmps14
    go_wp2
    go_ret
    exact ⟨by rw [HE.out]; rfl, rfl⟩

set_option maxHeartbeats 1000000 in
theorem mayL_any (A : Option Addr) (n c : Nat) (h : Nat → Ht) (w : World) (hb : Hs w A n h) (hn : n ≤ maxLen) (b : Bool) (hbb : b = true ↔ ∀ q, q < n → Ok9 (h q)) :
    Calls Try.prog 17 #[.slice A n c] w (Ret (.bool b) w) := by
  have HB := Lib.hid hbb
  have HH := Lib.hid hb
  clear hbb hb
  unfold maxLen at hn
  go_enter Try.func17, Try.ntmps17
  go_wp2
  go_loopw [3] (fun kv wr => ∃ k : Nat, k ≤ n ∧ kv = .int .i64 (k : Int) ∧ (∀ q, q < k → Ok9 (h q)) ∧ Below w.heap.size w wr) (fun kv _ => n - (intOf kv).toNat)
  case atStart => exact ⟨0, by omega, rfl, fun q hq => absurd hq (by omega), Below.refl _ _⟩
  case round =>
    obtain ⟨k, hk, rfl, hall, hw⟩ := hrel
    have HA := Lib.hid hall
    have HW := Lib.hid hw
    clear hall
    by_cases hkn : k < n
    · obtain ⟨g, o, eA, hg, hc⟩ := (HH.out.keep hw) (by omega)
      obtain ⟨c0, c1, c2, c3⟩ := hc k hkn
      subst eA
      have hkI : (k : Int) < (n : Int) := by omega
      have hk0 : (0 : Int) ≤ (k : Int) := by omega
      clear hc hw
      by_cases ho : Ok9 (h k)
      · have M := Lib.hid (fun u => rmay_yes (h k) u ho)
        have HA2 : Hid (∀ q, q < k + 1 → Ok9 (h q)) := by
          intro q hq
          rcases Nat.lt_or_ge q k with h' | h'
          · exact HA.out q h'
          · obtain rfl : q = k := by omega
            exact ho
        clear ho
        unfold hv at M
        go_wp2_with fail
        refine (M.out _).mono ?_
        rintro e w2 ⟨rfl, b2⟩
        have HW2 := Lib.hid (HW.out.trans (b2.mono HW.out.size))
        clear b2 c0 c1 c2 c3 M
        go_wp2
        go_roundw
        case rel => exact ⟨k + 1, by omega, by go_num, HA2.out, HW2.out⟩
        case measure => simp [intOf]; omega
      · have M := Lib.hid (fun u => rmay_no (h k) u ho)
        have HF : Hid (b = false) := by
          cases b with
          | false => rfl
          | true => exact absurd (HB.out.1 rfl k hkn) ho
        clear ho
        unfold hv at M
        go_wp2_with fail
        refine (M.out _).mono ?_
        rintro e w2 ⟨rfl, b2⟩
        have HW2 := Lib.hid (HW.out.trans (b2.mono HW.out.size))
        clear b2 c0 c1 c2 c3 M
        go_wp2
        go_ret
        exact Ret.mk (congrArg _ HF.out.symm) HW2.out
    · have HT : Hid (b = true) := HB.out.2 (fun q hq => HA.out q (by omega))
      have hb1 : ¬ (k : Int) < (n : Int) := by omega
      clear hw
      go_wp2
      go_ret
      exact Ret.mk (congrArg _ HT.out.symm) HW.out

set_option maxHeartbeats 1000000 in
theorem corner_any (u : Nat) (A : Option Addr) (n c : Nat) (h : Nat → Ht) (i j : Int) (w : World) (hu : u < 256) (hb : Hs w A n h) (hn : n ≤ maxLen) (hok : ∀ q, q < n → Ok9 (h q)) (hi : Plc i) (hj : Plc j) :
    Calls Try.prog 19 #[.int .i64 (u : Int), .slice A n c, .int .i64 i, .int .i64 j] w (Ret (.int .i64 ((u - drp h i j n : Nat) : Int)) w) := by
  have HH := Lib.hid hb
  have HO := Lib.hid hok
  have HP : Hid (Plc i ∧ Plc j) := ⟨hi, hj⟩
  clear hb hok hi hj
  unfold maxLen at hn
  go_enter Try.func19, Try.ntmps19
  go_wp2
  go_loopw [0, 9] (fun x kv wr => ∃ k v : Nat, k ≤ n ∧ kv = .int .i64 (k : Int) ∧ x = .int .i64 (v : Int) ∧ v < 256 ∧ Hid (v = u - drp h i j k) ∧ Below w.heap.size w wr) (fun _ kv _ => n - (intOf kv).toNat)
  case atStart => exact ⟨0, u, by omega, rfl, rfl, hu, (by show _ = _; rfl), Below.refl _ _⟩
  case round =>
    obtain ⟨k, v, hk, rfl, rfl, hv, HV, hw⟩ := hrel
    have HW := Lib.hid hw
    by_cases hkn : k < n
    · obtain ⟨g, o, eA, hg, hc⟩ := (HH.out.keep hw) (by omega)
      obtain ⟨c0, c1, c2, c3⟩ := hc k hkn
      subst eA
      have hkI : (k : Int) < (n : Int) := by omega
      have hk0 : (0 : Int) ≤ (k : Int) := by omega
      have hl := lw_bd (HO.out k hkn) i j
      have hD : (h k).D ≤ 255 := (HO.out k hkn).2.2.2.1
      have L := Lib.hid (fun w' => rLowers_any (h k) i j w')
      rw [show lo9 (h k) i j = lw (h k) i j by unfold lo9; rw [if_pos ⟨HO.out k hkn, HP.out.1, HP.out.2⟩]] at L
      have HN : Hid (u - drp h i j (k + 1) = v - (lw (h k) i j).toNat) := by
        show _ = _
        rw [drp, HV.out]; omega
      clear hc hw HV
      obtain ⟨l0, l1⟩ := hl
      generalize lw (h k) i j = x at *
      have hx : x ≤ 255 := by omega
      unfold Go.Proofs.Ytcneilhhpblclaa.hv at L
      go_wp2_with fail
      refine (L.out _).mono ?_
      rintro e w2 ⟨rfl, b2⟩
      have HW2 := Lib.hid (HW.out.trans (b2.mono HW.out.size))
      clear b2 c0 c1 c2 c3 L l1 hD
      by_cases hlt : (v : Int) - x < 0
      · go_wp2
        go_roundw
        case rel => exact ⟨k + 1, 0, by omega, by go_num, rfl, by omega, (by show _ = _; rw [HN.out]; omega), HW2.out⟩
        case measure => simp [intOf]; omega
      · go_wp2
        go_roundw
        case rel => exact ⟨k + 1, v - x.toNat, by omega, by go_num, (by congr 1; omega), by omega, HN.out.symm, HW2.out⟩
        case measure => simp [intOf]; omega
    · have e : k = n := by omega
      subst e
      have hb1 : ¬ (k : Int) < (k : Int) := by omega
      clear hw
      go_wp2
      go_ret
      exact Ret.mk (by rw [← HV.out]; rfl) HW.out

end Go.Proofs.Ytcneilhhpblclaa
