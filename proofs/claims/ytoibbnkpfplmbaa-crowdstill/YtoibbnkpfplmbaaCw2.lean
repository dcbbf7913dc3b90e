/- Contracts: below, present, things. -/
import Derived.Test.YtoibbnkpfplmbaaCw1
namespace Go.Proofs.Ytoibbnkpfplmbaa
open Go.RowKit
set_option linter.unusedVariables false
set_option linter.unusedSimpArgs false
attribute [local go_sem] Oper.semAt_some

/-- Are all of the first k -1, or below? -/
def rgB (cells : Int) (p : Nat → Int) : Nat → Bool
  | 0 => true
  | k + 1 => rgB cells p k && decide (-1 ≤ p k ∧ p k < cells)
theorem rgB_iff (cells : Int) (p : Nat → Int) : ∀ n, rgB cells p n = true ↔ rgZ cells p n
  | 0 => ⟨fun _ i hi => absurd hi (by omega), fun _ => rfl⟩
  | n + 1 => by
    unfold rgB
    rw [Bool.and_eq_true, rgB_iff cells p n, decide_eq_true_iff]
    constructor
    · rintro ⟨h1, h2⟩ i hi
      rcases Nat.lt_or_ge i n with q | q
      · exact h1 i q
      · obtain rfl : i = n := by omega
        exact h2
    · intro h
      exact ⟨fun i hi => h i (by omega), h n (by omega)⟩
theorem rgB_no {cells : Int} {p : Nat → Int} {n k : Nat} (hk : k < n) (h : ¬ (-1 ≤ p k ∧ p k < cells)) : rgB cells p n = false := by
  rw [Bool.eq_false_iff]
  intro q
  exact h ((rgB_iff cells p n).1 q k hk)

set_option maxHeartbeats 1000000 in
theorem below15_any (cells : Int) (A : Option Addr) (n c : Nat) (p : Nat → Int) (w : World) (hI : Is w A n p) (hn : n ≤ 1000000) :
    Calls Try.prog 17 #[.int .i64 cells, .slice A n c] w (Ret (.bool (rgB cells p n)) w) := by
  have HI := Lib.hid hI
  clear hI
  go_enter Try.func17, Try.ntmps17
  go_wp2
  go_loopw [9] (fun t wr => ∃ k : Nat, k ≤ n ∧ t = .int .i64 (k : Int) ∧ Hid (rgB cells p k = true) ∧ wr = w) (fun t _ => n - (intOf t).toNat)
  case atStart => exact ⟨0, by omega, rfl, rfl, rfl⟩
  case round =>
    obtain ⟨k, hk, rfl, hp, rfl⟩ := hrel
    by_cases hkn : k < n
    · have hkI : (k : Int) < (n : Int) := by omega
      have hkB : decide ((k : Int) < (n : Int)) = true := decide_eq_true hkI
      obtain ⟨g, o, rfl, c0⟩ := HI.out.at (Below.refl _ _) hkn
      by_cases h1 : -1 ≤ p k
      · have g1 : decide (p k < -1) = false := decide_eq_false (by omega)
        by_cases h2 : p k < cells
        · have g2 : decide (cells ≤ p k) = false := decide_eq_false (by omega)
          have HP : Hid (rgB cells p (k + 1) = true) := by
            show _ = _
            unfold rgB
            rw [hp.out, decide_eq_true ⟨h1, h2⟩]
            rfl
          generalize p k = z at *
          go_wp2
          go_roundw
          case rel => exact ⟨k + 1, by omega, by go_num, HP, trivial⟩
          case measure => simp [intOf]; omega
        · have g2 : decide (cells ≤ p k) = true := decide_eq_true (by omega)
          have HP := Lib.hid (rgB_no (cells := cells) (p := p) hkn (fun q => h2 q.2))
          generalize p k = z at *
          go_wp2
          go_ret
          exact Ret.mk (congrArg Value.bool HP.out.symm) (Below.refl _ _)
      · have g1 : decide (p k < -1) = true := decide_eq_true (by omega)
        have HP := Lib.hid (rgB_no (cells := cells) (p := p) hkn (fun q => h1 q.1))
        generalize p k = z at *
        go_wp2
        go_ret
        exact Ret.mk (congrArg Value.bool HP.out.symm) (Below.refl _ _)
    · obtain rfl : k = n := by omega
      have hkI : decide ((k : Int) < (k : Int)) = false := decide_eq_false (by omega)
      go_wp2
      go_ret
      exact Ret.mk (congrArg Value.bool hp.out.symm) (Below.refl _ _)

set_option maxHeartbeats 1000000 in
theorem present15_any (cells : Int) (A : Option Addr) (n c : Nat) (p : Nat → Int) (w : World) (hI : Is w A n p) (hr : rgZ cells p n) (hn : n ≤ 1000000) :
    Calls Try.prog 19 #[.slice A n c] w (Ret (.int .i64 (prZ p n : Int)) w) := by
  have HI := Lib.hid hI
  have HR := Lib.hid hr
  clear hI hr
  have hpl := prZ_le p n
  go_enter Try.func19, Try.ntmps19
  go_wp2
  go_loopw [3, 8] (fun s t wr => ∃ k : Nat, k ≤ n ∧ t = .int .i64 (k : Int) ∧ s = .int .i64 (prZ p k : Int) ∧ wr = w) (fun _ t _ => n - (intOf t).toNat)
  case atStart => exact ⟨0, by omega, rfl, rfl, rfl⟩
  case round =>
    obtain ⟨k, hk, rfl, rfl, rfl⟩ := hrel
    by_cases hkn : k < n
    · have hkI : (k : Int) < (n : Int) := by omega
      have hkB : decide ((k : Int) < (n : Int)) = true := decide_eq_true hkI
      obtain ⟨g, o, rfl, c0⟩ := HI.out.at (Below.refl _ _) hkn
      have hlo := (HR.out k hkn).1
      have hpk := prZ_le p k
      by_cases h1 : p k = -1
      · have HP : Hid ((prZ p k : Int) = (prZ p (k + 1) : Int)) := by
          show _ = _
          rw [show prZ p (k + 1) = prZ p k + if 0 ≤ p k then 1 else 0 from rfl, if_neg (by omega)]
          rfl
        rw [h1] at c0
        generalize prZ p k = m at *
        go_wp2
        go_roundw
        case rel => exact ⟨k + 1, by omega, by go_num, by rw [HP.out], trivial⟩
        case measure => simp [intOf]; omega
      · have HP : Hid ((prZ p k : Int) + 1 = (prZ p (k + 1) : Int)) := by
          show _ = _
          rw [show prZ p (k + 1) = prZ p k + if 0 ≤ p k then 1 else 0 from rfl, if_pos (by omega)]
          rfl
        have g1 : (p k == -1) = false := by simp [h1]
        generalize prZ p k = m at *
        generalize p k = z at *
        go_wp2
        go_roundw
        case rel => exact ⟨k + 1, by omega, by go_num, by rw [← HP.out], trivial⟩
        case measure => simp [intOf]; omega
    · obtain rfl : k = n := by omega
      have hkI : decide ((k : Int) < (k : Int)) = false := decide_eq_false (by omega)
      go_wp2
      go_ret
      exact Ret.mk rfl (Below.refl _ _)

theorem run_mk (t : TypeId) (w : World) : (Instr.makeMap t none).run Try.prog w = .ok (.map (some w.heap.size)) (w.alloc (.map #[] 0)) := rfl
set_option maxHeartbeats 1000000 in
theorem things15_any (cells : Int) (hcl : cells ≤ 4096) (A : Option Addr) (n c : Nat) (p : Nat → Int) (w : World) (hI : Is w A n p) (hr : rgZ cells p n) (hn : n ≤ 64) :
    Calls Try.prog 18 #[.slice A n c] w fun e w' => ∃ b, e = .returned (.map (some b)) ∧ w.heap.size ≤ b ∧ Mo w' b (dsZ p n) (laZ p n) ∧ Below w.heap.size w w' := by
  have HI := Lib.hid hI
  have HR := Lib.hid hr
  clear hI hr
  have hmm := run_mk
  have HM0 := Lib.hid (Mo.made w)
  have HB0 := Lib.hid (newBox (w := w) (.map #[] 0))
  go_enter Try.func18, Try.ntmps18
  go_wp2
  clear hmm
  generalize w.alloc (.map #[] 0) = w1 at *
  go_loopw [9] (fun t wr => ∃ k : Nat, k ≤ n ∧ t = .int .i64 (k : Int) ∧ Hid (Mo wr w.heap.size (dsZ p k) (laZ p k)) ∧ Hid (Below w.heap.size w wr)) (fun t _ => n - (intOf t).toNat)
  case atStart => exact ⟨0, by omega, rfl, HM0.out, HB0.out⟩
  case round =>
    obtain ⟨k, hk, rfl, hM, hB⟩ := hrel
    by_cases hkn : k < n
    · have hkI : (k : Int) < (n : Int) := by omega
      have hkB : decide ((k : Int) < (n : Int)) = true := decide_eq_true hkI
      obtain ⟨g, o, rfl, c0⟩ := HI.out.at hB.out hkn
      obtain ⟨hlo, hhi⟩ := HR.out k hkn
      by_cases h1 : p k = -1
      · have e1 : dsZ p (k + 1) = dsZ p k := by
          rw [show dsZ p (k + 1) = dsZ p k + if 0 ≤ p k ∧ laZ p k (p k) < 0 then 1 else 0 from rfl, if_neg (by omega)]
          rfl
        have HM := Lib.hid (hM.out.congr (g := laZ p (k + 1)) (fun c hc => by
          show _ = if p k = c then (k : Int) else laZ p k c
          rw [if_neg (by omega)]))
        rw [← e1] at HM
        rw [h1] at c0
        clear hM e1
        go_wp2
        go_roundw
        case rel => exact ⟨k + 1, by omega, by go_num, HM.out, hB.out⟩
        case measure => simp [intOf]; omega
      · have g1 : (p k == -1) = false := by simp [h1]
        have hds : dsZ p k ≤ 100000 := by have := dsZ_le p k; have := prZ_le p k; omega
        obtain ⟨w2, hrun, hM2, hg2⟩ := hM.out.put hds (c := p k) (v := (k : Int)) (by omega) (by omega)
        have e1 : dsZ p (k + 1) = if 0 ≤ laZ p k (p k) then dsZ p k else dsZ p k + 1 := by
          rw [show dsZ p (k + 1) = dsZ p k + if 0 ≤ p k ∧ laZ p k (p k) < 0 then 1 else 0 from rfl]
          by_cases q : 0 ≤ laZ p k (p k)
          · rw [if_pos q, if_neg (by omega)]
            rfl
          · rw [if_neg q, if_pos (by omega)]
        rw [← e1] at hM2
        have HM := Lib.hid (hM2.congr (g := laZ p (k + 1)) (fun c hc => by
          show cwZ (laZ p k) (p k) (k : Int) c = if p k = c then (k : Int) else laZ p k c
          unfold cwZ
          by_cases q : c = p k
          · rw [if_pos q, if_pos q.symm]
          · rw [if_neg q, if_neg (fun e => q e.symm)]))
        have HB2 := Lib.hid (hB.out.grown hg2 hB.out.size (fun r e => by injection e with e; omega))
        clear hM hM2 hg2 e1
        generalize p k = z at *
        go_wp2
        go_roundw
        case rel => exact ⟨k + 1, by omega, by go_num, HM.out, HB2.out⟩
        case measure => simp [intOf]; omega
    · obtain rfl : k = n := by omega
      have hkI : decide ((k : Int) < (k : Int)) = false := decide_eq_false (by omega)
      go_wp2
      go_ret
      exact ⟨_, rfl, Nat.le_refl _, hM.out, hB.out⟩
end Go.Proofs.Ytoibbnkpfplmbaa
