/- The walk of KindsSpeeds. -/
import Derived.Test.YtpgifcgidelmaaaKh2
namespace Go.Proofs.Ytpgifcgidelmaaa
open Go.RowKit
set_option linter.unusedVariables false

/-- The chapter's bytes with k bytes of the float's bits. -/
def pS (b k : Nat) : Nat → Nat := fun i => if 29 ≤ i ∧ i < 29 + k then b / 256 ^ (i - 29) % 256 else p0 i
theorem pS_lt (b k i : Nat) : pS b k i < 256 := by
  unfold pS
  split
  · omega
  · exact p0_lt i
theorem pS_zero (b i : Nat) : pS b 0 i = p0 i := by
  unfold pS
  rw [if_neg (by omega)]
theorem pS_succ (b k i : Nat) (h : i ≠ 29 + k) : pS b (k + 1) i = pS b k i := by
  unfold pS
  by_cases h1 : 29 ≤ i ∧ i < 29 + k
  · rw [if_pos h1, if_pos (by omega)]
  · rw [if_neg h1, if_neg (by omega)]
theorem pS_at (b k : Nat) : pS b (k + 1) (29 + k) = b / 256 ^ k % 256 := by
  unfold pS
  rw [if_pos (by omega)]
  congr 3
  omega
theorem le_at : ∀ (k v i : Nat), i < k → (le k v).getD i 0 = v / 256 ^ i % 256
  | 0, _, i, h => absurd h (Nat.not_lt_zero _)
  | k + 1, v, 0, _ => by simp [le]
  | k + 1, v, i + 1, h => by
    have := le_at k (v / 256) i (by omega)
    rw [Nat.pow_succ, Nat.mul_comm, ← Nat.div_div_eq_div_mul]
    simpa [le] using this
theorem pS_num (b : Nat) (hb : b < 18446744073709551616) : num (pS b 8) 29 8 = b := by
  refine num_le 8 b 29 _ hb (fun i hi => ?_)
  rw [le_at 8 b i hi]
  unfold pS
  rw [if_pos (by omega)]
  congr 3
  omega
theorem ofE_three (b : Nat) : ofE b = 14 ∨ ofE b = 0 ∨ ofE b = 8 := by
  unfold ofE
  split
  · exact .inl rfl
  · split
    · exact .inr (.inl rfl)
    · exact .inr (.inr rfl)
/-- What comes of it. -/
theorem dec_speed (b : Nat) (hb : b < 18446744073709551616) {e a : Int} (h : Dec (pS b 8) 37 e a) : (e = 0 ∧ 0 ≤ dK (pS b 8) 0 2 ∧ dK (pS b 8) 0 2 ≤ 65536) ∨ (e = 1 ∧ a = 0) ∨ ((e = 14 ∨ e = 8) ∧ a = 29) := by
  have q0 : pS b 8 0 = 1 := rfl
  have q1 : pS b 8 1 = 0 := rfl
  have hn : need (pS b 8) = 37 := by unfold need; rw [q0, q1]
  cases h with
  | short => omega
  | few h1 h2 => omega
  | many h1 h2 => omega
  | kind i h1 h2 h3 h4 h5 =>
    have : i = 0 := by omega
    subst this
    right; right
    have hk : kE (pS b 8) 0 = ofE b := by
      unfold kE kq
      show ofE (num (pS b 8) 29 8) = _
      rw [pS_num b hb]
    rw [hk] at h5 ⊢
    refine ⟨?_, rfl⟩
    rcases ofE_three b with q | q | q
    · exact .inl q
    · exact absurd q h5
    · exact .inr q
  | under i h1 h2 h3 h4 => omega
  | speed i h1 h2 h3 h4 => omega
  | check e a h1 h2 h3 h4 h5 =>
    rw [q0, q1] at h5
    cases h5 with
    | count q => omega
    | kind i _ _ _ hi => right; left; exact ⟨rfl, by omega⟩
    | weapon i _ _ _ _ hi => omega
    | fine _ _ _ hk =>
      left
      have := (okK_bd (hk 0 (by decide)) (by decide)).1
      exact ⟨rfl, this⟩

set_option maxRecDepth 100000 in
set_option maxHeartbeats 4000000 in
theorem walk_KindsSpeeds (a0 : Int) (w0 : (Lit.int .u64 a0).wf = true) (w : World) : Calls Try.prog 8 #[.int .u64 a0] w (Ret (.bool true) w) := by
  obtain ⟨b, rfl, hb⟩ : ∃ b : Nat, a0 = (b : Int) ∧ b < 18446744073709551616 := by
    simp [Lit.wf, IntKind.min, IntKind.max, IntKind.signed, IntKind.bits] at w0
    exact ⟨a0.toNat, by omega, by omega⟩
  have HBB := Lib.hid hb
  clear w0 hb
  go_enter Try.func8, Try.ntmps8
  go_wp2_with fail
  refine (least_any _).mono ?_
  rintro e w1 ⟨g, rfl, hK, b1⟩
  have HK := Lib.hid hK
  have B1 := Lib.hid b1
  clear hK b1
  go_wp2_with fail
  refine (encode_ok 1 0 1 0 _ _ (fun _ => leastF) (fun _ _ => 0) (fun _ => false) _ least_fine (by simp [maxLen]) (by simp [maxLen]) HK.out (wn_none _ _ _ _)).mono ?_
  rintro e w2 ⟨v, rfl, hr, b2⟩
  rw [least_bytes] at hr
  obtain ⟨g2, k, hv, l1, l2, hB, hl, hc, hf⟩ := hr.some (by decide)
  rw [show leastL.length = 37 from rfl] at hv l1 hc
  subst hv
  have HL := Lib.hid (And.intro l2 (Nat.le_trans B1.out.size hB))
  have l1' : 37 ≤ k := l1
  have B2 := Lib.hid (B1.out.trans (b2.mono B1.out.size))
  have HI : Hid (g2 < w2.heap.size ∧ (∀ i, i < 37 → w2.cell? ⟨g2, i, none⟩ = some (.int .u8 (pS b 0 i : Int))) ∧ (∀ i, w2.frozen? ⟨g2, i, none⟩ = false) ∧ Below w.heap.size w w2) :=
    ⟨hl, fun i hi => by rw [pS_zero]; exact hc i hi, hf, B2.out⟩
  clear hr b2 hc hf hB hl l2 l1 HK B1 B2
  go_wp2
  go_loopw [4] (fun i wr => ∃ j : Nat, j ≤ 8 ∧ i = .int .i64 (j : Int) ∧ Hid (g2 < wr.heap.size ∧ (∀ i, i < 37 → wr.cell? ⟨g2, i, none⟩ = some (.int .u8 (pS b j i : Int))) ∧ (∀ i, wr.frozen? ⟨g2, i, none⟩ = false) ∧ Below w.heap.size w wr)) (fun i _ => 8 - (intOf i).toNat)
  case atStart => exact ⟨0, by omega, rfl, HI.out⟩
  case round =>
    obtain ⟨j, hj, rfl, hI⟩ := hrel
    clear HI
    by_cases hlt : j < 8
    · have hlt' : (j : Int) < 8 := by omega
      have c5 := hI.out.2.1 (29 + j) (by omega)
      have f5 := hI.out.2.2.1 (29 + j)
      have i0 : (0 : Int) ≤ 29 + (j : Int) := by omega
      have i1 : (29 : Int) + (j : Int) < 37 := by omega
      have EU : Hid ((b : Int) / 2 ^ (8 * j) % 256 = ((b / 256 ^ j % 256 : Nat) : Int)) := by
        show _ = _
        have e : (2 : Int) ^ (8 * j) = ((256 ^ j : Nat) : Int) := by
          rw [Int.pow_mul, Int.natCast_pow]
          rfl
        rw [e, ← Int.natCast_ediv]
        rfl
      have HN : Hid (∀ u, g2 < (wr.setCell ⟨g2, 29 + j, none⟩ (.int .u8 u)).heap.size ∧ (u = ((b / 256 ^ j % 256 : Nat) : Int) → ∀ i, i < 37 → (wr.setCell ⟨g2, 29 + j, none⟩ (.int .u8 u)).cell? ⟨g2, i, none⟩ = some (.int .u8 (pS b (j + 1) i : Int))) ∧ (∀ i, (wr.setCell ⟨g2, 29 + j, none⟩ (.int .u8 u)).frozen? ⟨g2, i, none⟩ = false) ∧ Below w.heap.size w (wr.setCell ⟨g2, 29 + j, none⟩ (.int .u8 u))) := by
        intro u
        refine ⟨by simpa using hI.out.1, fun hu i hi => ?_, fun i => by simpa [World.frozen?_setCell] using hI.out.2.2.1 i, hI.out.2.2.2.setCell (p := ⟨g2, 29 + j, none⟩) HL.out.2 _⟩
        by_cases e : i = 29 + j
        · subst e
          rw [pS_at, ← hu]
          exact cell_set c5
        · rw [pS_succ b j i e]
          exact cell_far (hI.out.2.1 i hi) (by omega)
      clear hI
      go_wp2
      go_roundw
      case rel => exact ⟨j + 1, by omega, by go_num, (HN.out _).1, (HN.out _).2.1 EU.out, (HN.out _).2.2.1, (HN.out _).2.2.2⟩
      case measure => simp [intOf]; omega
    · have hj8 : j = 8 := by omega
      subst hj8
      have HBs : Hid (Bs wr (some ⟨g2, 0, none⟩) 37 (pS b 8)) := fun _ => ⟨g2, 0, rfl, hI.out.1, fun i hi => by rw [Nat.zero_add]; exact hI.out.2.1 i hi⟩
      have BW := Lib.hid hI.out.2.2.2
      clear hI
      go_wp2_with fail
      refine (decode_any (some ⟨g2, 0, none⟩) 37 k (pS b 8) _ HBs.out (pS_lt b 8) l1' HL.out.1).mono ?_
      rintro e w5 ⟨e', a', hD, b5, hcase⟩
      have HS := Lib.hid (dec_speed b HBB.out hD)
      have B5 := Lib.hid (BW.out.trans (b5.mono BW.out.size))
      clear hD b5 HBs BW l1' HL HBB
      rcases hcase with ⟨he, rfl⟩ | ⟨rfl, A1, c1, A2, c2, rfl, r1, r2, r3, r4, hK, hW⟩
      · have he0 : decide (e' = 0) = false := by simp [he]
        have he1 : ¬ e' = 0 := he
        rcases HS.out with ⟨h, -⟩ | ⟨rfl, rfl⟩ | ⟨rfl | rfl, rfl⟩
        · exact absurd h he
        all_goals
          clear HS he he0 he1
          go_wp2_with fail
          refine (awake_any _).mono ?_
          rintro e w6 ⟨rfl, b6⟩
          have B6 := Lib.hid ((B5.out.alloc B5.out.size _).trans (b6.mono (by have := B5.out.size; simp; omega)))
          clear b6
          go_wp2
          go_ret
          exact Ret.mk rfl B6.out
      · obtain ⟨-, s0, s1⟩ : _ ∧ _ ∧ _ := by
          rcases HS.out with h | ⟨h, -⟩ | ⟨h | h, -⟩
          · exact h
          · exact absurd h (by decide)
          · exact absurd h (by decide)
          · exact absurd h (by decide)
        rw [show pS b 8 0 = 1 from rfl, show pS b 8 1 = 0 from rfl] at *
        obtain ⟨g6, o6, rfl, hg6, hc6⟩ := hK (by decide)
        have z2 := hc6 0 (by decide) 2 (by decide)
        simp only [Nat.zero_mul, Nat.add_zero] at z2
        clear hK hW hc6 HS r1 r2 r3 r4
        generalize dK (pS b 8) 0 2 = sp at *
        have s2 : decide (0 ≤ sp) = true := by simp [s0]
        have s3 : decide (sp ≤ 65536) = true := by simp [s1]
        go_wp2_with fail
        refine (awake_any _).mono ?_
        rintro e w6 ⟨rfl, b6⟩
        have B6 := Lib.hid ((B5.out.alloc B5.out.size _).trans (b6.mono (by have := B5.out.size; simp; omega)))
        clear b6
        go_wp2
        go_ret
        exact Ret.mk rfl B6.out
end Go.Proofs.Ytpgifcgidelmaaa
