/- The reference's Decode: bytes of the right length. -/
import Derived.Test.YtpgifcgidelmaaaKr5a
import Derived.Test.YtpgifcgidelmaaaKr5b
namespace Go.Proofs.Ytpgifcgidelmaaa
open Go.RowKit
set_option linter.unusedVariables false
set_option linter.unusedSimpArgs false

/-- The end with an error. -/
theorem end_err {p : Nat → Nat} {N : Nat} {e a : Int} {w W : World} (h : Dec p N e a) (he : e ≠ 0) (hb : Below w.heap.size w W) : DecRet p N w (.returned (.tuple #[.agg #[.slice none 0 0, .slice none 0 0], .int .i64 e, .int .i64 a])) W :=
  ⟨e, a, h, hb, .inl ⟨he, rfl⟩⟩

set_option maxRecDepth 100000 in
set_option maxHeartbeats 8000000 in
theorem refDecode_even (A : Option Addr) (N c : Nat) (p : Nat → Nat) (w : World) (hB : Bs w A N p) (hp : ∀ i, p i < 256) (hc : N ≤ c) (hm : c ≤ maxLen) (h2 : 2 ≤ N) (hN : N = need p) :
    Calls Try.prog 16 #[.slice A N c] w (DecRet p N w) := by
  have h2' : ¬ (N : Int) < 2 := by omega
  have hN1 : 0 < N := by omega
  have hN2 : 1 < N := by omega
  have l0 := hp 0
  have l1 := hp 1
  obtain ⟨g, o, rfl, hg, hcell⟩ := hB (by omega)
  have HCELL := Lib.hid hcell
  have HG := Lib.hid hg
  have bb := below_box (w := w) (.cells (bkc (.slice none 0 0) (.slice none 0 0)) 26)
  have d0 := kc bb (hcell 0 (by omega))
  rw [Nat.add_zero] at d0
  have d1 := kc bb (hcell 1 (by omega))
  obtain ⟨r0, r1⟩ := res_cells w
  have HB : Hid (Below w.heap.size w (w.alloc (.cells (bkc (.slice none 0 0) (.slice none 0 0)) 26))) := below_box _
  have HR : Hid ((w.alloc (.cells (bkc (.slice none 0 0) (.slice none 0 0)) 26)).heap[w.heap.size]? = some (.cells (bkc (.slice none 0 0) (.slice none 0 0)) 26 (0, 0))) := alloc_blk _ _ _
  obtain ⟨D, hD⟩ : ∃ D, need p = D := ⟨_, rfl⟩
  have HN0 := Lib.hid hN
  have HC := Lib.hid hc
  have HM := Lib.hid hm
  have HP := Lib.hid hp
  have HB0 := Lib.hid hB
  have H2 := Lib.hid h2
  rw [hD] at hN
  unfold need at hD
  clear hcell bb hg
  obtain ⟨n, en⟩ : ∃ n, p 0 = n := ⟨_, rfl⟩
  obtain ⟨m, em⟩ : ∃ m, p 1 = m := ⟨_, rfl⟩
  rw [en] at d0 hD l0
  rw [em] at d1 hD l1
  have eD : (2 : Int) + 35 * (n : Int) + 14 * (m : Int) = (D : Int) := by omega
  have EN := Lib.hid en
  have EM := Lib.hid em
  clear en em hD hp hB hm hc
  have hN' : ¬ (N : Int) < (D : Int) := by omega
  have hN3 : ¬ (D : Int) < (N : Int) := by omega
  clear hN
  go_enter Try.func16, Try.ntmps16
  simp only [List.cons_append, List.nil_append, List.append_eq]
  go_upto_region 3 with fail
  have hs1 : (w.alloc (.cells (bkc (.slice none 0 0) (.slice none 0 0)) 26)).heap.size = w.heap.size + 1 := by simp
  generalize w.alloc (.cells (bkc (.slice none 0 0) (.slice none 0 0)) 26) = w1 at *
  go_quiet (fail)
  have HRn : Hid ((w1.drewN nq).heap[w.heap.size]? = some (.cells (bkc (.slice none 0 0) (.slice none 0 0)) 26 (0, 0))) := HR.out
  have hB2 : Hid (Below w.heap.size w (w1.drewN nq)) := ⟨HB.out.os, HB.out.tape, HB.out.output, HB.out.size, HB.out.block⟩
  have hs2 : (w1.drewN nq).heap.size = w.heap.size + 1 := hs1
  clear HR HB r0 r1 d0 d1 hs1
  generalize w1.drewN nq = w2 at *
  have X : Hid (Fr w (some ⟨g, o, none⟩) N p (w2.alloc (.cells (bkc (.slice none 0 0) (.slice none 0 0)) 26)) (.slice none 0 0) (.slice none 0 0) 0 0 (dK p) (dU p) (dF p)) :=
    ⟨HB0.out, hB2.out.trans ((below_box _).mono (by rw [hs2]; omega)), blkK HRn.out (below_box _), by rw [← hs2]; exact alloc_blk _ _ _, World.ownsRow_nil _ _ _ _, World.ownsRow_nil _ _ _ _⟩
  clear HRn hB2 HB0
  go_wp2_with (refine wpList_store_new (c' := (bkc (.slice none 0 0) (.slice none 0 0))) Try.sizeBook rfl rfl hs2 rfl rfl rfl rfl (bkc_one _ _ _ _ _ _) ?_)
  generalize w2.alloc (.cells (bkc (.slice none 0 0) (.slice none 0 0)) 26) = w3 at *
  clear hs2
  have DN : Hid (N = 2 + 35 * n + 14 * m) := by have := HN0.out; show _ = _; unfold need at this; rw [EN.out, EM.out] at this; exact this
  clear hN' hN3 eD hN1 hN2 h2' h2
  go_loopw [9] (fun i wr => ∃ (k : Nat) (v1 : Value), k ≤ n ∧ i = .int .i64 (k : Int) ∧ Hid (∀ j, j < k → kE p j = 0) ∧ Hid (Fr w (some ⟨g, o, none⟩) N p wr v1 (.slice none 0 0) k 0 (dK p) (dU p) (dF p))) (fun i _ => n - (intOf i).toNat)
  case atStart => exact ⟨0, _, by omega, rfl, fun j hj => absurd hj (Nat.not_lt_zero _), X.out⟩
  case round =>
    obtain ⟨k, v1, hk, rfl, hA, hX⟩ := hrel
    clear X
    by_cases hlt : k < n
    · have hlt' : (k : Int) < (n : Int) := by omega
      have LN : Hid (kq k + 35 ≤ N) := by have := DN.out; show _ ≤ _; unfold kq; omega
      obtain ⟨Q, eQ⟩ : ∃ Q, kq k = Q := ⟨_, rfl⟩
      have iQ : (2 : Int) + 35 * (k : Int) = (Q : Int) := by unfold kq at eQ; omega
      have hk256 : k < 256 := by omega
      rw [eQ] at LN
      have hm63 := HM.out
      unfold maxLen at hm63
      have hcN := HC.out
      have hln := LN.out
      obtain ⟨P17, e17⟩ : ∃ P17, Q + 17 = P17 := ⟨_, rfl⟩
      obtain ⟨P27, e27⟩ : ∃ P27, Q + 27 = P27 := ⟨_, rfl⟩
      have i17 : (Q : Int) + 17 = (P17 : Int) := by omega
      have i27 : (Q : Int) + 27 = (P27 : Int) := by omega
      obtain ⟨P1, e1⟩ : ∃ P1, Q + 1 = P1 := ⟨_, rfl⟩
      have i1 : (Q : Int) + 1 = (P1 : Int) := by omega
      have hsl : ∀ u : World, (Instr.slice 34 (.slice (some ⟨g, o, none⟩) N c) (some (.int .i64 (P17 : Int))) (some (.int .i64 (P27 : Int))) none).run Try.prog u = .ok (.slice (some ⟨g, o + P17, none⟩) 10 (c - P17)) u := by
        intro u
        have z1 : P27 - P17 = 10 := by omega
        have z2 : ¬ c - P17 = 0 := by omega
        have z3 : P27 ≤ c := by omega
        have z4 : P17 ≤ P27 := by omega
        have z5 : (P27 : Int) ≤ (c : Int) := by omega
        have z6 : (P17 : Int) ≤ (P27 : Int) := by omega
        clear hX hA iQ hk256 hln e17 e27 e1 i17 i27 i1 eQ
        go_simp
        simp_all
        try (intro hx; omega)
      obtain ⟨Z, eZ⟩ : ∃ Z, o + P17 = Z := ⟨_, rfl⟩
      rw [eZ] at hsl
      have C1 : Hid (∀ W, Below wr.heap.size wr W → Calls Try.prog 31 #[.slice (some ⟨g, o, none⟩) N c, .int .i64 (P1 : Int)] W (Ret (.agg (arr8 (t8 p P1 8))) W)) :=
        fun W hW => twos_any _ N c P1 p W (hX.out.bs.keep hW) HP.out (by omega) (by unfold maxLen; omega)
      have D0 : Hid (Below wr.heap.size wr wr.drew) := (Below.refl _ _).drew
      have D1 : Hid (∀ ob, Below wr.heap.size wr (wr.alloc ob).drew) := fun ob => ((Below.refl _ _).alloc (Nat.le_refl _) ob).drew
      have Z1 : Hid (∀ cs, (wr.alloc (.cells cs 63)).drew.heap[wr.heap.size]? = some (.cells cs 63 (0, 0))) := fun cs => alloc_blk wr cs _
      obtain ⟨T, eT⟩ : ∃ T, t8 p P1 8 = T := ⟨_, rfl⟩
      rw [eT] at C1
      have ET := Lib.hid eT
      have E1 := Lib.hid e1
      have wP1 : IntKind.i64.wrap (P1 : Int) = (P1 : Int) := by simp [IntKind.wrap, IntKind.bits, IntKind.signed]; omega
      have wP17 : IntKind.i64.wrap (P17 : Int) = (P17 : Int) := by simp [IntKind.wrap, IntKind.bits, IntKind.signed]; omega
      have wP27 : IntKind.i64.wrap (P27 : Int) = (P27 : Int) := by simp [IntKind.wrap, IntKind.bits, IntKind.signed]; omega
      clear eT e1
      go_upto_region 14 with fail
      go_cut [11, 12] from 55 to 154 (fun s11 s12 wx => ∃ tb : Nat, s11 = .pointer (some ⟨tb, 0, none⟩) ∧ s12 = .slice (some ⟨g, Z, none⟩) 10 (c - P17) ∧ Hid (wx.heap[tb]? = some (.cells (arr8 T) 63 (0, 0))) ∧ Hid (Fr w (some ⟨g, o, none⟩) N p wx v1 (.slice none 0 0) k 0 (dK p) (dU p) (dF p)))
      case first =>
        clear hm63 hcN hln iQ hk256 hk hlt hlt'
        go_region_with
          (first
            | (go_at_call 31; ((with_reducible refine (C1.out _ D0.out).mono ?_)); rintro e w4 ⟨rfl, b4⟩; have B4 := Lib.hid (D0.out.trans b4); clear b4)
            | (go_at_call 31; ((with_reducible refine (C1.out _ (D1.out _)).mono ?_)); rintro e w4 ⟨rfl, b4⟩; have B4 := Lib.hid ((D1.out _).trans (b4.mono (D1.out _).size)); have ZB := Lib.hid (blkK (Z1.out _) b4); clear b4; have q0 := blk_at ZB.out 0 rfl; have f0 : w4.frozen? ⟨wr.heap.size, 0, none⟩ = false := frozen_blk ZB.out 0; have q1 := blk_at ZB.out 1 rfl; have f1 : w4.frozen? ⟨wr.heap.size, 1, none⟩ = false := frozen_blk ZB.out 1; have q2 := blk_at ZB.out 2 rfl; have f2 : w4.frozen? ⟨wr.heap.size, 2, none⟩ = false := frozen_blk ZB.out 2; have q3 := blk_at ZB.out 3 rfl; have f3 : w4.frozen? ⟨wr.heap.size, 3, none⟩ = false := frozen_blk ZB.out 3; have q4 := blk_at ZB.out 4 rfl; have f4 : w4.frozen? ⟨wr.heap.size, 4, none⟩ = false := frozen_blk ZB.out 4; have q5 := blk_at ZB.out 5 rfl; have f5 : w4.frozen? ⟨wr.heap.size, 5, none⟩ = false := frozen_blk ZB.out 5; have q6 := blk_at ZB.out 6 rfl; have f6 : w4.frozen? ⟨wr.heap.size, 6, none⟩ = false := frozen_blk ZB.out 6; have q7 := blk_at ZB.out 7 rfl; have f7 : w4.frozen? ⟨wr.heap.size, 7, none⟩ = false := frozen_blk ZB.out 7; skip))
        all_goals go_wp2
        all_goals go_meet
        · exact ⟨_, rfl, rfl, alloc_blk _ _ _, hX.out.keep (B4.out.alloc B4.out.size _)⟩
        · exact ⟨_, rfl, rfl, set8_blk ZB.out T, hX.out.keep (set8_below B4.out (Nat.le_refl _) T)⟩
      case rest =>
        obtain ⟨tb, rfl, rfl, hT, hX2⟩ := hcut
        rename World => wx
        clear hX C1 D0 D1 Z1 hsl wP1
        have NB : Hid (num p P27 8 < 18446744073709551616) := num_lt p HP.out 8 P27
        have C2 := Lib.hid (refNum_any (some ⟨g, o, none⟩) N c P27 8 p wx hX2.out.bs HP.out (by decide) (by decide) (by omega) (by unfold maxLen; omega))
        obtain ⟨b, eb⟩ : ∃ b, num p P27 8 = b := ⟨_, rfl⟩
        rw [eb] at NB C2
        have KE : Hid (kE p k = ofE b) := by show _ = _; unfold kE; rw [eQ, e27, eb]
        go_wp2_with fail
        refine C2.out.mono ?_
        rintro e w5 ⟨rfl, b5⟩
        have X5 := Lib.hid (hX2.out.keep b5)
        have T5 := Lib.hid (blkK hT.out b5)
        clear b5 hX2 hT C2
        go_wp2_with fail
        refine (refOf_any b NB.out _).mono ?_
        rintro e w6 ⟨rfl, b6⟩
        have X6 := Lib.hid (X5.out.keep b6)
        have T6 := Lib.hid (blkK T5.out b6)
        clear b6 X5 T5 NB
        by_cases hE : ofE b = 0
        · have hE0 : (ofE b != 0) = false := by simp [hE]
          have HA2 : Hid (∀ j, j < k + 1 → kE p j = 0) := by
            intro j hj
            by_cases e : j = k
            · rw [e, KE.out]; exact hE
            · exact hA j (by omega)
          have c0 := X6.out.c0
          have hQN : Q < N := by omega
          have HCW : ∀ i, i < N → w6.cell? ⟨g, o + i, none⟩ = some (.int .u8 (p i : Int)) := fun i hi => kc X6.out.below (HCELL.out i hi)
          obtain ⟨y0, ey0⟩ : ∃ y, num p Q 1 = y := ⟨_, rfl⟩
          have a0 : w6.cell? ⟨g, o + Q, none⟩ = some (.int .u8 (y0 : Int)) := by
            have := HCW Q (by omega)
            rw [← num_one p Q, ey0] at this
            exact this
          have A0 : Hid (∀ W, Below w.heap.size w W → W.cell? ⟨g, o + Q, none⟩ = some (.int .u8 (y0 : Int))) := by
            intro W hW
            have := kc hW (HCELL.out Q (by omega))
            rw [← num_one p Q, ey0] at this
            exact this
          have u0 : IntKind.i64.wrap (y0 : Int) = (y0 : Int) := by
            have : y0 < 256 := by rw [← ey0, num_one]; exact HP.out _
            simp [IntKind.wrap, IntKind.bits, IntKind.signed]; omega
          obtain ⟨y17, ey17⟩ : ∃ y, num p (Q + 17) 1 = y := ⟨_, rfl⟩
          have a17 : w6.cell? ⟨g, Z, none⟩ = some (.int .u8 (y17 : Int)) := by
            have := HCW (Q + 17) (by omega)
            rw [← num_one p (Q + 17), ey17, show o + (Q + 17) = Z by omega] at this
            exact this
          have A17 : Hid (∀ W, Below w.heap.size w W → W.cell? ⟨g, Z, none⟩ = some (.int .u8 (y17 : Int))) := by
            intro W hW
            have := kc hW (HCELL.out (Q + 17) (by omega))
            rw [← num_one p (Q + 17), ey17, show o + (Q + 17) = Z by omega] at this
            exact this
          have u17 : IntKind.i64.wrap (y17 : Int) = (y17 : Int) := by
            have : y17 < 256 := by rw [← ey17, num_one]; exact HP.out _
            simp [IntKind.wrap, IntKind.bits, IntKind.signed]; omega
          obtain ⟨y18, ey18⟩ : ∃ y, num p (Q + 18) 1 = y := ⟨_, rfl⟩
          have a18 : w6.cell? ⟨g, Z + 1, none⟩ = some (.int .u8 (y18 : Int)) := by
            have := HCW (Q + 18) (by omega)
            rw [← num_one p (Q + 18), ey18, show o + (Q + 18) = Z + 1 by omega] at this
            exact this
          have A18 : Hid (∀ W, Below w.heap.size w W → W.cell? ⟨g, Z + 1, none⟩ = some (.int .u8 (y18 : Int))) := by
            intro W hW
            have := kc hW (HCELL.out (Q + 18) (by omega))
            rw [← num_one p (Q + 18), ey18, show o + (Q + 18) = Z + 1 by omega] at this
            exact this
          have u18 : IntKind.i64.wrap (y18 : Int) = (y18 : Int) := by
            have : y18 < 256 := by rw [← ey18, num_one]; exact HP.out _
            simp [IntKind.wrap, IntKind.bits, IntKind.signed]; omega
          obtain ⟨y19, ey19⟩ : ∃ y, num p (Q + 19) 1 = y := ⟨_, rfl⟩
          have a19 : w6.cell? ⟨g, Z + 2, none⟩ = some (.int .u8 (y19 : Int)) := by
            have := HCW (Q + 19) (by omega)
            rw [← num_one p (Q + 19), ey19, show o + (Q + 19) = Z + 2 by omega] at this
            exact this
          have A19 : Hid (∀ W, Below w.heap.size w W → W.cell? ⟨g, Z + 2, none⟩ = some (.int .u8 (y19 : Int))) := by
            intro W hW
            have := kc hW (HCELL.out (Q + 19) (by omega))
            rw [← num_one p (Q + 19), ey19, show o + (Q + 19) = Z + 2 by omega] at this
            exact this
          have u19 : IntKind.i64.wrap (y19 : Int) = (y19 : Int) := by
            have : y19 < 256 := by rw [← ey19, num_one]; exact HP.out _
            simp [IntKind.wrap, IntKind.bits, IntKind.signed]; omega
          obtain ⟨y20, ey20⟩ : ∃ y, num p (Q + 20) 1 = y := ⟨_, rfl⟩
          have a20 : w6.cell? ⟨g, Z + 3, none⟩ = some (.int .u8 (y20 : Int)) := by
            have := HCW (Q + 20) (by omega)
            rw [← num_one p (Q + 20), ey20, show o + (Q + 20) = Z + 3 by omega] at this
            exact this
          have A20 : Hid (∀ W, Below w.heap.size w W → W.cell? ⟨g, Z + 3, none⟩ = some (.int .u8 (y20 : Int))) := by
            intro W hW
            have := kc hW (HCELL.out (Q + 20) (by omega))
            rw [← num_one p (Q + 20), ey20, show o + (Q + 20) = Z + 3 by omega] at this
            exact this
          have u20 : IntKind.i64.wrap (y20 : Int) = (y20 : Int) := by
            have : y20 < 256 := by rw [← ey20, num_one]; exact HP.out _
            simp [IntKind.wrap, IntKind.bits, IntKind.signed]; omega
          obtain ⟨y21, ey21⟩ : ∃ y, num p (Q + 21) 1 = y := ⟨_, rfl⟩
          have a21 : w6.cell? ⟨g, Z + 4, none⟩ = some (.int .u8 (y21 : Int)) := by
            have := HCW (Q + 21) (by omega)
            rw [← num_one p (Q + 21), ey21, show o + (Q + 21) = Z + 4 by omega] at this
            exact this
          have A21 : Hid (∀ W, Below w.heap.size w W → W.cell? ⟨g, Z + 4, none⟩ = some (.int .u8 (y21 : Int))) := by
            intro W hW
            have := kc hW (HCELL.out (Q + 21) (by omega))
            rw [← num_one p (Q + 21), ey21, show o + (Q + 21) = Z + 4 by omega] at this
            exact this
          have u21 : IntKind.i64.wrap (y21 : Int) = (y21 : Int) := by
            have : y21 < 256 := by rw [← ey21, num_one]; exact HP.out _
            simp [IntKind.wrap, IntKind.bits, IntKind.signed]; omega
          obtain ⟨y22, ey22⟩ : ∃ y, num p (Q + 22) 1 = y := ⟨_, rfl⟩
          have a22 : w6.cell? ⟨g, Z + 5, none⟩ = some (.int .u8 (y22 : Int)) := by
            have := HCW (Q + 22) (by omega)
            rw [← num_one p (Q + 22), ey22, show o + (Q + 22) = Z + 5 by omega] at this
            exact this
          have A22 : Hid (∀ W, Below w.heap.size w W → W.cell? ⟨g, Z + 5, none⟩ = some (.int .u8 (y22 : Int))) := by
            intro W hW
            have := kc hW (HCELL.out (Q + 22) (by omega))
            rw [← num_one p (Q + 22), ey22, show o + (Q + 22) = Z + 5 by omega] at this
            exact this
          have u22 : IntKind.i64.wrap (y22 : Int) = (y22 : Int) := by
            have : y22 < 256 := by rw [← ey22, num_one]; exact HP.out _
            simp [IntKind.wrap, IntKind.bits, IntKind.signed]; omega
          obtain ⟨y23, ey23⟩ : ∃ y, num p (Q + 23) 1 = y := ⟨_, rfl⟩
          have a23 : w6.cell? ⟨g, Z + 6, none⟩ = some (.int .u8 (y23 : Int)) := by
            have := HCW (Q + 23) (by omega)
            rw [← num_one p (Q + 23), ey23, show o + (Q + 23) = Z + 6 by omega] at this
            exact this
          have A23 : Hid (∀ W, Below w.heap.size w W → W.cell? ⟨g, Z + 6, none⟩ = some (.int .u8 (y23 : Int))) := by
            intro W hW
            have := kc hW (HCELL.out (Q + 23) (by omega))
            rw [← num_one p (Q + 23), ey23, show o + (Q + 23) = Z + 6 by omega] at this
            exact this
          have u23 : IntKind.i64.wrap (y23 : Int) = (y23 : Int) := by
            have : y23 < 256 := by rw [← ey23, num_one]; exact HP.out _
            simp [IntKind.wrap, IntKind.bits, IntKind.signed]; omega
          obtain ⟨y24, ey24⟩ : ∃ y, num p (Q + 24) 1 = y := ⟨_, rfl⟩
          have a24 : w6.cell? ⟨g, Z + 7, none⟩ = some (.int .u8 (y24 : Int)) := by
            have := HCW (Q + 24) (by omega)
            rw [← num_one p (Q + 24), ey24, show o + (Q + 24) = Z + 7 by omega] at this
            exact this
          have A24 : Hid (∀ W, Below w.heap.size w W → W.cell? ⟨g, Z + 7, none⟩ = some (.int .u8 (y24 : Int))) := by
            intro W hW
            have := kc hW (HCELL.out (Q + 24) (by omega))
            rw [← num_one p (Q + 24), ey24, show o + (Q + 24) = Z + 7 by omega] at this
            exact this
          have u24 : IntKind.i64.wrap (y24 : Int) = (y24 : Int) := by
            have : y24 < 256 := by rw [← ey24, num_one]; exact HP.out _
            simp [IntKind.wrap, IntKind.bits, IntKind.signed]; omega
          obtain ⟨y25, ey25⟩ : ∃ y, num p (Q + 25) 1 = y := ⟨_, rfl⟩
          have a25 : w6.cell? ⟨g, Z + 8, none⟩ = some (.int .u8 (y25 : Int)) := by
            have := HCW (Q + 25) (by omega)
            rw [← num_one p (Q + 25), ey25, show o + (Q + 25) = Z + 8 by omega] at this
            exact this
          have A25 : Hid (∀ W, Below w.heap.size w W → W.cell? ⟨g, Z + 8, none⟩ = some (.int .u8 (y25 : Int))) := by
            intro W hW
            have := kc hW (HCELL.out (Q + 25) (by omega))
            rw [← num_one p (Q + 25), ey25, show o + (Q + 25) = Z + 8 by omega] at this
            exact this
          have u25 : IntKind.i64.wrap (y25 : Int) = (y25 : Int) := by
            have : y25 < 256 := by rw [← ey25, num_one]; exact HP.out _
            simp [IntKind.wrap, IntKind.bits, IntKind.signed]; omega
          obtain ⟨y26, ey26⟩ : ∃ y, num p (Q + 26) 1 = y := ⟨_, rfl⟩
          have a26 : w6.cell? ⟨g, Z + 9, none⟩ = some (.int .u8 (y26 : Int)) := by
            have := HCW (Q + 26) (by omega)
            rw [← num_one p (Q + 26), ey26, show o + (Q + 26) = Z + 9 by omega] at this
            exact this
          have A26 : Hid (∀ W, Below w.heap.size w W → W.cell? ⟨g, Z + 9, none⟩ = some (.int .u8 (y26 : Int))) := by
            intro W hW
            have := kc hW (HCELL.out (Q + 26) (by omega))
            rw [← num_one p (Q + 26), ey26, show o + (Q + 26) = Z + 9 by omega] at this
            exact this
          have u26 : IntKind.i64.wrap (y26 : Int) = (y26 : Int) := by
            have : y26 < 256 := by rw [← ey26, num_one]; exact HP.out _
            simp [IntKind.wrap, IntKind.bits, IntKind.signed]; omega
          have t0 := blk_at T6.out 0 (x := .int .i64 (T 0)) rfl
          have τ0 : ((num p (Q + 1) 2 : Nat) : Int) = T 0 := by
            rw [← ET.out]
            unfold t8
            rw [if_pos (by decide), show P1 + 2 * 0 = Q + 1 by have := E1.out; omega]
          have t1 := blk_at T6.out 1 (x := .int .i64 (T 1)) rfl
          have τ1 : ((num p (Q + 3) 2 : Nat) : Int) = T 1 := by
            rw [← ET.out]
            unfold t8
            rw [if_pos (by decide), show P1 + 2 * 1 = Q + 3 by have := E1.out; omega]
          have t2 := blk_at T6.out 2 (x := .int .i64 (T 2)) rfl
          have τ2 : ((num p (Q + 5) 2 : Nat) : Int) = T 2 := by
            rw [← ET.out]
            unfold t8
            rw [if_pos (by decide), show P1 + 2 * 2 = Q + 5 by have := E1.out; omega]
          have t3 := blk_at T6.out 3 (x := .int .i64 (T 3)) rfl
          have τ3 : ((num p (Q + 7) 2 : Nat) : Int) = T 3 := by
            rw [← ET.out]
            unfold t8
            rw [if_pos (by decide), show P1 + 2 * 3 = Q + 7 by have := E1.out; omega]
          have t4 := blk_at T6.out 4 (x := .int .i64 (T 4)) rfl
          have τ4 : ((num p (Q + 9) 2 : Nat) : Int) = T 4 := by
            rw [← ET.out]
            unfold t8
            rw [if_pos (by decide), show P1 + 2 * 4 = Q + 9 by have := E1.out; omega]
          have t5 := blk_at T6.out 5 (x := .int .i64 (T 5)) rfl
          have τ5 : ((num p (Q + 11) 2 : Nat) : Int) = T 5 := by
            rw [← ET.out]
            unfold t8
            rw [if_pos (by decide), show P1 + 2 * 5 = Q + 11 by have := E1.out; omega]
          have t6 := blk_at T6.out 6 (x := .int .i64 (T 6)) rfl
          have τ6 : ((num p (Q + 13) 2 : Nat) : Int) = T 6 := by
            rw [← ET.out]
            unfold t8
            rw [if_pos (by decide), show P1 + 2 * 6 = Q + 13 by have := E1.out; omega]
          have t7 := blk_at T6.out 7 (x := .int .i64 (T 7)) rfl
          have τ7 : ((num p (Q + 15) 2 : Nat) : Int) = T 7 := by
            rw [← ET.out]
            unfold t8
            rw [if_pos (by decide), show P1 + 2 * 7 = Q + 15 by have := E1.out; omega]
          have HKC : Hid (#[.int .i64 (y0 : Int), .int .i64 (T 0), .int .i64 (ofV b), .int .i64 (T 1), .int .i64 (y17 : Int), .int .i64 (y18 : Int), .int .i64 (y19 : Int), .int .i64 (y20 : Int), .int .i64 (T 2), .int .i64 (T 3), .int .i64 (T 4), .int .i64 (y21 : Int), .int .i64 (y22 : Int), .int .i64 (y23 : Int), .int .i64 (T 5), .int .i64 (T 6), .int .i64 (y24 : Int), .int .i64 (y25 : Int), .int .i64 (y26 : Int), .int .i64 (T 7)] = kcs (dK p k)) := by
            show _ = kcs (dk p (kq k))
            rw [dk_cells, eQ, ey0, ey17, ey18, ey19, ey20, ey21, ey22, ey23, ey24, ey25, ey26, τ0, τ1, τ2, τ3, τ4, τ5, τ6, τ7, e27, eb]
          clear ey0 ey17 ey18 ey19 ey20 ey21 ey22 ey23 ey24 ey25 ey26 τ0 τ1 τ2 τ3 τ4 τ5 τ6 τ7 HCW hA KE e17 e27 eZ eQ eb i17 i27 i1 iQ
          have bw := X6.out.below
          have A0' := Lib.hid (A0.out _ bw)
          have A17' := Lib.hid (A17.out _ bw)
          have A18' := Lib.hid (A18.out _ bw)
          have A19' := Lib.hid (A19.out _ bw)
          have A20' := Lib.hid (A20.out _ bw)
          have A21' := Lib.hid (A21.out _ bw)
          have A22' := Lib.hid (A22.out _ bw)
          have A23' := Lib.hid (A23.out _ bw)
          have A24' := Lib.hid (A24.out _ bw)
          have A25' := Lib.hid (A25.out _ bw)
          have A26' := Lib.hid (A26.out _ bw)
          clear a0 a17 a18 a19 a20 a21 a22 a23 a24 a25 a26 c0 t0 t1 t2 t3 t4 t5 t6 t7 bw A0 A17 A18 A19 A20 A21 A22 A23 A24 A25 A26
          go_upto_region 18 with fail
          refine region18 _ (fun _ _ _ _ _ h => h) w w6 g o N c p v1 k Q tb Z (c - P17) (ofV b) T y0 y17 y18 y19 y20 y21 y22 y23 y24 y25 y26 X6 T6 hQN hk256 A0' u0 A17' u17 A18' u18 A19' u19 A20' u20 A21' u21 A22' u22 A23' u23 A24' u24 A25' u25 A26' u26 HKC ?_
          intro z87 z88 z89 z90 z91 z92 z93 z94 z95 z96 z97 z98 z99 z100 z101 z102 z103 z104 z105 z106 z107 z108 z109 z110 z111 z112 z113 z114 z115 z116 z117 z118 z119 z120 z121 z122 z123 z124 z125 z126 z127 z128 z129 z130 z131 z132 z133 z134 z135 z136 z137 z138 z139 z140 z141 z142 z143 z144 z145 z146 z147 z148 z149 z150 z151 z152 z153 z154 v' w9 x9
          have X9 := Lib.hid x9
          clear x9 X6 T6 HKC A0' A17' A18' A19' A20' A21' A22' A23' A24' A25' A26'
          go_wp2
          go_roundw
          case rel => exact ⟨k + 1, _, by omega, by go_num, HA2.out, X9.out⟩
          case measure => simp [intOf]; omega
        · have hE' : (ofE b != 0) = true := by simp [hE]
          have HDec : Hid (Dec p N (ofE b) ((P27 : Nat) : Int)) := by
            have := Dec.kind (p := p) (N := N) k H2.out HN0.out (by rw [EN.out]; exact hlt) hA (by rw [KE.out]; exact hE)
            rw [KE.out, eQ, e27] at this
            exact this
          have HE := Lib.hid hE
          have HRn := Lib.hid X6.out.res
          clear hA KE hE T6
          generalize ofE b = ee at *
          go_wp2_with (refine wpList_store_blk (c' := (bkc (.slice none 0 0) (.slice none 0 0))) Try.sizeBook HRn.out rfl rfl rfl rfl rfl rfl (bkc_one _ _ _ _ _ _) ?_)
          have hfin : (w6.setRow w.heap.size (bkc (.slice none 0 0) (.slice none 0 0))).heap[w.heap.size]? = some (.cells (bkc (.slice none 0 0) (.slice none 0 0)) 26 (0, 0)) := setRow_heap w6 w.heap.size _ _ _ _ HRn.out
          have r0 : (w6.setRow w.heap.size (bkc (.slice none 0 0) (.slice none 0 0))).cell? ⟨w.heap.size, 0, none⟩ = some (.slice none 0 0) := by rw [cell_of_row _ _ 0 _ _ (0, 0) hfin]; rfl
          have r1 : (w6.setRow w.heap.size (bkc (.slice none 0 0) (.slice none 0 0))).cell? ⟨w.heap.size, 1, none⟩ = some (.slice none 0 0) := by rw [cell_of_row _ _ 1 _ _ (0, 0) hfin]; rfl
          have hB3 : Below w.heap.size w (w6.setRow w.heap.size (bkc (.slice none 0 0) (.slice none 0 0))) := below_grownBy (setRow_grown (grownBy_below X6.out.below none) (Nat.le_refl _))
          refine bodyPost_ret (v := .tuple #[.agg #[.slice none 0 0, .slice none 0 0], .int .i64 ee, .int .i64 (P27 : Int)]) (by simp [results, Try.results16, go_sem, r0, r1]) rfl ?_
          exact end_err HDec.out HE.out hB3
    · have hkn : k = n := by omega
      have HAK : Hid (∀ j, j < p 0 → kE p j = 0) := by rw [EN.out, ← hkn]; exact hA
      have hge : ¬ (k : Int) < (n : Int) := by omega
      rw [hkn] at hX
      clear hA hkn
      go_wp2
      rename World => W1
      go_loopw [15] (fun i wr => ∃ (k2 : Nat) (v2 : Value), k2 ≤ m ∧ i = .int .i64 (k2 : Int) ∧ Hid (∀ j, j < k2 → wB p j ≤ 1 ∧ wE p j = 0) ∧ Hid (Fr w (some ⟨g, o, none⟩) N p wr v1 v2 n k2 (dK p) (dU p) (dF p))) (fun i _ => m - (intOf i).toNat)
      case atStart => exact ⟨0, _, by omega, rfl, fun j hj => absurd hj (Nat.not_lt_zero _), hX.out⟩
      case round =>
        obtain ⟨k2, v2, hk2, rfl, hA, hX2⟩ := hrel
        clear hX
        have hX := hX2
        clear hX2
        by_cases hlt2 : k2 < m
        · have hlt2' : (k2 : Int) < (m : Int) := by omega
          have LN : Hid (wq p k2 + 14 ≤ N) := by have := DN.out; have := EN.out; show _ ≤ _; unfold wq; omega
          obtain ⟨Q, eQ⟩ : ∃ Q, wq p k2 = Q := ⟨_, rfl⟩
          have iQ : (2 : Int) + 35 * (n : Int) + 14 * (k2 : Int) = (Q : Int) := by have := EN.out; unfold wq at eQ; omega
          have hk256 : k2 < 256 := by omega
          rw [eQ] at LN
          have hm63 := HM.out
          unfold maxLen at hm63
          have hcN := HC.out
          have hln := LN.out
          obtain ⟨P5, e5⟩ : ∃ P, Q + 5 = P := ⟨_, rfl⟩
          obtain ⟨P6, e6⟩ : ∃ P, Q + 6 = P := ⟨_, rfl⟩
          have i5 : (Q : Int) + 5 = (P5 : Int) := by omega
          have i6 : (Q : Int) + 6 = (P6 : Int) := by omega
          have wP5 : IntKind.i64.wrap (P5 : Int) = (P5 : Int) := by simp [IntKind.wrap, IntKind.bits, IntKind.signed]; omega
          have wP6 : IntKind.i64.wrap (P6 : Int) = (P6 : Int) := by simp [IntKind.wrap, IntKind.bits, IntKind.signed]; omega
          have h5N : P5 < N := by omega
          obtain ⟨y5, ey5⟩ : ∃ y, num p (Q + 5) 1 = y := ⟨_, rfl⟩
          have A5 : Hid (∀ W, Below w.heap.size w W → W.cell? ⟨g, o + P5, none⟩ = some (.int .u8 (y5 : Int))) := by
            intro W hW
            have := kc hW (HCELL.out (Q + 5) (by omega))
            rw [← num_one p (Q + 5), ey5, show o + (Q + 5) = o + P5 by omega] at this
            exact this
          have WB : Hid (wB p k2 = y5) := by show _ = _; unfold wB; rw [eQ, ey5]
          have a5 := A5.out wr hX.out.below
          have WR : Hid (∀ q, q ≤ 14 → IntKind.i64.wrap ((Q + q : Nat) : Int) = ((Q + q : Nat) : Int)) := by intro q hq; simp [IntKind.wrap, IntKind.bits, IntKind.signed]; omega
          clear hm63 hcN
          by_cases hU : 1 < y5
          · have hU' : (1 : Int) < (y5 : Int) := by omega
            have HDec : Hid (Dec p N 3 ((P5 : Nat) : Int)) := by
              have := Dec.under (p := p) (N := N) k2 H2.out HN0.out HAK.out (by rw [EM.out]; exact hlt2) hA (by rw [WB.out]; exact hU)
              rw [eQ, e5] at this
              exact this
            clear hA hU hk2 WB e5 e6 eQ ey5 hln hk256 hlt2 WR
            have HRn := Lib.hid hX.out.res
            skip
            go_wp2_with (refine wpList_store_blk (c' := (bkc (.slice none 0 0) (.slice none 0 0))) Try.sizeBook HRn.out rfl rfl rfl rfl rfl rfl (bkc_one _ _ _ _ _ _) ?_)
            have hfin : (wr.setRow w.heap.size (bkc (.slice none 0 0) (.slice none 0 0))).heap[w.heap.size]? = some (.cells (bkc (.slice none 0 0) (.slice none 0 0)) 26 (0, 0)) := setRow_heap wr w.heap.size _ _ _ _ HRn.out
            have r0 : (wr.setRow w.heap.size (bkc (.slice none 0 0) (.slice none 0 0))).cell? ⟨w.heap.size, 0, none⟩ = some (.slice none 0 0) := by rw [cell_of_row _ _ 0 _ _ (0, 0) hfin]; rfl
            have r1 : (wr.setRow w.heap.size (bkc (.slice none 0 0) (.slice none 0 0))).cell? ⟨w.heap.size, 1, none⟩ = some (.slice none 0 0) := by rw [cell_of_row _ _ 1 _ _ (0, 0) hfin]; rfl
            have hB3 : Below w.heap.size w (wr.setRow w.heap.size (bkc (.slice none 0 0) (.slice none 0 0))) := below_grownBy (setRow_grown (grownBy_below hX.out.below none) (Nat.le_refl _))
            refine bodyPost_ret (v := .tuple #[.agg #[.slice none 0 0, .slice none 0 0], .int .i64 3, .int .i64 (P5 : Int)]) (by simp [results, Try.results16, go_sem, r0, r1]) rfl ?_
            exact end_err HDec.out (by decide) hB3
          · have hU' : ¬ (1 : Int) < (y5 : Int) := by omega
            have NB : Hid (num p P6 8 < 18446744073709551616) := num_lt p HP.out 8 P6
            have C2 := Lib.hid (refNum_any (some ⟨g, o, none⟩) N c P6 8 p wr hX.out.bs HP.out (by decide) (by decide) (by omega) (by have := HM.out; have := HC.out; omega))
            obtain ⟨b, eb⟩ : ∃ b, num p P6 8 = b := ⟨_, rfl⟩
            rw [eb] at NB C2
            have KE : Hid (wE p k2 = ofE b) := by show _ = _; unfold wE; rw [eQ, e6, eb]
            have HU := Lib.hid hU
            clear hU
            go_wp2_with fail
            refine C2.out.mono ?_
            rintro e w5 ⟨rfl, b5⟩
            have X5 := Lib.hid (hX.out.keep b5)
            clear b5 hX C2 a5
            go_wp2_with fail
            refine (refOf_any b NB.out _).mono ?_
            rintro e w6 ⟨rfl, b6⟩
            have X6 := Lib.hid (X5.out.keep b6)
            clear b6 X5 NB
            by_cases hE : ofE b = 0
            · have hE0 : (ofE b != 0) = false := by simp [hE]
              have HA2 : Hid (∀ j, j < k2 + 1 → wB p j ≤ 1 ∧ wE p j = 0) := by
                intro j hj
                by_cases e : j = k2
                · rw [e, KE.out, WB.out]; exact ⟨by have := HU.out; omega, hE⟩
                · exact hA j (by omega)
              obtain ⟨P2, e2⟩ : ∃ P, Q + 2 = P := ⟨_, rfl⟩
              have i2 : (Q : Int) + 2 = (P2 : Int) := by omega
              have wP2 : IntKind.i64.wrap (P2 : Int) = (P2 : Int) := by have := WR.out 2 (by decide); rw [e2] at this; exact this
              have h2N : P2 < N := by omega
              obtain ⟨y2, ey2⟩ : ∃ y, num p (Q + 2) 1 = y := ⟨_, rfl⟩
              have A2 : Hid (∀ W, Below w.heap.size w W → W.cell? ⟨g, o + P2, none⟩ = some (.int .u8 (y2 : Int))) := by
                intro W hW
                have := kc hW (HCELL.out (Q + 2) (by omega))
                rw [← num_one p (Q + 2), ey2, show o + (Q + 2) = o + P2 by omega] at this
                exact this
              have u2 : IntKind.i64.wrap (y2 : Int) = (y2 : Int) := by
                have : y2 < 256 := by rw [← ey2, num_one]; exact HP.out _
                simp [IntKind.wrap, IntKind.bits, IntKind.signed]; omega
              obtain ⟨P3, e3⟩ : ∃ P, Q + 3 = P := ⟨_, rfl⟩
              have i3 : (Q : Int) + 3 = (P3 : Int) := by omega
              have wP3 : IntKind.i64.wrap (P3 : Int) = (P3 : Int) := by have := WR.out 3 (by decide); rw [e3] at this; exact this
              have h3N : P3 < N := by omega
              obtain ⟨y3, ey3⟩ : ∃ y, num p (Q + 3) 1 = y := ⟨_, rfl⟩
              have A3 : Hid (∀ W, Below w.heap.size w W → W.cell? ⟨g, o + P3, none⟩ = some (.int .u8 (y3 : Int))) := by
                intro W hW
                have := kc hW (HCELL.out (Q + 3) (by omega))
                rw [← num_one p (Q + 3), ey3, show o + (Q + 3) = o + P3 by omega] at this
                exact this
              have u3 : IntKind.i64.wrap (y3 : Int) = (y3 : Int) := by
                have : y3 < 256 := by rw [← ey3, num_one]; exact HP.out _
                simp [IntKind.wrap, IntKind.bits, IntKind.signed]; omega
              obtain ⟨P4, e4⟩ : ∃ P, Q + 4 = P := ⟨_, rfl⟩
              have i4 : (Q : Int) + 4 = (P4 : Int) := by omega
              have wP4 : IntKind.i64.wrap (P4 : Int) = (P4 : Int) := by have := WR.out 4 (by decide); rw [e4] at this; exact this
              have h4N : P4 < N := by omega
              obtain ⟨y4, ey4⟩ : ∃ y, num p (Q + 4) 1 = y := ⟨_, rfl⟩
              have A4 : Hid (∀ W, Below w.heap.size w W → W.cell? ⟨g, o + P4, none⟩ = some (.int .u8 (y4 : Int))) := by
                intro W hW
                have := kc hW (HCELL.out (Q + 4) (by omega))
                rw [← num_one p (Q + 4), ey4, show o + (Q + 4) = o + P4 by omega] at this
                exact this
              have u4 : IntKind.i64.wrap (y4 : Int) = (y4 : Int) := by
                have : y4 < 256 := by rw [← ey4, num_one]; exact HP.out _
                simp [IntKind.wrap, IntKind.bits, IntKind.signed]; omega
              obtain ⟨z, ez⟩ : ∃ z, num p Q 2 = z := ⟨_, rfl⟩
              have hz : z < 65536 := by have := num_lt p HP.out 2 Q; omega
              have uz : IntKind.i64.wrap (z : Int) = (z : Int) := by simp [IntKind.wrap, IntKind.bits, IntKind.signed]; omega
              have HKC : Hid (#[.int .i64 (y2 : Int), .int .i64 (z : Int), .int .i64 (ofV b), .int .i64 (y3 : Int), .int .i64 (y4 : Int), .bool (y5 == 1)] = wcs (dU p k2) (dF p k2)) := by
                show _ = wcs (dw p (wq p k2)) (du p (wq p k2))
                rw [dw_cells, eQ, ez, ey2, ey3, ey4, ey5, e6, eb]
              have AR : Hid (∀ W, Below w.heap.size w W → W.cell? ⟨g, o + P2, none⟩ = some (.int .u8 (y2 : Int)) ∧ W.cell? ⟨g, o + P3, none⟩ = some (.int .u8 (y3 : Int)) ∧ W.cell? ⟨g, o + P4, none⟩ = some (.int .u8 (y4 : Int)) ∧ W.cell? ⟨g, o + P5, none⟩ = some (.int .u8 (y5 : Int))) := fun W hW => ⟨A2.out W hW, A3.out W hW, A4.out W hW, A5.out W hW⟩

              have HB5 : Hid (((y5 : Int) == 1) = (y5 == 1)) := by show _ = _; rw [Bool.eq_iff_iff]; simp only [beq_iff_eq]; omega
              have C3 : Hid (Calls Try.prog 33 #[.slice (some ⟨g, o, none⟩) N c, .int .i64 (Q : Int), .int .i64 (2 : Int)] w6.drew (Ret (.int .u64 (z : Int)) w6.drew)) := by
                have := refNum_any (some ⟨g, o, none⟩) N c Q 2 p w6.drew (X6.out.keep (Below.refl _ _).drew).bs HP.out (by decide) (by decide) (by omega) (by have := HM.out; have := HC.out; omega)
                rw [ez] at this
                exact this
              clear ey2 ey3 ey4 ey5 ez e2 e3 e4 e5 e6 eQ eb hA KE HU WB WR i6 iQ hln A2 A3 A4 A5 hz
              go_upto_region 28 with fail
              refine region28 _ (fun _ _ _ _ _ h => h) w w6 g o N c p v1 v2 n k2 Q z P2 P3 P4 P5 y2 y3 y4 y5 (ofV b) X6 (by omega) h2N h3N h4N h5N AR C3 HB5 i2 wP2 i3 wP3 i4 wP4 i5 wP5 u2 u3 u4 uz HKC ?_
              intro z189 z190 z191 z192 z193 z194 z195 z196 z197 z198 z199 z200 z201 z202 z203 z204 z205 z206 z207 z208 z209 z210 z211 z212 z213 z214 z215 z216 z217 z218 z219 z220 z221 z222 z223 v' w9 x9
              have X9 := Lib.hid x9
              clear x9 X6 AR C3 HB5 HKC
              go_wp2
              go_roundw
              case rel => exact ⟨k2 + 1, _, by omega, by go_num, HA2.out, X9.out⟩
              case measure => simp [intOf]; omega
            · have hE' : (ofE b != 0) = true := by simp [hE]
              have HDec : Hid (Dec p N (ofE b) ((P6 : Nat) : Int)) := by
                have := Dec.speed (p := p) (N := N) k2 H2.out HN0.out HAK.out (by rw [EM.out]; exact hlt2) hA (by rw [WB.out]; have := HU.out; omega) (by rw [KE.out]; exact hE)
                rw [KE.out, eQ, e6] at this
                exact this
              have HE := Lib.hid hE
              clear hA KE hE hk2 WB e5 e6 eQ ey5 hln hk256 hlt2 WR
              have HRn := Lib.hid X6.out.res
              generalize ofE b = ee at *
              go_wp2_with (refine wpList_store_blk (c' := (bkc (.slice none 0 0) (.slice none 0 0))) Try.sizeBook HRn.out rfl rfl rfl rfl rfl rfl (bkc_one _ _ _ _ _ _) ?_)
              have hfin : (w6.setRow w.heap.size (bkc (.slice none 0 0) (.slice none 0 0))).heap[w.heap.size]? = some (.cells (bkc (.slice none 0 0) (.slice none 0 0)) 26 (0, 0)) := setRow_heap w6 w.heap.size _ _ _ _ HRn.out
              have r0 : (w6.setRow w.heap.size (bkc (.slice none 0 0) (.slice none 0 0))).cell? ⟨w.heap.size, 0, none⟩ = some (.slice none 0 0) := by rw [cell_of_row _ _ 0 _ _ (0, 0) hfin]; rfl
              have r1 : (w6.setRow w.heap.size (bkc (.slice none 0 0) (.slice none 0 0))).cell? ⟨w.heap.size, 1, none⟩ = some (.slice none 0 0) := by rw [cell_of_row _ _ 1 _ _ (0, 0) hfin]; rfl
              have hB3 : Below w.heap.size w (w6.setRow w.heap.size (bkc (.slice none 0 0) (.slice none 0 0))) := below_grownBy (setRow_grown (grownBy_below X6.out.below none) (Nat.le_refl _))
              refine bodyPost_ret (v := .tuple #[.agg #[.slice none 0 0, .slice none 0 0], .int .i64 ee, .int .i64 (P6 : Int)]) (by simp [results, Try.results16, go_sem, r0, r1]) rfl ?_
              exact end_err HDec.out HE.out hB3
        · have hkm : k2 = m := by omega
          have HAW : Hid (∀ j, j < p 1 → wB p j ≤ 1 ∧ wE p j = 0) := by rw [EM.out, ← hkm]; exact hA
          have hge2 : ¬ (k2 : Int) < (m : Int) := by omega
          rw [hkm] at hX
          clear hA hkm
          obtain ⟨A1, c1, rfl, la, la', hK⟩ := hX.out.rk.kn
          obtain ⟨A2, c2, rfl, lb, lb', hW⟩ := hX.out.rw.wn
          obtain ⟨e, a, hchk⟩ := chk_total n m (dK p) (dU p)
          have HDc : Hid (Dec p N e a) := .check e a H2.out HN0.out HAK.out HAW.out (by rw [EN.out, EM.out]; exact hchk)
          have CK := Lib.hid (refCheck_any n m c1 c2 A1 A2 (dK p) (dU p) (dF p) e a wr hchk (Nat.le_trans la la') (Nat.le_trans lb lb') hK hW)
          have LL : Hid (n ≤ c1 ∧ c1 ≤ maxLen ∧ m ≤ c2 ∧ c2 ≤ maxLen) := ⟨la, la', lb, lb'⟩
          have HV := Lib.hid hX.out.var
          clear hchk la la' lb lb' hK hW
          go_wp2_with (refine wpList_load_at (loadVar_book HV.out) rfl rfl rfl ?_)
          refine CK.out.mono ?_
          rintro en w6 ⟨rfl, b6⟩
          have X6 := Lib.hid (hX.out.keep b6)
          have HV6 := Lib.hid X6.out.var
          have HR6 := Lib.hid X6.out.res
          clear b6 hX CK HV
          by_cases he : e = 0
          · subst he
            obtain rfl := HDc.out.zero
            go_wp2_with (first | (refine wpList_load_at (loadVar_book HV6.out) rfl rfl rfl ?_) | (refine wpList_store_blk (c' := bkc (.slice A1 n c1) (.slice A2 m c2)) Try.sizeBook HR6.out rfl rfl rfl rfl rfl rfl (bkc_one _ _ _ _ _ _) ?_))
            have hfin : (w6.setRow w.heap.size (bkc (.slice A1 n c1) (.slice A2 m c2))).heap[w.heap.size]? = some (.cells (bkc (.slice A1 n c1) (.slice A2 m c2)) 26 (0, 0)) := setRow_heap w6 w.heap.size _ _ _ _ HR6.out
            have hgz : w6.grownBy (w6.setRow w.heap.size (bkc (.slice A1 n c1) (.slice A2 m c2))) (some w.heap.size) := ⟨rfl, rfl, rfl, by simp [World.setRow], fun k _ hne => setRow_other w6 w.heap.size k _ (fun e => hne (by rw [e]))⟩
            have rk9 : Rk _ w.heap.size _ n (dK p) := World.ownsRow.kept X6.out.rk hgz (by right; exact fun e => blk_not_row X6.out.res (by decide) X6.out.rk e.symm)
            have rw9 : Rww _ w.heap.size _ m (dU p) (dF p) := World.ownsRow.kept X6.out.rw hgz (by right; exact fun e => blk_not_row X6.out.res (by decide) X6.out.rw e.symm)
            obtain ⟨A1', c1', e1, -, -, hK⟩ := rk9.kn
            injection e1 with e1 _ e3
            subst e1 e3
            obtain ⟨A2', c2', e2, -, -, hW⟩ := rw9.wn
            injection e2 with e2 _ e3
            subst e2 e3
            have r0 : (w6.setRow w.heap.size (bkc (.slice A1 n c1) (.slice A2 m c2))).cell? ⟨w.heap.size, 0, none⟩ = some (.slice A1 n c1) := by rw [cell_of_row _ _ 0 _ _ (0, 0) hfin]; rfl
            have r1 : (w6.setRow w.heap.size (bkc (.slice A1 n c1) (.slice A2 m c2))).cell? ⟨w.heap.size, 1, none⟩ = some (.slice A2 m c2) := by rw [cell_of_row _ _ 1 _ _ (0, 0) hfin]; rfl
            have hB3 : Below w.heap.size w (w6.setRow w.heap.size (bkc (.slice A1 n c1) (.slice A2 m c2))) := below_grownBy (setRow_grown (grownBy_below X6.out.below none) (Nat.le_refl _))
            refine bodyPost_ret (v := .tuple #[.agg (bkc (.slice A1 n c1) (.slice A2 m c2)), .int .i64 0, .int .i64 0]) (by simp [results, Try.results16, go_sem, r0, r1]) rfl ?_
            refine ⟨0, 0, HDc.out, hB3, .inr ⟨rfl, A1, c1, A2, c2, ?_⟩⟩
            rw [EN.out, EM.out]
            exact ⟨rfl, LL.out.1, LL.out.2.1, LL.out.2.2.1, LL.out.2.2.2, hK, hW⟩
          · have he' : (e != 0) = true := by simp [he]
            have HE := Lib.hid he
            clear he
            go_wp2_with (refine wpList_store_blk (c' := (bkc (.slice none 0 0) (.slice none 0 0))) Try.sizeBook HR6.out rfl rfl rfl rfl rfl rfl (bkc_one _ _ _ _ _ _) ?_)
            have hfin : (w6.setRow w.heap.size (bkc (.slice none 0 0) (.slice none 0 0))).heap[w.heap.size]? = some (.cells (bkc (.slice none 0 0) (.slice none 0 0)) 26 (0, 0)) := setRow_heap w6 w.heap.size _ _ _ _ HR6.out
            have r0 : (w6.setRow w.heap.size (bkc (.slice none 0 0) (.slice none 0 0))).cell? ⟨w.heap.size, 0, none⟩ = some (.slice none 0 0) := by rw [cell_of_row _ _ 0 _ _ (0, 0) hfin]; rfl
            have r1 : (w6.setRow w.heap.size (bkc (.slice none 0 0) (.slice none 0 0))).cell? ⟨w.heap.size, 1, none⟩ = some (.slice none 0 0) := by rw [cell_of_row _ _ 1 _ _ (0, 0) hfin]; rfl
            have hB3 : Below w.heap.size w (w6.setRow w.heap.size (bkc (.slice none 0 0) (.slice none 0 0))) := below_grownBy (setRow_grown (grownBy_below X6.out.below none) (Nat.le_refl _))
            refine bodyPost_ret (v := .tuple #[.agg #[.slice none 0 0, .slice none 0 0], .int .i64 e, .int .i64 a]) (by simp [results, Try.results16, go_sem, r0, r1]) rfl ?_
            exact end_err HDc.out HE.out hB3
end Go.Proofs.Ytpgifcgidelmaaa
