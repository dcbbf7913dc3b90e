/- Contracts: the reference's Held. -/
import Derived.Test.YtoibbnkpfplmbaaCw9
namespace Go.Proofs.Ytoibbnkpfplmbaa
open Go.RowKit Go.Sort Go.Lib
set_option linter.unusedVariables false
set_option linter.unusedSimpArgs false
attribute [local go_sem] Oper.semAt_some

theorem hd_ref {n k : Nat} {O : Nat → Bool} {P Wi : Nat → Int} {s : St} (h : Inv n O Wi P s) (hk : k < n) (hc : P k < 0 ∨ Wi k < 0 ∨ s.G k = true ∨ Wi k = P k) : hdZ n O Wi s.P k = [] := by
  unfold hdZ
  rw [if_neg]
  rintro ⟨h1, h2, h3⟩
  cases hg : s.G k with
  | true => exact h3 (h.gone k hk hg).1
  | false =>
    rw [h.stay k hk hg] at h1 h3
    rw [hg] at hc
    rcases hc with q | q | q | q
    · omega
    · omega
    · cases q
    · exact h3 q.symm
theorem hd_ref2 {n k : Nat} {O : Nat → Bool} {P Wi : Nat → Int} {s : St} (h : Inv n O Wi P s) (hk : k < n) (h1 : 0 ≤ P k) (h2 : 0 ≤ Wi k) (h3 : s.G k = false) (h4 : Wi k ≠ P k) : hdZ n O Wi s.P k = [if O (Wi k).toNat = true then onZ s.P n (Wi k) else -1] := by
  unfold hdZ
  rw [if_pos]
  rw [h.stay k hk h3]
  exact ⟨h1, h2, fun e => h4 e.symm⟩

set_option maxHeartbeats 2000000 in
theorem refHeld15_any (no oc n wc ic : Nat) (oA wA iA : Option Addr) (O : Nat → Bool) (P Wi : Nat → Int) (w : World) (hO : Bo w oA no O) (hP : Is w wA n P) (hA : wA = none → wc = 0) (hW : Is w iA n Wi) (hk : Okc no no n n P Wi) :
    Calls Try.prog 16 #[.slice oA no oc, .slice wA n wc, .slice iA n ic] w fun e w' => ∃ v, e = .returned v ∧ Rn w' w.heap.size v (hlZ n O Wi (finS n O Wi (s0S P)).P n) ∧ Below w.heap.size w w' := by
  have hfew := hk.few
  have hcl := hk.hi
  have INV := Lib.hid (fin_inv (inv_s0 (n := n) (O := O) (Wi := Wi) hk.apt))
  have HI := Lib.hid hP
  have HO := Lib.hid hO
  have HW := Lib.hid hW
  have HRW := Lib.hid hk.rw
  have HS := Lib.hid (refSettle15_any no oc n wc ic oA wA iA O P Wi w hO hP hA hW hk)
  clear hO hP hA hW hk
  go_enter Try.func16, Try.ntmps16
  go_wp2_with fail
  refine HS.out.mono ?_
  rintro e w1 ⟨A', K, gA, gc, rfl, hR, hk1, hk2, hk3, hk4⟩
  have R1 := Lib.hid hR
  clear hR HS
  obtain ⟨s, hs⟩ : ∃ s, s = finS n O Wi (s0S P) := ⟨_, rfl⟩
  rw [← hs] at R1 INV
  have HSS := Lib.hid hs
  clear hs
  go_wp2_with fail
  have HK := Lib.hid (And.intro hk1 (And.intro hk2 (And.intro hk3 hk4)))
  clear hk1 hk2 hk3 hk4
  have HB1 := Lib.hid R1.out.below
  go_loopw [9, 10] (fun s9 s10 wr => ∃ k : Nat, k ≤ n ∧ s10 = .int .i64 (k : Int) ∧ Hid (Rn wr w1.heap.size s9 (hlZ n O Wi s.P k)) ∧ Hid (Below w1.heap.size w1 wr)) (fun _ s10 _ => n - (intOf s10).toNat)
  case atStart => exact ⟨0, by omega, rfl, Rn.nil _ _, Below.refl _ _⟩
  case round =>
    obtain ⟨k, hk, rfl, hR, hB⟩ := hrel
    by_cases hkn : k < n
    · have hkI : (k : Int) < (n : Int) := by omega
      have hkB : decide ((k : Int) < (n : Int)) = true := decide_eq_true hkI
      have HBW : Hid (Below w.heap.size w wr) := HB1.out.trans (hB.out.mono HB1.out.size)
      obtain ⟨ag, ao, eaA, a0⟩ := HI.out.at HBW.out hkn
      obtain ⟨ig, io, eiA, q0⟩ := HW.out.at HBW.out hkn
      obtain ⟨gg, go, egA, g0⟩ := R1.out.mv.bo.at hB.out hkn
      subst eaA eiA egA
      have hlo2 := HRW.out k hkn
      have HSU := Lib.hid (hl_succ n O Wi s.P k)
      have HNO : (P k < 0 ∨ Wi k < 0 ∨ s.G k = true ∨ Wi k = P k) → Hid (hlZ n O Wi s.P (k + 1) = hlZ n O Wi s.P k) := fun h => by
        show _ = _
        rw [HSU.out, hd_ref INV.out hkn h, List.append_nil]
      by_cases c1 : P k < 0
      · have HSU := HNO (.inl c1)
        have d1 : decide (P k < 0) = true := decide_eq_true c1
        clear HNO
        generalize P k = z at *
        have k0 := cell_regrown a0
        have k1 := cell_regrown q0
        have k2 := cell_regrown g0
        go_wp2_with fail
        refine wp_region_quiet_below (by kernel_rfl) (by kernel_rfl) ?_
        repeat (go_big_quiet_step (fail))
        refine wpQuiet_nil ?_
        intro _ hw'
        obtain ⟨⟨dr, osr⟩, hw''⟩ := hw'
        subst hw''
        have B4 : Hid (Below w1.heap.size w1 (grow (redrawn wr dr) osr)) := hB.out.trans ((below_regrown wr dr osr).mono hB.out.size)
        have R4 := Lib.hid (hR.out.keep (below_regrown wr dr osr))
        clear k0 k1 k2 a0 q0 g0 hR hB
        generalize grow (redrawn wr dr) osr = w4 at *
        go_wp2_with fail
        go_roundw
        case rel => exact ⟨k + 1, by omega, by go_num, by rw [HSU.out]; exact R4.out, B4.out⟩
        case measure => simp [intOf]; omega
      have d1 : decide (P k < 0) = false := decide_eq_false c1
      by_cases c2 : Wi k < 0
      · have HSU := HNO (.inr (.inl c2))
        have d2 : decide (Wi k < 0) = true := decide_eq_true c2
        clear HNO
        generalize P k = z at *
        generalize Wi k = y at *
        have k0 := cell_regrown a0
        have k1 := cell_regrown q0
        have k2 := cell_regrown g0
        go_wp2_with fail
        refine wp_region_quiet_below (by kernel_rfl) (by kernel_rfl) ?_
        repeat (go_big_quiet_step (fail))
        refine wpQuiet_nil ?_
        intro _ hw'
        obtain ⟨⟨dr, osr⟩, hw''⟩ := hw'
        subst hw''
        have B4 : Hid (Below w1.heap.size w1 (grow (redrawn wr dr) osr)) := hB.out.trans ((below_regrown wr dr osr).mono hB.out.size)
        have R4 := Lib.hid (hR.out.keep (below_regrown wr dr osr))
        clear k0 k1 k2 a0 q0 g0 hR hB
        generalize grow (redrawn wr dr) osr = w4 at *
        go_wp2_with fail
        go_roundw
        case rel => exact ⟨k + 1, by omega, by go_num, by rw [HSU.out]; exact R4.out, B4.out⟩
        case measure => simp [intOf]; omega
      have d2 : decide (Wi k < 0) = false := decide_eq_false c2
      cases hg : s.G k with
      | true =>
        have HSU := HNO (.inr (.inr (.inl hg)))
        rw [hg] at g0
        clear HNO hg
        generalize P k = z at *
        generalize Wi k = y at *
        have k0 := cell_regrown a0
        have k1 := cell_regrown q0
        have k2 := cell_regrown g0
        go_wp2_with fail
        refine wp_region_quiet_below (by kernel_rfl) (by kernel_rfl) ?_
        repeat (go_big_quiet_step (fail))
        refine wpQuiet_nil ?_
        intro _ hw'
        obtain ⟨⟨dr, osr⟩, hw''⟩ := hw'
        subst hw''
        have B4 : Hid (Below w1.heap.size w1 (grow (redrawn wr dr) osr)) := hB.out.trans ((below_regrown wr dr osr).mono hB.out.size)
        have R4 := Lib.hid (hR.out.keep (below_regrown wr dr osr))
        clear k0 k1 k2 a0 q0 g0 hR hB
        generalize grow (redrawn wr dr) osr = w4 at *
        go_wp2_with fail
        go_roundw
        case rel => exact ⟨k + 1, by omega, by go_num, by rw [HSU.out]; exact R4.out, B4.out⟩
        case measure => simp [intOf]; omega
      | false =>
        by_cases c3 : Wi k = P k
        · have HSU := HNO (.inr (.inr (.inr c3)))
          rw [hg] at g0
          clear HNO hg
          rw [c3] at q0 d2
          clear c3 c2 hlo2
          generalize P k = z at *
          have k0 := cell_regrown a0
          have k1 := cell_regrown q0
          have k2 := cell_regrown g0
          go_wp2_with fail
          refine wp_region_quiet_below (by kernel_rfl) (by kernel_rfl) ?_
          repeat (go_big_quiet_step (fail))
          refine wpQuiet_nil ?_
          intro _ hw'
          obtain ⟨⟨dr, osr⟩, hw''⟩ := hw'
          subst hw''
          have B4 : Hid (Below w1.heap.size w1 (grow (redrawn wr dr) osr)) := hB.out.trans ((below_regrown wr dr osr).mono hB.out.size)
          have R4 := Lib.hid (hR.out.keep (below_regrown wr dr osr))
          clear k0 k1 k2 a0 q0 g0 hR hB
          generalize grow (redrawn wr dr) osr = w4 at *
          go_wp2_with fail
          go_roundw
          case rel => exact ⟨k + 1, by omega, by go_num, by rw [HSU.out]; exact R4.out, B4.out⟩
          case measure => simp [intOf]; omega
        have hd := hd_ref2 INV.out hkn (by omega) (by omega) hg c3
        rw [hd] at HSU
        rw [hg] at g0
        clear HNO hd hg
        have d3 : (Wi k == P k) = false := by simp [c3]
        obtain ⟨og, oo, eo, o0⟩ := HO.out.at HBW.out (show (Wi k).toNat < no by omega)
        subst eo
        have hyI : Wi k < (no : Int) := by omega
        have h0y : 0 ≤ Wi k := by omega
        have HQ0 := Lib.hid q0
        have HO0 := Lib.hid o0
        have HON := Lib.hid (fun (u : World) (hu : RowKit.Below w1.heap.size w1 u) => on15_any A' n K (Wi k) s.P u (R1.out.keep hu).wh.is (by omega))
        have HLN := Lib.hid (hlZ_len n O Wi s.P k)
        have k0 := cell_regrown a0
        have k1 := cell_regrown q0
        have k2 := cell_regrown g0
        go_wp2_with fail
        refine wp_region_quiet_below (by kernel_rfl) (by kernel_rfl) ?_
        repeat (go_big_quiet_step (fail))
        refine wpQuiet_nil ?_
        intro _ hw'
        obtain ⟨⟨dr, osr⟩, hw''⟩ := hw'
        subst hw''
        have B4 : Hid (Below w1.heap.size w1 (grow (redrawn wr dr) osr)) := hB.out.trans ((below_regrown wr dr osr).mono hB.out.size)
        have R4 := Lib.hid (hR.out.keep (below_regrown wr dr osr))
        have q4 := kc (below_regrown wr dr osr) q0
        have o4 := kc (below_regrown wr dr osr) o0
        clear k0 k1 k2 a0 q0 g0 hR hB o0 HQ0 HO0 HBW
        generalize grow (redrawn wr dr) osr = w4 at *
        cases ho : O (Wi k).toNat with
        | false =>
          rw [ho, if_neg (by simp)] at HSU
          rw [ho] at o4
          clear ho
          generalize P k = z at *
          generalize Wi k = y at *
          go_wp2_with (at_builtin; refine append_int rfl (.tmp 69) (.tmp 70) rfl w1.heap.size (hlZ n O Wi s.P k) (-1) u9 w4 rfl R4.out rfl (by have := HLN.out; omega) B4.out.size ?_; intro v' w5 hR5 hE5)
          go_roundw
          case rel =>
            refine ⟨k + 1, by omega, by go_num, by rw [HSU.out]; exact hR5, ?_⟩
            exact B4.out.grown hE5.1 B4.out.size (fun r er => (R4.out.lt r er).1)
          case measure => simp [intOf]; omega
        | true =>
          rw [ho, if_pos rfl] at HSU
          rw [ho] at o4
          clear ho
          have HON4 := Lib.hid (HON.out w4 B4.out)
          generalize onZ s.P n (Wi k) = x at *
          generalize P k = z at *
          generalize Wi k = y at *
          go_wp2_with fail
          refine HON4.out.mono ?_
          rintro e w5 ⟨rfl, b5⟩
          have B5 : Hid (Below w1.heap.size w1 w5) := B4.out.trans (b5.mono B4.out.size)
          have R5 := Lib.hid (R4.out.keep b5)
          clear b5 R4 B4 HON4
          go_wp2_with (at_builtin; refine append_int rfl (.tmp 60) (.tmp 67) rfl w1.heap.size (hlZ n O Wi s.P k) x u9 w5 rfl R5.out rfl (by have := HLN.out; omega) B5.out.size ?_; intro v' w6 hR6 hE6)
          go_roundw
          case rel =>
            refine ⟨k + 1, by omega, by go_num, by rw [HSU.out]; exact hR6, ?_⟩
            exact B5.out.grown hE6.1 B5.out.size (fun r er => (R5.out.lt r er).1)
          case measure => simp [intOf]; omega
    · obtain rfl : k = n := by omega
      have hkI : decide ((k : Int) < (k : Int)) = false := decide_eq_false (by omega)
      go_wp2_with fail
      go_ret
      have hR' := hR.out
      rw [HSS.out] at hR'
      exact ⟨u9, rfl, hR'.mono HB1.out.size, HB1.out.trans (hB.out.mono HB1.out.size)⟩
end Go.Proofs.Ytoibbnkpfplmbaa
