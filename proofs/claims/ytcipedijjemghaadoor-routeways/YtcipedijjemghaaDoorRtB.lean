/- Contracts: the reference's Next. -/
import Derived.Test.YtcipedijjemghaaDoorRt8
import Derived.Test.YtcipedijjemghaaDoorRtA
namespace Go.Proofs.YtcipedijjemghaaDoor
open Go.RowKit Go.Sort Go.Shelf
set_option linter.unusedVariables false
set_option linter.unusedSimpArgs false
attribute [local go_sem] Oper.semAt_some

set_option maxRecDepth 100000 in
set_option maxHeartbeats 8000000 in
theorem next13_any (W H : Int) (O : Nat → Bool) (n ca rg b k : Nat) (A : Option Addr) (w : World) (hL : Lnd W H n) (hO : Bo w A n O) (hI : Ir w rg n (fun k => cst W H O b k)) (hv : ∀ k : Nat, k < n → -1 ≤ cst W H O b k ∧ cst W H O b k ≤ 12285) (hk : k < n) (hp : 0 < cst W H O b k) :
    Calls Tryd.prog 17 #[.agg #[.int .i64 W, .int .i64 H, .slice A n ca], .slice (some ⟨rg, 0, none⟩) n n, .int .i64 (k : Int)] w (fun e w' => ∃ m, e = .returned (.int .i64 m) ∧ IsNx W H O (cst W H O b) k m ∧ RowKit.Below w.heap.size w w') := by
  have GC := Lib.hid (fun s u (hu : RowKit.Below w.heap.size w u) hs => goes13_any W H O (k : Int) s A n ca u w hL hO hu hs (by omega) (by have := hL.sz; omega))
  have HSZ := Lib.hid hL.sz
  have HI := Lib.hid hI
  have HV := Lib.hid hv
  have HNX := Lib.hid (nx_ex hp)
  have K0 := Lib.hid (Kx.new w 24 #[.int .i64 W, .int .i64 H, .slice A n ca])
  have hn4 := hL.bd
  have hkI : (k : Int) < (n : Int) := by omega
  clear hL hO hI hv hp
  go_enter Tryd.func17, Tryd.ntmps17
  go_wp2
  generalize w.alloc (.cells #[.int .i64 W, .int .i64 H, .slice A n ca] 24) = w1 at *
  go_loopw [7] (fun s7 wr => ∃ s : Nat, s7 = .int .i64 (s : Int) ∧ s ≤ 8 ∧ Hid (∀ q, q < s → ¬ wrk W H O (cst W H O b) k q) ∧ Hid (RowKit.Below w1.heap.size w1 wr)) (fun s7 _ => 8 - (intOf s7).toNat)
  case atStart => exact ⟨0, rfl, by omega, fun q hq => absurd hq (by omega), Below.refl _ _⟩
  case round =>
    obtain ⟨s, rfl, hs, hno, hB⟩ := hrel
    by_cases hs8 : s < 8
    · have hsI : decide ((s : Int) < 8) = true := decide_eq_true (by omega)
      obtain ⟨p1, p2⟩ := prc_bd s
      have KR := Lib.hid (K0.out.keep hB.out)
      have C := Lib.hid (GC.out s wr KR.out.below hs8)
      have c0 := KR.out.cell 0 rfl
      have c1 := KR.out.cell 1 rfl
      have c2 := KR.out.cell 2 rfl
      go_wp2_with fail
      refine C.out.mono ?_
      rintro e w3 ⟨rfl, b3⟩
      have B3 := Lib.hid (hB.out.trans (b3.mono hB.out.size))
      have KW := Lib.hid (KR.out.keep b3)
      clear b3 C c0 c1 c2 KR hB
      have c2 := KW.out.cell 2 rfl
      cases hd : decide (0 ≤ goL W H O (k : Int) s) with
      | false =>
        have hn' : ¬ 0 ≤ goL W H O (k : Int) s := of_decide_eq_false hd
        have hz := go_neg hn'
        rw [hz]
        have HNO : Hid (∀ q, q < s + 1 → ¬ wrk W H O (cst W H O b) k q) := fun q hq' => by
          by_cases e : q = s
          · subst e; exact fun h => hn' h.1
          · exact hno.out q (by omega)
        clear hd hn' hz
        go_wp2
        have k0 := cell_regrown c2
        refine wp_region_quiet_below (by kernel_rfl) (by kernel_rfl) ?_
        repeat (go_big_quiet_step (fail))
        refine wpQuiet_nil ?_
        intro _ hw'
        obtain ⟨⟨dq, osq⟩, hw''⟩ := hw'
        subst hw''
        have hb4 := below_regrown w3 dq osq
        have B4 := Lib.hid (B3.out.trans (hb4.mono B3.out.size))
        clear k0 hb4 B3 c2
        generalize Go.Sort.grow (redrawn w3 dq) osq = w4 at *
        go_wp2
        go_roundw
        case rel => exact ⟨s + 1, by go_num, by omega, HNO.out, B4.out⟩
        case measure => simp [intOf]; omega
      | true =>
        have hg0 : 0 ≤ goL W H O (k : Int) s := of_decide_eq_true hd
        obtain ⟨m, hm⟩ : ∃ m : Nat, goL W H O (k : Int) s = (m : Int) := ⟨(goL W H O (k : Int) s).toNat, by omega⟩
        have hmk : m < n := by
          have := (go_is hg0).2.2.1
          have := HSZ.out
          omega
        have hmI : (m : Int) < (n : Int) := by omega
        have hvm := HV.out m hmk
        have hvk := HV.out k hk
        have e0 := (HI.out.keep KW.out.below).cell hmk
        have e1 := (HI.out.keep KW.out.below).cell hk
        rw [hm]
        have HM := Lib.hid hm
        clear hd hg0 hm
        by_cases hRm : cst W H O (b : Int) (m : Int) = -1
        · rw [hRm] at e0
          have HNO : Hid (∀ q, q < s + 1 → ¬ wrk W H O (cst W H O b) k q) := fun q hq' => by
            by_cases e : q = s
            · subst e; exact fun h => by have := h.2.1; rw [HM.out, hRm] at this; omega
            · exact hno.out q (by omega)
          clear hRm hvm hvk
          go_wp2
          have k0 := cell_regrown e0
          have k1 := cell_regrown e1
          refine wp_region_quiet_below (by kernel_rfl) (by kernel_rfl) ?_
          repeat (go_big_quiet_step (fail))
          refine wpQuiet_nil ?_
          intro _ hw'
          obtain ⟨⟨dq, osq⟩, hw''⟩ := hw'
          subst hw''
          have hb4 := below_regrown w3 dq osq
          have B4 := Lib.hid (B3.out.trans (hb4.mono B3.out.size))
          clear k0 k1 hb4 B3 e0 e1
          generalize Go.Sort.grow (redrawn w3 dq) osq = w4 at *
          go_wp2
          go_roundw
          case rel => exact ⟨s + 1, by go_num, by omega, HNO.out, B4.out⟩
          case measure => simp [intOf]; omega
        · have hR0 : decide (0 ≤ cst W H O (b : Int) (m : Int)) = true := decide_eq_true (by omega)
          have hm1 : 0 ≤ cst W H O (b : Int) (m : Int) := by omega
          obtain ⟨hm0, hm2⟩ := hvm
          have HPC := Lib.hid (re13 (V := w3) (fun u => price13_any s u hs8))
          by_cases hq : cst W H O (b : Int) (m : Int) + prc s = cst W H O (b : Int) (k : Int)
          · have hqd : (cst W H O (b : Int) (m : Int) + prc s == cst W H O (b : Int) (k : Int)) = true := by simp [hq]
            have HIS : Hid (IsNx W H O (cst W H O b) k (m : Int)) := ⟨s, hs8, ⟨by rw [HM.out]; omega, by rw [HM.out]; exact hm1, by rw [HM.out]; exact hq⟩, hno.out, HM.out⟩
            clear hRm hvk hq
            go_wp2
            have k0 := cell_regrown e0
            have k1 := cell_regrown e1
            refine wp_region_quiet_below (by kernel_rfl) (by kernel_rfl) ?_
            repeat (go_big_quiet_step (with_reducible exact HPC.out _ _))
            refine wpQuiet_nil ?_
            intro _ hw'
            obtain ⟨⟨dq, osq⟩, hw''⟩ := hw'
            subst hw''
            have hb4 := below_regrown w3 dq osq
            have B4 := Lib.hid (B3.out.trans (hb4.mono B3.out.size))
            clear k0 k1 hb4 B3 e0 e1
            generalize Go.Sort.grow (redrawn w3 dq) osq = w4 at *
            clear HPC
            go_wp2
            go_ret
            exact ⟨(m : Int), rfl, HIS.out, K0.out.below.trans (B4.out.mono K0.out.below.size)⟩
          · have hqd : (cst W H O (b : Int) (m : Int) + prc s == cst W H O (b : Int) (k : Int)) = false := by simp [hq]
            have HNO : Hid (∀ q, q < s + 1 → ¬ wrk W H O (cst W H O b) k q) := fun q hq' => by
              by_cases e : q = s
              · subst e; exact fun h => hq (by have := h.2.2; rw [HM.out] at this; exact this)
              · exact hno.out q (by omega)
            clear hRm hvk hq
            go_wp2
            have k0 := cell_regrown e0
            have k1 := cell_regrown e1
            refine wp_region_quiet_below (by kernel_rfl) (by kernel_rfl) ?_
            repeat (go_big_quiet_step (with_reducible exact HPC.out _ _))
            refine wpQuiet_nil ?_
            intro _ hw'
            obtain ⟨⟨dq, osq⟩, hw''⟩ := hw'
            subst hw''
            have hb4 := below_regrown w3 dq osq
            have B4 := Lib.hid (B3.out.trans (hb4.mono B3.out.size))
            clear k0 k1 hb4 B3 e0 e1
            generalize Go.Sort.grow (redrawn w3 dq) osq = w4 at *
            clear HPC
            go_wp2
            go_roundw
            case rel => exact ⟨s + 1, by go_num, by omega, HNO.out, B4.out⟩
            case measure => simp [intOf]; omega
    · obtain rfl : s = 8 := by omega
      obtain ⟨q, hq, hw⟩ := HNX.out
      exact absurd hw (hno.out q hq)
end Go.Proofs.YtcipedijjemghaaDoor
