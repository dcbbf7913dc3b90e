/- The walk of KindsDecodes, given the reference's Decode. -/
import Derived.Test.YtpgifcgidelmaaaLKindsBack
namespace Go.Proofs.Ytpgifcgidelmaaa
open Go.RowKit
set_option linter.unusedVariables false

set_option maxRecDepth 100000 in
set_option maxHeartbeats 4000000 in
theorem walk_decodes (HRD : ∀ (A : Option Addr) (N c : Nat) (p : Nat → Nat) (w : World), Bs w A N p → (∀ i, p i < 256) → N ≤ c → c ≤ maxLen → Calls Try.prog 16 #[.slice A N c] w (DecRet p N w))
    (S : Option Addr) (N cs : Nat) (p : Nat → Nat) (w : World) (hS : Bs w S N p) (hp : ∀ i, p i < 256) (hN : N ≤ cs) (hcs : cs ≤ maxLen) :
    Calls Try.prog 6 #[.slice S N cs] w (Ret (.bool true) w) := by
  have HR := Lib.hid HRD
  have HS := Lib.hid hS
  have HP := Lib.hid hp
  have HN := Lib.hid hN
  have HM := Lib.hid hcs
  clear hS hp HRD
  unfold maxLen at hcs
  go_enter Try.func6, Try.ntmps6
  go_upto_if 11 with fail
  obtain ⟨M, hM⟩ : ∃ M, (if 900 < N then 900 else N) = M := ⟨_, rfl⟩
  have HMN : Hid (M ≤ N) := by show _ ≤ _; rw [← hM]; split <;> omega
  go_cut [0] (fun s1 wx => s1 = .slice S M cs ∧ wx = w)
  case first =>
    by_cases h9 : 900 < N
    · have h9' : (900 : Int) < (N : Int) := by omega
      have h9c : (900 : Int) ≤ (cs : Int) := by omega
      have h9z : ¬ cs = 0 := by omega
      obtain ⟨gs, os, rfl, _, _⟩ := HS.out (by omega)
      rw [if_pos h9] at hM
      subst hM
      clear HMN
      go_wp2
      go_meet
      exact ⟨rfl, rfl⟩
    · have h9' : ¬ (900 : Int) < (N : Int) := by omega
      rw [if_neg h9] at hM
      subst hM
      clear HMN
      go_wp2
      go_meet
      exact ⟨rfl, rfl⟩
  case rest =>
    obtain ⟨rfl, rfl⟩ := hcut
    rename World => w
    clear hM hN hcs
    have L1 : Hid (M ≤ cs) := Nat.le_trans HMN.out HN.out
    go_wp2_with fail
    refine (decode_any S M cs p _ (HS.out.take HMN.out) HP.out L1.out HM.out).mono ?_
    rintro e0 w1 ⟨e, a, hD, b1, hcase⟩
    have HD := Lib.hid hD
    have B1 := Lib.hid b1
    clear hD b1
    rcases hcase with ⟨he, rfl⟩ | ⟨rfl, A1, c1, A2, c2, rfl, l1, l2, l3, l4, hK, hW⟩
    · have X1 := Lib.hid (Kx.next B1.out 26 #[.slice none 0 0, .slice none 0 0])
      have HE := Lib.hid he
      clear he B1
      go_wp2_with fail
      refine (HR.out S M cs p _ ((HS.out.take HMN.out).keep X1.out.below) HP.out L1.out HM.out).mono ?_
      rintro e0 w2 ⟨e', a', hD, b2, hcase⟩
      obtain ⟨rfl, rfl⟩ := hD.same HD.out
      have X2 := Lib.hid (X1.out.keep b2)
      have HE2 := Lib.hid hcase
      clear X1 b2 HR HS HP hcase hD
      rcases HE2.out with ⟨-, rfl⟩ | ⟨rfl, -⟩
      · clear HE2
        have X3 := Lib.hid (X2.out.alloc (.cells #[.slice none 0 0, .slice none 0 0] 26))
        have lt2 := X2.out.lt
        go_wp2_with (first | (refine wpList_load_at (loadVar_book X3.out.blk) rfl rfl rfl ?_) | (refine wpList_load_at (loadVar_book (alloc_blk _ _ _)) rfl rfl rfl ?_))
        refine (same_yes 0 0 0 0 0 0 none none none none (fun _ _ => 0) (fun _ _ => 0) (fun _ => false) _ (by simp [maxLen]) (by simp [maxLen]) (fun h => absurd h (by omega)) (fun h => absurd h (by omega)) (fun h => absurd h (by omega)) (fun h => absurd h (by omega))).mono ?_
        rintro e3 w3 ⟨rfl, b3⟩
        have X4 := Lib.hid (X3.out.keep b3)
        clear b3 X3 X2 lt2
        go_wp2_with fail
        refine (awake_any _).mono ?_
        rintro e5 w5 ⟨rfl, b5⟩
        have X5 := Lib.hid (X4.out.keep b5)
        clear b5 X4
        go_wp2
        go_ret
        exact Ret.mk (by simp) X5.out.below
      · exact absurd rfl HE.out
    · obtain rfl := HD.out.zero
      have X1 := Lib.hid (Kx.next B1.out 26 #[.slice A1 (p 0) c1, .slice A2 (p 1) c2])
      have bb := below_box (w := w1) (.cells #[.slice A1 (p 0) c1, .slice A2 (p 1) c2] 26)
      have HK := Lib.hid (hK.keep bb)
      have HW := Lib.hid (hW.keep bb)
      have LL : Hid (p 0 ≤ maxLen ∧ p 1 ≤ maxLen) := ⟨Nat.le_trans l1 l2, Nat.le_trans l3 l4⟩
      clear B1 hK hW bb l1 l2 l3 l4
      obtain ⟨n, en⟩ : ∃ n, p 0 = n := ⟨_, rfl⟩
      obtain ⟨m, em⟩ : ∃ m, p 1 = m := ⟨_, rfl⟩
      rw [en, em] at X1 HK HW LL ⊢
      have EN := Lib.hid en
      have EM := Lib.hid em
      clear en em
      go_wp2_with fail
      refine (HR.out S M cs p _ ((HS.out.take HMN.out).keep X1.out.below) HP.out L1.out HM.out).mono ?_
      rintro e0 w2 ⟨e', a', hD, b2, hcase⟩
      obtain ⟨rfl, rfl⟩ := hD.same HD.out
      have X2 := Lib.hid (X1.out.keep b2)
      have HK2 := Lib.hid (HK.out.keep b2)
      have HW2 := Lib.hid (HW.out.keep b2)
      have HE2 := Lib.hid hcase
      clear X1 b2 HR HS HP hcase hD HK HW
      rcases HE2.out with ⟨hne, _⟩ | ⟨_, A3, c3, A4, c4, rfl, -, -, -, -, hK3, hW3⟩
      · exact absurd rfl hne
      · rw [EN.out] at hK3
        rw [EM.out] at hW3
        have bb := below_box (w := w2) (.cells #[.slice A3 n c3, .slice A4 m c4] 26)
        have X3 := Lib.hid (X2.out.keep bb)
        have K3 := Lib.hid (hK3.keep bb)
        have W3 := Lib.hid (hW3.keep bb)
        have K4 := Lib.hid (HK2.out.keep bb)
        have W4 := Lib.hid (HW2.out.keep bb)
        have lt2 := X2.out.lt
        rw [EN.out, EM.out]
        clear HE2 hK3 hW3 HK2 HW2 bb
        go_wp2_with (first | (refine wpList_load_at (loadVar_book X3.out.blk) rfl rfl rfl ?_) | (refine wpList_load_at (loadVar_book (alloc_blk _ _ _)) rfl rfl rfl ?_))
        refine (same_yes n m c1 c2 c3 c4 A1 A2 A3 A4 (dK p) (dU p) (dF p) _ LL.out.1 LL.out.2 K4.out W4.out K3.out W3.out).mono ?_
        rintro e3 w3 ⟨rfl, b3⟩
        have X4 := Lib.hid (X3.out.keep b3)
        clear b3 X3 X2 lt2 K3 W3 K4 W4
        go_wp2_with fail
        refine (awake_any _).mono ?_
        rintro e5 w5 ⟨rfl, b5⟩
        have X5 := Lib.hid (X4.out.keep b5)
        clear b5 X4
        go_wp2
        go_ret
        exact Ret.mk (by simp) X5.out.below
end Go.Proofs.Ytpgifcgidelmaaa
