/- Contracts of package ground, sixth part: label, Regions, Joined. -/
import Derived.Test.YtcipedijjemghaaDoorGr7
import Derived.Deep.OwnRows
namespace Go.Proofs.YtcipedijjemghaaDoor
open Go.RowKit
set_option linter.unusedVariables false

/-- The regions come back, in new memory. -/
def RetLab (wd N : Nat) (g : Nat → Bool) (w : World) (e : Ending) (w' : World) : Prop :=
  ∃ rg R, e = .returned (.slice (some ⟨rg, 0, none⟩) N N) ∧ Ir w' rg N R ∧ IsLab (Adj wd N) g N R ∧ Below w.heap.size w w'

set_option maxHeartbeats 1000000 in
theorem label_any (wd ht N gb Kg : Nat) (eN : wd * ht = N) (g : Nat → Bool) (w : World) (h1 : 1 ≤ wd) (h2 : wd ≤ 64) (h3 : 1 ≤ ht) (h4 : ht ≤ 64) (hKg : N ≤ Kg) (hG : ∀ i, i < N → w.cell? ⟨gb, i, none⟩ = some (.bool (g i))) :
    Calls Tryd.prog 45 #[.int .i64 (wd : Int), .int .i64 (ht : Int), .slice (some ⟨gb, 0, none⟩) N Kg] w (RetLab wd N g w) := by
  have hA : N ≤ 4096 := by rw [← eN]; exact land_bd h2 h4
  have hN0 : 0 < N := by rw [← eN]; exact Nat.mul_pos h1 h3
  have hgb : gb < w.heap.size := World.block_lt_of_cell? w _ (hG 0 hN0)
  have HG := Lib.hid hG
  have HE := Lib.hid eN
  have hmk := run_make_row' (P := Tryd.prog) 26 3 (.int .i64 0) 8 Tryd.underlying26 Tryd.infoI rfl .i64 .i64 N (by omega) (by omega)
  have HM := Lib.hid (Ir.made w N)
  clear hG eN
  go_enter Tryd.func45, Tryd.ntmps45
  go_wp2
  go_loopw [16] (fun t wr => ∃ k : Nat, k ≤ N ∧ t = .int .i64 (k : Int) ∧ Ir wr w.heap.size N (fun i => if i < k then -1 else 0) ∧ Below w.heap.size w wr) (fun t _ => N - (intOf t).toNat)
  case atStart => exact ⟨0, by omega, rfl, HM.out.congr (fun i _ => by simp), (Below.refl _ _).alloc (Nat.le_refl _) _⟩
  case round =>
    obtain ⟨k, hk, rfl, hI, hB⟩ := hrel
    clear HM hmk
    rename World => W1
    by_cases hlt : k < N
    · have hcell := hI.cell hlt
      have hfree := hI.frozen k
      have HN : Hid (Ir (W1.setCell ⟨w.heap.size, k, none⟩ (.int .i64 (-1))) w.heap.size N (fun i => if i < k + 1 then -1 else 0)) := by
        refine (hI.set hlt (-1)).congr (fun i hi => ?_)
        by_cases e : i = k
        · subst e; rw [upd_same, if_pos (by omega)]
        · rw [upd_other _ _ _ e]
          by_cases h1 : i < k
          · rw [if_pos h1, if_pos (by omega)]
          · rw [if_neg h1, if_neg (by omega)]
      have HB : Hid (Below w.heap.size w (W1.setCell ⟨w.heap.size, k, none⟩ (.int .i64 (-1)))) := hB.setCell (Nat.le_refl _) _
      clear hI hB
      simp at hcell
      go_wp2
      go_roundw
      case rel => exact ⟨k + 1, by omega, by go_num, HN.out, HB.out⟩
      case measure => simp [intOf]; omega
    · have e : k = N := by omega
      subst e
      have HA := Lib.hid hI
      have HB := Lib.hid hB
      clear hI hB
      go_wp2
      go_loopw [25] (fun t wr => ∃ (c : Nat) (R : Nat → Int), c ≤ k ∧ t = .int .i64 (c : Int) ∧ Ir wr w.heap.size k R ∧ Part (Adj wd k) g k c R ∧ Below w.heap.size w wr) (fun t _ => k - (intOf t).toNat)
      case atStart => exact ⟨0, _, by omega, rfl, HA.out.congr (Q := fun _ => -1) (fun i hi => by rw [if_pos hi]), Part.start _ _ _, HB.out⟩
      case round =>
        obtain ⟨c, R, hc, rfl, hI, hP, hB⟩ := hrel
        clear HA HB
        have HI := Lib.hid hI
        have HP := Lib.hid hP
        have HB := Lib.hid hB
        by_cases hlt2 : c < k
        · have e4 : wr.cell? ⟨gb, c, none⟩ = some (.bool (g c)) := (hB.cell (p := ⟨gb, c, none⟩) hgb).trans (HG.out c hlt2)
          have e5 := hI.cell hlt2
          have hcI : (c : Int) < (k : Int) := by omega
          clear hI hP hB
          cases hg : g c with
          | false =>
            have HGm := Lib.hid hg
            rw [hg] at e4
            clear hg e5
            go_wp2
            go_roundw
            case rel => exact ⟨c + 1, R, by omega, by go_num, HI.out, HP.out.skip (fun h => by rw [HGm.out] at h; cases h), HB.out⟩
            case measure => simp [intOf]; omega
          | true =>
            have HGm := Lib.hid hg
            rw [hg] at e4
            clear hg
            by_cases hr : R c = -1
            · have HRm := Lib.hid hr
              rw [hr] at e5
              clear hr
              go_wp2_with fail
              refine (spread_any wd ht k c w.heap.size gb Kg k HE.out g R wr h1 h2 h3 h4 (Nat.le_refl _) hKg hlt2 HGm.out HRm.out HI.out (fun i hi => (HB.out.cell (p := ⟨gb, i, none⟩) hgb).trans (HG.out i hi)) (by omega) HP.out).mono ?_
              rintro e w5 ⟨rfl, hgr, R2, hI2, hP2⟩
              have HI2 := Lib.hid hI2
              have HP2 := Lib.hid hP2
              have HB2 := Lib.hid (HB.out.grown hgr HB.out.size (fun j ej => by injection ej with ej; omega))
              clear hgr hI2 hP2 e4 e5
              go_wp2
              go_roundw
              case rel => exact ⟨c + 1, R2, by omega, by go_num, HI2.out, HP2.out, HB2.out⟩
              case measure => simp [intOf]; omega
            · have HRm := Lib.hid hr
              have hr2 : (R c == -1) = false := by simpa using hr
              clear hr
              go_wp2
              go_roundw
              case rel => exact ⟨c + 1, R, by omega, by go_num, HI.out, HP.out.skip (fun _ => HRm.out), HB.out⟩
              case measure => simp [intOf]; omega
        · have e : c = k := by omega
          subst e
          clear hI hP hB
          go_wp2
          go_ret
          exact ⟨_, R, rfl, HI.out, HP.out.isLab (fun _ _ h => h.lt), HB.out⟩

def RetReg (wd N : Nat) (g : Nat → Bool) (w : World) (e : Ending) (w' : World) : Prop :=
  ∃ rg R, e = .returned (.tuple #[.slice (some ⟨rg, 0, none⟩) N N, .int .i64 0]) ∧ Ir w' rg N R ∧ IsLab (Adj wd N) g N R ∧ Below w.heap.size w w'

set_option maxHeartbeats 400000 in
theorem regions_bad (W H T c : Int) (A : Option Addr) (n k : Nat) (w : World) (hn : n ≤ maxLen) (h : ¬ (Val W H T n ∧ Cls c)) :
    Calls Tryd.prog 31 #[.agg #[.int .i64 W, .int .i64 H, .int .i64 T, .slice A n k], .int .i64 c] w (Ret (.tuple #[.slice none 0 0, .int .i64 1]) w) := by
  have C := Lib.hid (fun u => grid_bad W H T c A n k u hn h)
  clear h
  go_enter Tryd.func31, Tryd.ntmps31
  go_wp2_with fail
  refine (C.out _).mono ?_
  rintro e w1 ⟨rfl, b1⟩
  have B1 := Lib.hid (below_box b1)
  clear b1
  go_wp2
  go_ret2
  exact Ret.mk rfl B1.out

set_option maxHeartbeats 1000000 in
theorem regions_in (wd ht : Nat) (T c : Int) (A : Option Addr) (n k : Nat) (p : Nat → Nat) (w : World) (hn : n ≤ maxLen) (hb : Bs w A n p) (hp : ∀ i, p i < 256) (hv : Val wd ht T n) (hc : Cls c) :
    Calls Tryd.prog 31 #[.agg #[.int .i64 (wd : Int), .int .i64 (ht : Int), .int .i64 T, .slice A n k], .int .i64 c] w (RetReg wd (wd * ht) (gr p wd T c) w) := by
  obtain ⟨hW1, hW2, hH1, hH2, hT, hT2⟩ := hv.s
  have C := Lib.hid (grid_in wd ht T c A n k p _ hn (hb.alloc (.cells #[.int .i64 (wd : Int), .int .i64 (ht : Int), .int .i64 T, .slice A n k] 45)) hp hv hc)
  have HX := Lib.hid (Bx.new w (.int .i64 (wd : Int)) (.int .i64 (ht : Int)) (.int .i64 T) (.slice A n k) 45)
  clear hv hb hp hc hn
  obtain ⟨N, eN⟩ : ∃ N, wd * ht = N := ⟨_, rfl⟩
  rw [eN] at C ⊢
  have EN := Lib.hid eN
  clear eN
  generalize gr p wd T c = g at *
  go_enter Tryd.func31, Tryd.ntmps31
  go_wp2_with fail
  refine C.out.mono ?_
  rintro e w1 ⟨A', K, rfl, k1, k2, hV, b1⟩
  have X1 := Lib.hid (HX.out.keep b1)
  have HV := Lib.hid hV
  clear b1 HX hV C
  obtain ⟨gb, rfl, hgb, hG⟩ := HV.out
  obtain ⟨-, c0, c1, c2, c3, -, -, -, -, -⟩ := X1.out
  have HG := Lib.hid hG
  clear hG HV
  go_wp2_with fail
  refine (label_any wd ht N gb K EN.out g _ (by omega) (by omega) (by omega) (by omega) k1 HG.out).mono ?_
  rintro e w2 ⟨rg, R, rfl, hI, hL, b2⟩
  have HI := Lib.hid hI
  have HL := Lib.hid hL
  have B2 := Lib.hid (X1.out.keep b2).below
  clear hI hL b2 c0 c1 c2 c3 X1
  go_wp2
  go_ret2
  exact ⟨rg, R, rfl, HI.out, HL.out, B2.out⟩

set_option maxHeartbeats 400000 in
theorem has_any (A : Option Addr) (n k : Nat) (z : Int) (w : World) (hn : n ≤ 4096) :
    Calls Tryd.prog 32 #[.slice A n k, .int .i64 z] w fun e w' => e = .returned (.bool (decide (0 ≤ z ∧ z < (n : Int)))) ∧ w = w' := by
  obtain ⟨r, er⟩ : ∃ r, decide (0 ≤ z ∧ z < (n : Int)) = r := ⟨_, rfl⟩
  rw [er]
  rcases Int.lt_or_le z 0 with h | h
  · have HE : Hid (r = false) := by show _ = _; rw [← er]; simp; omega
    clear er
    go_enter Tryd.func32, Tryd.ntmps32
    go_wp2
    go_ret
    exact ⟨bool_back HE.out.symm, rfl⟩
  · have HE : Hid (r = decide (z < (n : Int))) := by show _ = _; rw [← er]; simp [h]
    clear er
    go_enter Tryd.func32, Tryd.ntmps32
    go_wp2
    go_ret
    exact ⟨bool_back HE.out.symm, rfl⟩

/-- Whether two cells are of one region. -/
def jn (R : Nat → Int) (N : Nat) (a b : Int) : Bool := decide ((0 ≤ a ∧ a < (N : Int)) ∧ (0 ≤ b ∧ b < (N : Int)) ∧ R a.toNat ≠ -1 ∧ R a.toNat = R b.toNat)

set_option maxHeartbeats 400000 in
theorem joined_bad (W H T c a b : Int) (A : Option Addr) (n k : Nat) (w : World) (hn : n ≤ maxLen) (h : ¬ (Val W H T n ∧ Cls c)) :
    Calls Tryd.prog 21 #[.agg #[.int .i64 W, .int .i64 H, .int .i64 T, .slice A n k], .int .i64 c, .int .i64 a, .int .i64 b] w (Ret (.bool false) w) := by
  have C := Lib.hid (fun u => regions_bad W H T c A n k u hn h)
  clear h
  go_enter Tryd.func21, Tryd.ntmps21
  go_wp2_with fail
  refine (C.out _).mono ?_
  rintro e w1 ⟨rfl, b1⟩
  have B1 := Lib.hid (below_box b1)
  clear b1
  go_wp2
  go_ret
  exact Ret.mk rfl B1.out

set_option maxHeartbeats 2000000 in
theorem joined_in (wd ht : Nat) (T c a b : Int) (A : Option Addr) (n k : Nat) (p : Nat → Nat) (L : Nat → Int) (w : World) (hn : n ≤ maxLen) (hb : Bs w A n p) (hp : ∀ i, p i < 256) (hv : Val wd ht T n) (hc : Cls c) (hL : IsLab (Adj wd (wd * ht)) (gr p wd T c) (wd * ht) L) :
    Calls Tryd.prog 21 #[.agg #[.int .i64 (wd : Int), .int .i64 (ht : Int), .int .i64 T, .slice A n k], .int .i64 c, .int .i64 a, .int .i64 b] w (Ret (.bool (jn L (wd * ht) a b)) w) := by
  obtain ⟨hW1, hW2, hH1, hH2, hT, hT2⟩ := hv.s
  have C := Lib.hid (regions_in wd ht T c A n k p _ hn (hb.alloc (.cells #[.int .i64 (wd : Int), .int .i64 (ht : Int), .int .i64 T, .slice A n k] 45)) hp hv hc)
  have hA : wd * ht ≤ 4096 := land_bd (by omega) (by omega)
  have HL := Lib.hid hL
  clear hv hb hp hc hn hL
  obtain ⟨N, eN⟩ : ∃ N, wd * ht = N := ⟨_, rfl⟩
  rw [eN] at C HL hA ⊢
  clear eN
  generalize gr p wd T c = g at *
  by_cases ha : 0 ≤ a ∧ a < (N : Int)
  · have D1 : Hid (∀ A k u, Calls Tryd.prog 32 #[.slice A N k, .int .i64 a] u fun e w' => e = .returned (.bool true) ∧ u = w') := fun A k u => by
      have h := has_any A N k a u hA
      have e : decide (0 ≤ a ∧ a < (N : Int)) = true := by simp [ha]
      rw [e] at h; exact h
    by_cases hb : 0 ≤ b ∧ b < (N : Int)
    · have D2 : Hid (∀ A k u, Calls Tryd.prog 32 #[.slice A N k, .int .i64 b] u fun e w' => e = .returned (.bool true) ∧ u = w') := fun A k u => by
        have h := has_any A N k b u hA
        have e : decide (0 ≤ b ∧ b < (N : Int)) = true := by simp [hb]
        rw [e] at h; exact h
      obtain ⟨a0, a1⟩ := ha
      obtain ⟨b0, b1⟩ := hb
      obtain ⟨x, rfl⟩ : ∃ x : Nat, a = (x : Int) := ⟨a.toNat, by omega⟩
      obtain ⟨y, rfl⟩ : ∃ y : Nat, b = (y : Int) := ⟨b.toNat, by omega⟩
      have hx : x < N := by omega
      have hy : y < N := by omega
      by_cases h1 : L x = -1
      · have HJ : Hid (jn L N (x : Int) (y : Int) = false) := by show _ = _; simp [jn, h1]
        have H1 := Lib.hid h1
        clear h1
        go_enter Tryd.func21, Tryd.ntmps21
        go_wp2_with fail
        refine C.out.mono ?_
        rintro e w1 ⟨rg, R, rfl, hI, hR, b1⟩
        have B1 := Lib.hid (below_box b1)
        have d1 := hI.cell hx
        rw [hR.one HL.out hx, H1.out] at d1
        clear b1 hI hR C HL
        go_wp2_with fail
        refine (D1.out _ _ _).mono ?_
        rintro e w1' ⟨rfl, rfl⟩
        go_wp2_with fail
        refine (D2.out _ _ _).mono ?_
        rintro e w1' ⟨rfl, rfl⟩
        go_wp2
        go_quiet (fail)
        go_wp2
        go_ret
        exact Ret.mk (congrArg Value.bool HJ.out.symm) ⟨B1.out.os, B1.out.tape, B1.out.output, B1.out.size, B1.out.block⟩
      · have HJ : Hid (jn L N (x : Int) (y : Int) = (L x == L y)) := by show _ = _; rw [Bool.eq_iff_iff]; simp [jn, h1]; omega
        have h2 : (L x != -1) = true := by simpa using h1
        clear h1
        go_enter Tryd.func21, Tryd.ntmps21
        go_wp2_with fail
        refine C.out.mono ?_
        rintro e w1 ⟨rg, R, rfl, hI, hR, b1⟩
        have B1 := Lib.hid (below_box b1)
        have d1 := hI.cell hx
        have d2 := hI.cell hy
        rw [hR.one HL.out hx] at d1
        rw [hR.one HL.out hy] at d2
        clear b1 hI hR C HL
        go_wp2_with fail
        refine (D1.out _ _ _).mono ?_
        rintro e w1' ⟨rfl, rfl⟩
        go_wp2_with fail
        refine (D2.out _ _ _).mono ?_
        rintro e w1' ⟨rfl, rfl⟩
        go_wp2
        go_quiet (fail)
        go_wp2
        go_ret
        exact Ret.mk (congrArg Value.bool HJ.out.symm) ⟨B1.out.os, B1.out.tape, B1.out.output, B1.out.size, B1.out.block⟩
    · have HJ : Hid (jn L N a b = false) := by show _ = _; simp [jn]; intro _ _ h1 h2; exact absurd ⟨h1, h2⟩ hb
      have D2 : Hid (∀ A k u, Calls Tryd.prog 32 #[.slice A N k, .int .i64 b] u fun e w' => e = .returned (.bool false) ∧ u = w') := fun A k u => by
        have h := has_any A N k b u hA
        have e : decide (0 ≤ b ∧ b < (N : Int)) = false := by simpa using hb
        rw [e] at h; exact h
      clear ha hb
      go_enter Tryd.func21, Tryd.ntmps21
      go_wp2_with fail
      refine C.out.mono ?_
      rintro e w1 ⟨rg, R, rfl, hI, hR, b1⟩
      have B1 := Lib.hid (below_box b1)
      clear b1 hI hR C HL
      go_wp2_with fail
      refine (D1.out _ _ _).mono ?_
      rintro e w1' ⟨rfl, rfl⟩
      go_wp2_with fail
      refine (D2.out _ _ _).mono ?_
      rintro e w1' ⟨rfl, rfl⟩
      go_wp2
      go_ret
      exact Ret.mk (congrArg Value.bool HJ.out.symm) B1.out
  · have HJ : Hid (jn L N a b = false) := by show _ = _; simp [jn]; intro h1 h2; exact absurd ⟨h1, h2⟩ ha
    have D1 : Hid (∀ A k u, Calls Tryd.prog 32 #[.slice A N k, .int .i64 a] u fun e w' => e = .returned (.bool false) ∧ u = w') := fun A k u => by
      have h := has_any A N k a u hA
      have e : decide (0 ≤ a ∧ a < (N : Int)) = false := by simpa using ha
      rw [e] at h; exact h
    clear ha
    go_enter Tryd.func21, Tryd.ntmps21
    go_wp2_with fail
    refine C.out.mono ?_
    rintro e w1 ⟨rg, R, rfl, hI, hR, b1⟩
    have B1 := Lib.hid (below_box b1)
    clear b1 hI hR C HL
    go_wp2_with fail
    refine (D1.out _ _ _).mono ?_
    rintro e w1' ⟨rfl, rfl⟩
    go_wp2
    go_ret
    exact Ret.mk (congrArg Value.bool HJ.out.symm) B1.out

end Go.Proofs.YtcipedijjemghaaDoor
