/- Contracts: Settle, Held. -/
import Derived.Test.YtoibbnkpfplmbaaCw7
namespace Go.Proofs.Ytoibbnkpfplmbaa
open Go.RowKit Go.Sort Go.Lib
set_option linter.unusedVariables false
set_option linter.unusedSimpArgs false
attribute [local go_sem] Oper.semAt_some

theorem Rn.mono {w : World} {base b' : Nat} {v : Value} {l : List Int} (h : Rn w base v l) (hb : b' ≤ base) : Rn w b' v l :=
  ⟨h.1, h.2.imp id fun ⟨g, cap, cur, e, hg, r⟩ => ⟨g, cap, cur, e, Nat.le_trans hb hg, r⟩⟩
set_option maxHeartbeats 1000000 in
theorem settle15_bad (cells : Int) (no oc n wc m ic : Nat) (oA wA iA : Option Addr) (P Wi : Nat → Int) (w : World) (hP : Is w wA n P) (hW : Is w iA m Wi) (hno : no ≤ 1000000) (hn : n ≤ 1000000) (hm : m ≤ 1000000) (h0 : chZ cells no n m P Wi ≠ 0) :
    Calls Try.prog 12 #[.int .i64 cells, .slice oA no oc, .slice wA n wc, .slice iA m ic] w (Ret (.tuple #[.slice none 0 0, .slice none 0 0, .int .i64 (chZ cells no n m P Wi)]) w) := by
  have HC := Lib.hid (check15_any cells no oc n wc m ic oA wA iA P Wi w hP hW hno hn hm)
  have g0 : (chZ cells no n m P Wi != 0) = true := by simp [h0]
  generalize chZ cells no n m P Wi = e at *
  clear hP hW h0
  go_enter Try.func12, Try.ntmps12
  go_wp2_with fail
  refine HC.out.mono ?_
  rintro e1 w1 ⟨rfl, b1⟩
  have B1 := Lib.hid b1
  clear b1
  go_wp2_with fail
  go_ret3
  exact Ret.mk rfl B1.out

set_option maxHeartbeats 1000000 in
theorem settle15_ok (cells : Int) (no oc n wc m ic : Nat) (oA wA iA : Option Addr) (O : Nat → Bool) (P Wi : Nat → Int) (w : World) (hO : Bo w oA no O) (hP : Is w wA n P) (hA : wA = none → wc = 0) (hW : Is w iA m Wi) (hk : Okc cells no n m P Wi) :
    Calls Try.prog 12 #[.int .i64 cells, .slice oA no oc, .slice wA n wc, .slice iA m ic] w fun e w' => ∃ A k gA gc, e = .returned (.tuple #[.slice A n k, .slice gA n gc, .int .i64 0]) ∧ (A = none → k = 0) ∧ Iw w' w.heap.size A n (finS n O Wi (s0S P)).P ∧ Bw w' w.heap.size gA n (finS n O Wi (s0S P)).G ∧ Below w.heap.size w w' ∧ n ≤ k ∧ k ≤ maxLen ∧ n ≤ gc ∧ gc ≤ maxLen := by
  have q1 := hk.lo
  have q2 := hk.hi
  have q3 := hk.len
  have q4 := hk.few
  obtain rfl := hk.wl
  subst q3
  have HC := Lib.hid (check15_any (no : Int) no oc m wc m ic oA wA iA P Wi w hP hW (by omega) (by omega) (by omega))
  rw [chZ_ok hk] at HC
  have HS := Lib.hid (fun (u : World) (hu : Below w.heap.size w u) => settled15_any no oc m wc ic oA wA iA O P Wi u (hO.keep hu) (hP.keep hu) hA (hW.keep hu) hk)
  clear hP hW hO hk hA
  go_enter Try.func12, Try.ntmps12
  go_wp2_with fail
  refine HC.out.mono ?_
  rintro e1 w1 ⟨rfl, b1⟩
  have B1 := Lib.hid b1
  clear b1
  go_wp2_with fail
  refine (HS.out _ B1.out).mono ?_
  rintro e w2 ⟨g, b, wA', wc', gA, gc, rfl, hA', hC⟩
  have HCw := Lib.hid hC
  have c2 := hC.c2
  have c4 := hC.c4
  have B2 : Hid (Below w.heap.size w w2) := B1.out.trans (hC.k.below.mono B1.out.size)
  dsimp only at c2 c4
  clear hC HS HC
  have k2 := cell_regrown c2
  have k4 := cell_regrown c4
  go_wp2_with fail
  refine wp_region_quiet_below (by kernel_rfl) (by kernel_rfl) ?_
  repeat (go_big_quiet_step (fail))
  refine wpQuiet_nil ?_
  intro _ hw'
  obtain ⟨⟨dr, osr⟩, hw''⟩ := hw'
  subst hw''
  have HC3 := Lib.hid (HCw.out.keep (below_regrown w2 dr osr))
  have B3 : Hid (Below w.heap.size w (grow (redrawn w2 dr) osr)) := B2.out.trans ((below_regrown w2 dr osr).mono B2.out.size)
  clear c2 c4 k2 k4 HCw
  generalize grow (redrawn w2 dr) osr = w3 at *
  go_wp2_with fail
  go_ret3
  have hc := HC3.out
  exact ⟨wA', wc', gA, gc, rfl, hA', hc.wh.mono B1.out.size, hc.mv.mono B1.out.size, B3.out, hc.wcl, hc.wcm, hc.gcl, hc.gcm⟩

set_option maxHeartbeats 1000000 in
theorem heldF15_bad (cells : Int) (no oc n wc m ic : Nat) (oA wA iA : Option Addr) (P Wi : Nat → Int) (w : World) (hP : Is w wA n P) (hW : Is w iA m Wi) (hno : no ≤ 1000000) (hn : n ≤ 1000000) (hm : m ≤ 1000000) (h0 : chZ cells no n m P Wi ≠ 0) :
    Calls Try.prog 15 #[.int .i64 cells, .slice oA no oc, .slice wA n wc, .slice iA m ic] w (Ret (.tuple #[.slice none 0 0, .int .i64 (chZ cells no n m P Wi)]) w) := by
  have HC := Lib.hid (check15_any cells no oc n wc m ic oA wA iA P Wi w hP hW hno hn hm)
  have g0 : (chZ cells no n m P Wi != 0) = true := by simp [h0]
  generalize chZ cells no n m P Wi = e at *
  clear hP hW h0
  go_enter Try.func15, Try.ntmps15
  go_wp2_with fail
  refine HC.out.mono ?_
  rintro e1 w1 ⟨rfl, b1⟩
  have B1 := Lib.hid b1
  clear b1
  go_wp2_with fail
  go_ret2
  exact Ret.mk rfl B1.out

theorem hd_yes {n k : Nat} {O : Nat → Bool} {P Wi : Nat → Int} (h : (wtB P Wi k && (P k != Wi k)) = true) : 0 ≤ P k ∧ 0 ≤ Wi k ∧ hdZ n O Wi P k = [if O (Wi k).toNat = true then onZ P n (Wi k) else -1] := by
  simp [wtB] at h
  unfold hdZ
  rw [if_pos ⟨h.1.1, h.1.2, h.2⟩]
  exact ⟨h.1.1, h.1.2, rfl⟩
theorem hd_nope {n k : Nat} {O : Nat → Bool} {P Wi : Nat → Int} (h : (wtB P Wi k && (P k != Wi k)) = false) : hdZ n O Wi P k = [] := by
  unfold hdZ
  rw [if_neg]
  rintro ⟨h1, h2, h3⟩
  simp [wtB, h1, h2, h3] at h
theorem hl_succ (n : Nat) (O : Nat → Bool) (Wi P : Nat → Int) (k : Nat) : hlZ n O Wi P (k + 1) = hlZ n O Wi P k ++ hdZ n O Wi P k := rfl
set_option maxHeartbeats 2000000 in
theorem heldF15_ok (cells : Int) (no oc n wc m ic : Nat) (oA wA iA : Option Addr) (O : Nat → Bool) (P Wi : Nat → Int) (w : World) (hO : Bo w oA no O) (hP : Is w wA n P) (hA : wA = none → wc = 0) (hW : Is w iA m Wi) (hk : Okc cells no n m P Wi) :
    Calls Try.prog 15 #[.int .i64 cells, .slice oA no oc, .slice wA n wc, .slice iA m ic] w fun e w' => ∃ v, e = .returned (.tuple #[v, .int .i64 0]) ∧ Rn w' w.heap.size v (hlZ n O Wi (finS n O Wi (s0S P)).P n) ∧ Below w.heap.size w w' := by
  have q1 := hk.lo
  have q2 := hk.hi
  have q3 := hk.len
  have q4 := hk.few
  obtain rfl := hk.wl
  subst q3
  have HC := Lib.hid (check15_any (no : Int) no oc m wc m ic oA wA iA P Wi w hP hW (by omega) (by omega) (by omega))
  rw [chZ_ok hk] at HC
  have HS := Lib.hid (fun (u : World) (hu : Below w.heap.size w u) => settled15_any no oc m wc ic oA wA iA O P Wi u (hO.keep hu) (hP.keep hu) hA (hW.keep hu) hk)
  have FD := Lib.hid (fin_done (inv_s0 (n := m) (O := O) (Wi := Wi) hk.apt))
  clear hP hW hO hk hA
  go_enter Try.func15, Try.ntmps15
  go_wp2_with fail
  refine HC.out.mono ?_
  rintro e1 w1 ⟨rfl, b1⟩
  have B1 := Lib.hid b1
  clear b1
  go_wp2_with fail
  refine (HS.out _ B1.out).mono ?_
  rintro e w2 ⟨g, b, wA', wc', gA, gc, rfl, hA', hC⟩
  have HCw := Lib.hid hC
  have c2 := hC.c2
  have B2 : Hid (Below w.heap.size w w2) := B1.out.trans (hC.k.below.mono B1.out.size)
  dsimp only at c2
  clear hC HS HC
  obtain ⟨s, hs⟩ : ∃ s, s = finS m O Wi (s0S P) := ⟨_, rfl⟩
  rw [← hs] at HCw FD
  have HS9 := Lib.hid hs
  clear hs
  have HQ := Lib.hid (fun (u : World) (hu : RowKit.Below w2.heap.size w2 u) (k : Nat) (hk : k < m) => held15_any w1 u ⟨g, b, m, no, oA, oc, wA', wc', iA, ic, gA, gc, O, Wi⟩ s k (HCw.out.keep hu) hk)
  have HH := Lib.hid (fun (u : World) (hu : RowKit.Below w2.heap.size w2 u) (k : Nat) (hk : k < m) (h1 : 0 ≤ s.P k) (h2 : 0 ≤ Wi k) => holder15_any w1 u ⟨g, b, m, no, oA, oc, wA', wc', iA, ic, gA, gc, O, Wi⟩ s k (HCw.out.keep hu) hk h2 (fun h3 => hd_on FD.out hk h1 h2 h3))
  dsimp only at HQ HH
  clear HCw FD
  go_wp2_with fail
  go_loopw [12, 31] (fun s12 s31 wr => ∃ k : Nat, k ≤ m ∧ s31 = .int .i64 (k : Int) ∧ Hid (Rn wr w2.heap.size s12 (hlZ m O Wi s.P k)) ∧ Hid (Below w2.heap.size w2 wr)) (fun _ s31 _ => m - (intOf s31).toNat)
  case atStart => exact ⟨0, by omega, rfl, Rn.nil _ _, Below.refl _ _⟩
  case round =>
    obtain ⟨k, hk, rfl, hR, hB⟩ := hrel
    by_cases hkn : k < m
    · have hkI : (k : Int) < (m : Int) := by omega
      have hkB : decide ((k : Int) < (m : Int)) = true := decide_eq_true hkI
      go_wp2_with fail
      refine (HQ.out wr hB.out k hkn).mono ?_
      rintro e w3 ⟨rfl, b3⟩
      have B3 : Hid (Below w2.heap.size w2 w3) := hB.out.trans (b3.mono hB.out.size)
      have R3 := Lib.hid (hR.out.keep b3)
      clear b3 hR hB
      have HSU := Lib.hid (hl_succ m O Wi s.P k)
      cases hv : (wtB s.P Wi k && (s.P k != Wi k)) with
      | false =>
        rw [hd_nope hv, List.append_nil] at HSU
        clear hv
        go_wp2_with fail
        go_roundw
        case rel => exact ⟨k + 1, by omega, by go_num, by rw [HSU.out]; exact R3.out, B3.out⟩
        case measure => simp [intOf]; omega
      | true =>
        obtain ⟨h1, h2, h3⟩ := hd_yes (n := m) (O := O) hv
        rw [h3] at HSU
        have H1 := Lib.hid h1
        have H2 := Lib.hid h2
        clear hv h1 h2 h3
        have HHk := Lib.hid (HH.out w3 B3.out k hkn H1.out H2.out)
        generalize (if O (Wi k).toNat = true then onZ s.P m (Wi k) else -1) = z at *
        go_wp2_with fail
        refine HHk.out.mono ?_
        rintro e w4 ⟨rfl, b4⟩
        have B4 : Hid (Below w2.heap.size w2 w4) := B3.out.trans (b4.mono B3.out.size)
        have R4 := Lib.hid (R3.out.keep b4)
        clear b4 R3 B3 HHk
        have HLe := Lib.hid (hlZ_len m O Wi s.P k)
        go_wp2_with (at_builtin; refine append_int rfl (.tmp 37) (.tmp 41) rfl w2.heap.size (hlZ m O Wi s.P k) z u12 w4 rfl R4.out rfl (by have := HLe.out; omega) B4.out.size ?_; intro v' w5 hR5 hE5)
        go_roundw
        case rel =>
          refine ⟨k + 1, by omega, by go_num, by rw [HSU.out]; exact hR5, ?_⟩
          exact B4.out.grown hE5.1 B4.out.size (fun r er => (R4.out.lt r er).1)
        case measure => simp [intOf]; omega
    · obtain rfl : k = m := by omega
      have hkI : decide ((k : Int) < (k : Int)) = false := decide_eq_false (by omega)
      go_wp2_with fail
      go_ret2
      have hR' := hR.out
      rw [HS9.out] at hR'
      exact ⟨u12, rfl, hR'.mono B2.out.size, B2.out.trans (hB.out.mono B2.out.size)⟩
end Go.Proofs.Ytoibbnkpfplmbaa
