/- Contracts: settled. -/
import Derived.Test.YtoibbnkpfplmbaaCw6
namespace Go.Proofs.Ytoibbnkpfplmbaa
open Go.RowKit Go.Sort Go.Lib
set_option linter.unusedVariables false
set_option linter.unusedSimpArgs false
attribute [local go_sem] Oper.semAt_some

theorem cnG_no : ∀ m, cnG (fun _ => false) m = 0
  | 0 => rfl
  | m + 1 => by unfold cnG; rw [cnG_no m]; rfl
theorem cw_first {w u : World} {no oc n ic g b k gc : Nat} {oA iA A' gA : Option Addr} {O : Nat → Bool} {P Wi : Nat → Int} (hO : Bo w oA no O) (hW : Is w iA n Wi) (hk : Okc no no n n P Wi)
    (hK : Kx w g u 48 (Lay.cs ⟨g, b, n, no, oA, oc, A', k, iA, ic, gA, gc, O, Wi⟩)) (hwh : Iw u w.heap.size A' n P) (hmv : Bw u w.heap.size gA n (fun _ => false)) (hbg : w.heap.size ≤ b) (hm : Mo u b (dsZ P n) (laZ P n))
    (h1 : n ≤ k) (h2 : k ≤ maxLen) (h3 : n ≤ gc) (h4 : gc ≤ maxLen) : Cw w ⟨g, b, n, no, oA, oc, A', k, iA, ic, gA, gc, O, Wi⟩ (s0S P) u := by
  have := hk.hi
  exact ⟨hK, hO, hW, hwh, hmv, hbg, ⟨dsZ P n, by have := dsZ_le P n; have := prZ_le P n; have := hk.few; omega, hm.congr fun c hc => laZ_on hk.apt hc.1⟩, hk.few, by show no ≤ 4096; omega, hk.rp, hk.rw, hk.apt, h1, h3, h2, h4⟩

set_option maxRecDepth 100000 in
set_option maxHeartbeats 4000000 in
theorem settled15_any (no oc n wc ic : Nat) (oA wA iA : Option Addr) (O : Nat → Bool) (P Wi : Nat → Int) (w : World) (hO : Bo w oA no O) (hP : Is w wA n P) (hA : wA = none → wc = 0) (hW : Is w iA n Wi) (hk : Okc no no n n P Wi) :
    Calls Try.prog 21 #[.slice oA no oc, .slice wA n wc, .slice iA n ic] w fun e w' => ∃ g b wA' wc' gA gc, e = .returned (.pointer (some ⟨g, 0, none⟩)) ∧ (wA' = none → wc' = 0) ∧ Cw w ⟨g, b, n, no, oA, oc, wA', wc', iA, ic, gA, gc, O, Wi⟩ (finS n O Wi (s0S P)) w' := by
  have hfew := hk.few
  have hcl := hk.hi
  have INV := Lib.hid (inv_s0 (n := n) (O := O) (Wi := Wi) hk.apt)
  have CF : Hid (∀ (u : World) (g b : Nat) (A' : Option Addr) (k : Nat) (gA : Option Addr) (gc : Nat), Kx w g u 48 (Lay.cs ⟨g, b, n, no, oA, oc, A', k, iA, ic, gA, gc, O, Wi⟩) → Iw u w.heap.size A' n P → Bw u w.heap.size gA n (fun _ => false) → w.heap.size ≤ b → Mo u b (dsZ P n) (laZ P n) → n ≤ k → k ≤ maxLen → n ≤ gc → gc ≤ maxLen → Cw w ⟨g, b, n, no, oA, oc, A', k, iA, ic, gA, gc, O, Wi⟩ (s0S P) u) := fun u g b A' k gA gc q1 q2 q3 q4 q5 q6 q7 q8 q9 => cw_first hO hW hk q1 q2 q3 q4 q5 q6 q7 q8 q9
  have CT := Lib.hid (fun (u : World) (hu : Below w.heap.size w u) => things15_any (no : Int) (by omega) wA n wc P u (hP.keep hu) hk.rp hk.few)
  have CC := Lib.hid (fun (u : World) (hu : Below w.heap.size w u) => clone15_any wA n wc P u (hP.keep hu) hA (by omega))
  have CR := Lib.hid (fun (u : World) (L : Lay) (s : St) (hu : Cw w L s u) => round15_any w u L s hu)
  have hmk := run_make_row' (P := Try.prog) 22 4 (.bool false) 1 Try.underlying22 Try.infoB15 rfl .i64 .i64 n (by omega) (by omega)
  clear hO hP hA hW hk
  go_enter Try.func21, Try.ntmps21
  go_wp2_with fail
  rename_i Q1 K aK
  have END : Hid (∀ (x8 x9 x10 x11 x12 x13 x14 x15 x16 x17 x18 : Value) (u : World) (g b : Nat) (A' : Option Addr) (k : Nat) (gA : Option Addr) (gc : Nat), Cw w ⟨g, b, n, no, oA, oc, A', k, iA, ic, gA, gc, O, Wi⟩ (s0S P) u → (A' = none → k = 0) →
      K ⟨#[.slice oA no oc, .slice wA n wc, .slice iA n ic, undef, undef, undef, .pointer none, .pointer (some ⟨g, 0, none⟩), x8, x9, x10, x11, x12, x13, x14, x15, x16, x17, x18, undef, undef, undef], []⟩ u) := by
    intro x8 x9 x10 x11 x12 x13 x14 x15 x16 x17 x18 u g b A' k gA gc hC hA'
    have HC := Lib.hid hC
    clear hC
    refine aK _ _ ?_
    clear aK CT CC CF hmk
    go_wp2_with fail
    go_loopg [] (n + 1) (fun gn wr => ∃ r, Hid (gn = n + 1 - cnG (rrS n O Wi (s0S P) r).G n) ∧ Hid (Cw w ⟨g, b, n, no, oA, oc, A', k, iA, ic, gA, gc, O, Wi⟩ (rrS n O Wi (s0S P) r) wr))
    case atStart =>
      refine ⟨0, ?_, HC.out⟩
      show _ = n + 1 - cnG (fun _ => false) n
      rw [cnG_no]
      omega
    case round =>
      obtain ⟨r, hg, hC⟩ := hrel
      go_wp2_with fail
      refine (CR.out _ _ _ hC.out).mono ?_
      rintro e w1 ⟨rfl, c1⟩
      dsimp only at c1 ⊢
      have C1 := Lib.hid c1
      clear c1 hC
      have HR := Lib.hid (INV.out.rr (n := n) (O := O) (Wi := Wi) r)
      cases hgs : gsS n O Wi (rrS n O Wi (s0S P) r) n with
      | true =>
        have HN := Lib.hid (cn_rk HR.out n (Nat.le_refl _))
        have HL := Lib.hid (cnG_le (rrS n O Wi (s0S P) (r + 1)).G n)
        have HS := Lib.hid hgs
        clear hgs
        go_wp2_with fail
        go_roundg (n + 1 - cnG (rrS n O Wi (s0S P) (r + 1)).G n)
        case rel => exact ⟨r + 1, rfl, C1.out⟩
        case measure =>
          have h1 := HN.out
          have h2 := HL.out
          rw [HS.out, if_pos rfl] at h1
          have h3 : gk = _ := hg
          change _ ≤ cnG (rrS n O Wi (s0S P) (r + 1)).G n at h1
          omega
      | false =>
        obtain ⟨e1, hd⟩ := gs_no n hgs
        have HF := Lib.hid (fin_at INV.out (r := r) hd)
        rw [e1, HF.out] at C1
        clear hgs e1 hd
        go_wp2_with fail
        go_ret
        exact ⟨g, b, A', k, gA, gc, rfl, hA', C1.out⟩
  clear aK
  refine wp_region_any (by kernel_rfl) ?_
  have B0 : Hid (Below w.heap.size w w.drew) := (Below.refl _ _).drew
  simp only [List.size_toArray, List.length_cons, List.length_nil, Nat.reduceAdd, Array.replicate_succ, Array.replicate_zero, List.push_toArray, List.nil_append, List.cons_append]
  refine wpAny_take (i := 0) (v := .slice oA no oc) rfl (by kernel_rfl) (by kernel_rfl) (by kernel_rfl) (fun _ _ _ h => h) (Or.inl ⟨by rfl, fun w => by go_simp⟩) ?_
  go_simp
  refine wpAny_take (i := 1) (v := .slice wA n wc) rfl (by kernel_rfl) (by kernel_rfl) (by kernel_rfl) (fun _ _ _ h => h) (Or.inl ⟨by rfl, fun w => by go_simp⟩) ?_
  go_simp
  refine wpAny_take (i := 3) (v := .slice wA n wc) rfl (by kernel_rfl) (by kernel_rfl) (by kernel_rfl) (fun _ _ _ h => h) (Or.inl ⟨by rfl, fun w => by go_simp⟩) ?_
  go_simp
  refine wpAny_take (i := 5) (v := .slice iA n ic) rfl (by kernel_rfl) (by kernel_rfl) (by kernel_rfl) (fun _ _ _ h => h) (Or.inl ⟨by rfl, fun w => by go_simp⟩) ?_
  go_simp
  refine wpAny_take (i := 6) (v := .slice wA n wc) rfl (by kernel_rfl) (by kernel_rfl) (by kernel_rfl) (fun _ _ _ h => h) (Or.inl ⟨by rfl, fun w => by go_simp⟩) ?_
  go_simp
  refine wpAny_take (i := 7) (v := .int .i64 (n : Int)) rfl (by kernel_rfl) (by kernel_rfl) (by kernel_rfl) (fun _ _ _ h => h) (Or.inl ⟨by rfl, fun w => by go_simp⟩) ?_
  go_simp
  refine wpAny_ready (rs := [2, 8]) (by kernel_rfl) (by simp) ?_
  refine AllReady.cons rfl (fun K1 hK1 => ?_) (AllReady.cons rfl (fun K2 hK2 => ?_) AllReady.nil)
  · go_simp
    refine (CT.out w.drew B0.out).mono ?_
    rintro e u1 ⟨b, rfl, hb, hm, hB⟩
    have B1 : Hid (Below w.heap.size w u1) := B0.out.trans (hB.mono B0.out.size)
    have HM := Lib.hid hm
    have hbw : w.heap.size ≤ b := Nat.le_trans B0.out.size hb
    have HV := Lib.hid hB
    clear hm hB
    refine hK1 _ _ ?_
    clear hK1
    go_simp
    refine wpAny_ready (rs := [4, 8]) (by kernel_rfl) (by simp) ?_
    refine AllReady.cons rfl (fun K3 hK3 => ?_) (AllReady.cons rfl (fun K4 hK4 => ?_) AllReady.nil)
    · go_simp
      refine (CC.out u1 B1.out).mono ?_
      rintro e u2 ⟨A', k, rfl, hk1, hk2, hw, hA', hB⟩
      have B2 : Hid (Below w.heap.size w u2) := B1.out.trans (hB.mono B1.out.size)
      have HW := Lib.hid (hw.mono B1.out.size)
      have HA := Lib.hid hA'
      have HX := Lib.hid hB
      clear hw hB hA'
      have HM1 := HM.out.keep HX.out
      clear HM HV HX
      have HM := Lib.hid HM1
      clear HM1
      refine hK3 _ _ ?_
      clear hK3
      go_simp
      refine wpAny_ready (rs := [8]) (by kernel_rfl) (by simp) ?_
      refine AllReady.cons rfl (fun K5 hK5 => ?_) AllReady.nil
      have HG := Lib.hid ((Bw.made u2 n).mono B2.out.size)
      have HY := Lib.hid (newBox (w := u2) (.cells (madeCells #[.bool false] n) 4))
      have B3 : Hid (Below w.heap.size w (u2.alloc (.cells (madeCells #[.bool false] n) 4))) := B2.out.trans (HY.out.mono B2.out.size)
      go_simp
      generalize u2.alloc (.cells (madeCells #[.bool false] n) 4) = u3 at *
      have HM1 := HM.out.keep HY.out
      have HW1 := HW.out.keep HY.out
      clear HM HY HW
      have HM := Lib.hid HM1
      have HW := Lib.hid HW1
      clear HM1 HW1
      refine hK5 _ _ ?_
      clear hK5
      go_simp
      refine wpAny_take (i := 9) (v := .agg #[.slice oA no oc, .map (some b), .slice A' n k, .slice iA n ic, .slice (some ⟨u2.heap.size, 0, none⟩) n n]) rfl (by kernel_rfl) (by kernel_rfl) (by kernel_rfl) (fun _ _ _ h => h) (Or.inl ⟨by rfl, fun w => by go_simp⟩) ?_
      go_simp
      refine wpAny_ready (rs := [10]) (by kernel_rfl) (by simp) ?_
      refine AllReady.cons rfl (fun K8 hK8 => ?_) AllReady.nil
      have HK9 := Lib.hid (Kx.next B3.out 48 #[.slice oA no oc, .map (some b), .slice A' n k, .slice iA n ic, .slice (some ⟨u2.heap.size, 0, none⟩) n n])
      have HY9 := Lib.hid (newBox (w := u3) (.cells #[.slice oA no oc, .map (some b), .slice A' n k, .slice iA n ic, .slice (some ⟨u2.heap.size, 0, none⟩) n n] 48))
      have HC9 := Lib.hid (CF.out _ _ b A' k (some ⟨u2.heap.size, 0, none⟩) n HK9.out (HW.out.keep HY9.out) (HG.out.keep HY9.out) hbw (HM.out.keep HY9.out) hk1 hk2 (Nat.le_refl _) (by unfold maxLen; omega))
      clear HK9 HY9 CF
      go_simp
      refine hK8 _ _ ?_
      clear hK8
      go_simp
      refine wpAny_take (i := 11) (v := .pointer (some ⟨u3.heap.size, 0, none⟩)) rfl (by kernel_rfl) (by kernel_rfl) (by kernel_rfl) (fun _ _ _ h => h) (Or.inl ⟨by rfl, fun w => by go_simp⟩) ?_
      go_simp
      refine wpAny_done (by kernel_rfl) ?_ _
      exact END.out _ _ _ _ _ _ _ _ _ _ _ _ _ _ _ _ _ _ HC9.out HA.out
    · have HG := Lib.hid ((Bw.made u1 n).mono B1.out.size)
      have HY := Lib.hid (newBox (w := u1) (.cells (madeCells #[.bool false] n) 4))
      have B2 : Hid (Below w.heap.size w (u1.alloc (.cells (madeCells #[.bool false] n) 4))) := B1.out.trans (HY.out.mono B1.out.size)
      go_simp
      generalize u1.alloc (.cells (madeCells #[.bool false] n) 4) = u2 at *
      have HM1 := HM.out.keep HY.out
      clear HM HY HV
      have HM := Lib.hid HM1
      clear HM1
      refine hK4 _ _ ?_
      clear hK4
      go_simp
      refine wpAny_ready (rs := [4]) (by kernel_rfl) (by simp) ?_
      refine AllReady.cons rfl (fun K5 hK5 => ?_) AllReady.nil
      go_simp
      refine (CC.out u2 B2.out).mono ?_
      rintro e u3 ⟨A', k, rfl, hk1, hk2, hw, hA', hB⟩
      have B3 : Hid (Below w.heap.size w u3) := B2.out.trans (hB.mono B2.out.size)
      have HW := Lib.hid (hw.mono B2.out.size)
      have HA := Lib.hid hA'
      have HX := Lib.hid hB
      clear hw hB hA'
      have HM1 := HM.out.keep HX.out
      have HG1 := HG.out.keep HX.out
      clear HM HX HG
      have HM := Lib.hid HM1
      have HG := Lib.hid HG1
      clear HM1 HG1
      refine hK5 _ _ ?_
      clear hK5
      go_simp
      refine wpAny_take (i := 9) (v := .agg #[.slice oA no oc, .map (some b), .slice A' n k, .slice iA n ic, .slice (some ⟨u1.heap.size, 0, none⟩) n n]) rfl (by kernel_rfl) (by kernel_rfl) (by kernel_rfl) (fun _ _ _ h => h) (Or.inl ⟨by rfl, fun w => by go_simp⟩) ?_
      go_simp
      refine wpAny_ready (rs := [10]) (by kernel_rfl) (by simp) ?_
      refine AllReady.cons rfl (fun K8 hK8 => ?_) AllReady.nil
      have HK9 := Lib.hid (Kx.next B3.out 48 #[.slice oA no oc, .map (some b), .slice A' n k, .slice iA n ic, .slice (some ⟨u1.heap.size, 0, none⟩) n n])
      have HY9 := Lib.hid (newBox (w := u3) (.cells #[.slice oA no oc, .map (some b), .slice A' n k, .slice iA n ic, .slice (some ⟨u1.heap.size, 0, none⟩) n n] 48))
      have HC9 := Lib.hid (CF.out _ _ b A' k (some ⟨u1.heap.size, 0, none⟩) n HK9.out (HW.out.keep HY9.out) (HG.out.keep HY9.out) hbw (HM.out.keep HY9.out) hk1 hk2 (Nat.le_refl _) (by unfold maxLen; omega))
      clear HK9 HY9 CF
      go_simp
      refine hK8 _ _ ?_
      clear hK8
      go_simp
      refine wpAny_take (i := 11) (v := .pointer (some ⟨u3.heap.size, 0, none⟩)) rfl (by kernel_rfl) (by kernel_rfl) (by kernel_rfl) (fun _ _ _ h => h) (Or.inl ⟨by rfl, fun w => by go_simp⟩) ?_
      go_simp
      refine wpAny_done (by kernel_rfl) ?_ _
      exact END.out _ _ _ _ _ _ _ _ _ _ _ _ _ _ _ _ _ _ HC9.out HA.out
  · have HG : Hid (Bw ((w.alloc (.cells (madeCells #[.bool false] n) 4)).drew) w.heap.size (some ⟨w.heap.size, 0, none⟩) n (fun _ => false)) := (Bw.made w.drew n).mono B0.out.size
    have B1 : Hid (Below w.heap.size w ((w.alloc (.cells (madeCells #[.bool false] n) 4)).drew)) := B0.out.trans ((newBox (w := w.drew) (.cells (madeCells #[.bool false] n) 4)).mono B0.out.size)
    go_simp
    generalize (w.alloc (.cells (madeCells #[.bool false] n) 4)).drew = u1 at *
    refine hK2 _ _ ?_
    clear hK2
    go_simp
    refine wpAny_ready (rs := [2]) (by kernel_rfl) (by simp) ?_
    refine AllReady.cons rfl (fun K3 hK3 => ?_) AllReady.nil
    go_simp
    refine (CT.out u1 B1.out).mono ?_
    rintro e u2 ⟨b, rfl, hb, hm, hB⟩
    have B2 : Hid (Below w.heap.size w u2) := B1.out.trans (hB.mono B1.out.size)
    have HM := Lib.hid hm
    have hbw : w.heap.size ≤ b := Nat.le_trans B1.out.size hb
    have HV := Lib.hid hB
    clear hm hB
    have HG1 := HG.out.keep HV.out
    clear HG HV
    have HG := Lib.hid HG1
    clear HG1
    refine hK3 _ _ ?_
    clear hK3
    go_simp
    refine wpAny_ready (rs := [4]) (by kernel_rfl) (by simp) ?_
    refine AllReady.cons rfl (fun K5 hK5 => ?_) AllReady.nil
    go_simp
    refine (CC.out u2 B2.out).mono ?_
    rintro e u3 ⟨A', k, rfl, hk1, hk2, hw, hA', hB⟩
    have B3 : Hid (Below w.heap.size w u3) := B2.out.trans (hB.mono B2.out.size)
    have HW := Lib.hid (hw.mono B2.out.size)
    have HA := Lib.hid hA'
    have HX := Lib.hid hB
    clear hw hB hA'
    have HM1 := HM.out.keep HX.out
    have HG1 := HG.out.keep HX.out
    clear HM HX HG
    have HM := Lib.hid HM1
    have HG := Lib.hid HG1
    clear HM1 HG1
    refine hK5 _ _ ?_
    clear hK5
    go_simp
    refine wpAny_take (i := 9) (v := .agg #[.slice oA no oc, .map (some b), .slice A' n k, .slice iA n ic, .slice (some ⟨w.heap.size, 0, none⟩) n n]) rfl (by kernel_rfl) (by kernel_rfl) (by kernel_rfl) (fun _ _ _ h => h) (Or.inl ⟨by rfl, fun w => by go_simp⟩) ?_
    go_simp
    refine wpAny_ready (rs := [10]) (by kernel_rfl) (by simp) ?_
    refine AllReady.cons rfl (fun K8 hK8 => ?_) AllReady.nil
    have HK9 := Lib.hid (Kx.next B3.out 48 #[.slice oA no oc, .map (some b), .slice A' n k, .slice iA n ic, .slice (some ⟨w.heap.size, 0, none⟩) n n])
    have HY9 := Lib.hid (newBox (w := u3) (.cells #[.slice oA no oc, .map (some b), .slice A' n k, .slice iA n ic, .slice (some ⟨w.heap.size, 0, none⟩) n n] 48))
    have HC9 := Lib.hid (CF.out _ _ b A' k (some ⟨w.heap.size, 0, none⟩) n HK9.out (HW.out.keep HY9.out) (HG.out.keep HY9.out) hbw (HM.out.keep HY9.out) hk1 hk2 (Nat.le_refl _) (by unfold maxLen; omega))
    clear HK9 HY9 CF
    go_simp
    refine hK8 _ _ ?_
    clear hK8
    go_simp
    refine wpAny_take (i := 11) (v := .pointer (some ⟨u3.heap.size, 0, none⟩)) rfl (by kernel_rfl) (by kernel_rfl) (by kernel_rfl) (fun _ _ _ h => h) (Or.inl ⟨by rfl, fun w => by go_simp⟩) ?_
    go_simp
    refine wpAny_done (by kernel_rfl) ?_ _
    exact END.out _ _ _ _ _ _ _ _ _ _ _ _ _ _ _ _ _ _ HC9.out HA.out
end Go.Proofs.Ytoibbnkpfplmbaa
