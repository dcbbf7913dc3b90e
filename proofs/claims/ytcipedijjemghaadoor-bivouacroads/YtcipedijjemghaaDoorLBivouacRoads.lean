/- The walk of the law BivouacRoads. -/
import Derived.Test.YtcipedijjemghaaDoorRoStart
import Derived.Test.YtcipedijjemghaaDoorRoMath
import Derived.Test.YtcipedijjemghaaDoorRt7
import Derived.Lib.QuietBelow
namespace Go.Proofs.YtcipedijjemghaaDoor
open Go.RowKit Go.Sort Go.Shelf
set_option linter.unusedVariables false
set_option linter.unusedSimpArgs false
attribute [local go_sem] Oper.semAt_some

theorem Tryd.infoU : (Tryd.prog.info? 5).map (fun i => (i.zero, i.size, i.bytes)) = some (some (.int .u8 0), 1, 1) := by kernel_rfl
/-- The two cells of the law's first line. -/
def zf (i : Nat) : Nat := 0
theorem zf_bd (i : Nat) : zf i < 256 := by unfold zf; omega
theorem zf_val : Val ((2 : Nat) : Int) ((1 : Nat) : Int) 0 6 := ⟨by decide, by decide⟩
theorem zf_made (w : World) (o : Obj) : Bs ((w.alloc (.cells (madeCells #[.int .u8 0] 6) 5)).alloc o) (some ⟨w.heap.size, 0, none⟩) 6 zf := by
  intro _
  refine ⟨w.heap.size, 0, rfl, by simp; omega, fun i hi => ?_⟩
  rw [Nat.zero_add, cell_old _ _ _ _ (by simp), cell_new _ _ _ _ _ rfl, ← Array.getElem?_toList, toList_madeCells_one, List.getElem?_replicate, if_pos hi]
  rfl
theorem zf_g0 : gr zf 2 0 0 0 = true := by decide +kernel
theorem zf_g1 : gr zf 2 0 0 1 = true := by decide +kernel
theorem zf_lab {R : Nat → Int} (h : IsLab (Adj 2 2) (gr zf 2 0 0) 2 R) : R 0 = 0 ∧ R 1 = 0 := by
  have h0 := h.free 0 (by omega) zf_g0
  have h1 := h.same 0 1 ⟨by omega, by omega, .inr (.inr (.inl ⟨rfl, by decide⟩))⟩ zf_g0 zf_g1
  omega
theorem zf_j1 {R : Nat → Int} (h : R 0 = 0 ∧ R 1 = 0) : jn R 2 0 1 = true := by simp [jn, h.1, h.2]
theorem two_joined (A : Option Addr) (u : World) (hb : Bs u A 6 zf) : Calls Tryd.prog 21 #[.agg #[.int .i64 2, .int .i64 1, .int .i64 0, .slice A 6 6], .int .i64 0, .int .i64 0, .int .i64 1] u (Ret (.bool true) u) := by
  have hR : IsLab (Adj 2 (2 * 1)) (gr zf 2 0 0) (2 * 1) (lab (Adj 2 (2 * 1)) (gr zf 2 0 0)) := lab_is (fun _ _ h => h.symm)
  have h := joined_in 2 1 0 0 0 1 A 6 6 zf _ u (by simp [maxLen]) hb zf_bd zf_val (by decide) hR
  have e : jn (lab (Adj 2 (2 * 1)) (gr zf 2 0 0)) (2 * 1) 0 1 = true := zf_j1 (zf_lab hR)
  rw [e] at h
  exact h
/-- Whether two cells are joined is whether there is a way. -/
theorem jn_er {wd ht : Nat} {g : Nat → Bool} {a b : Int} (hL : Lnd (wd : Int) (ht : Int) (wd * ht)) : (er13 (wd : Int) (ht : Int) g (wd * ht) a b = 0 ↔ jn (lab (Adj wd (wd * ht)) g) (wd * ht) a b = true) := by
  have hI : IsLab (Adj wd (wd * ht)) g (wd * ht) (lab (Adj wd (wd * ht)) g) := lab_is (fun _ _ h => h.symm)
  rw [er13_zero]
  unfold jn
  rw [decide_eq_true_iff]
  constructor
  · rintro ⟨_, ha, hb, hc⟩
    have e1 : ((a.toNat : Nat) : Int) = a := by omega
    have e2 : ((b.toNat : Nat) : Int) = b := by omega
    have := (joined_iff hL.w1 hI (a := a.toNat) (b := b.toNat) (by omega) (by omega)).2 (by rw [e1, e2]; exact hc)
    exact ⟨ha, hb, this⟩
  · rintro ⟨ha, hb, h3⟩
    have e1 : ((a.toNat : Nat) : Int) = a := by omega
    have e2 : ((b.toNat : Nat) : Int) = b := by omega
    have := (joined_iff hL.w1 hI (a := a.toNat) (b := b.toNat) (by omega) (by omega)).1 h3
    rw [e1, e2] at this
    exact ⟨hL, ha, hb, this⟩

set_option maxRecDepth 100000 in
set_option maxHeartbeats 16000000 in
theorem walk_BivouacRoads (W H T : Int) (A : Option Addr) (n c : Nat) (p : Nat → Nat) (cl i j : Int) (w : World) (hb : Bs w A n p) (hp : ∀ i, p i < 256) (hn : n ≤ c) (hc : c ≤ maxLen) (hT : Tst w) :
    Calls Tryd.prog 8 #[.agg #[.int .i64 W, .int .i64 H, .int .i64 T, .slice A n c, .int .i64 cl, .int .i64 i, .int .i64 j]] w (Ret (.bool true) w) := by
  have HT := Lib.hid hT
  clear hT
  have HF : Hid (∀ u, Below w.heap.size w u → Calls Tryd.prog 20 #[.agg #[.int .i64 W, .int .i64 H, .int .i64 T, .slice A n c]] u (Ret (.agg #[.int .i64 W, .int .i64 H, .int .i64 T, .slice A (fewN n) c]) u)) :=
    fun u hu => fewT_any W H T A n c p u (hb.keep hu) hn hc
  have hN := (fewN_le n).2
  have hM : fewN n ≤ maxLen := by unfold maxLen; omega
  have HS1 := Lib.hid (fun (X : World) => Start.behind (w := w) (X := X) (W := W) (H := H) (T := T) (c := c) hb (fewN_le n).1)
  have HS2 := Lib.hid (fun (X : World) (g : Nat) (a b e d : Value) => Start.ahead (w := w) (X := X) (g := g) (a := a) (b := b) (e := e) (d := d) (W := W) (H := H) (T := T) (c := c) hb (fewN_le n).1)
  have Y0 := Lib.hid (B7.new w (.int .i64 W) (.int .i64 H) (.int .i64 T) (.slice A n c) (.int .i64 cl) (.int .i64 i) (.int .i64 j) 47)
  clear hb
  generalize fewN n = N at *
  go_enter Tryd.func8, Tryd.ntmps8
  go_wp2_with fail
  generalize w.alloc (.cells #[.int .i64 W, .int .i64 H, .int .i64 T, .slice A n c, .int .i64 cl, .int .i64 i, .int .i64 j] 47) = w2 at *
  obtain ⟨c0, c1, c2, c3, c4, c5, c6, -⟩ := Y0.out
  have hne : w.heap.size ≠ w2.heap.size := by have := World.block_lt_of_cell? w2 _ c0; simp at this; omega
  go_cut [3, 4, 5, 6] (fun s3 s4 s5 s6 wx => ∃ g : Nat, s3 = .pointer (some ⟨g, 0, none⟩) ∧ s4 = .int .i64 cl ∧ s5 = .int .i64 i ∧ s6 = .int .i64 j ∧ Start w wx g W H T A N c p)
  case first =>
    go_region_held3 (fun w' => w'.cell? ⟨w.heap.size, 0, none⟩ = some (.int .i64 W) ∧ w'.cell? ⟨w.heap.size, 1, none⟩ = some (.int .i64 H) ∧ w'.cell? ⟨w.heap.size, 2, none⟩ = some (.int .i64 T) ∧ w'.cell? ⟨w.heap.size, 3, none⟩ = some (.slice A n c) ∧ w'.cell? ⟨w.heap.size, 4, none⟩ = some (.int .i64 cl) ∧ w'.cell? ⟨w.heap.size, 5, none⟩ = some (.int .i64 i) ∧ w'.cell? ⟨w.heap.size, 6, none⟩ = some (.int .i64 j))
      (go_keep)
      (first
        | (go_at_call 20; ((with_reducible refine (HF.out w2.drew Y0.out.below.drew).mono ?_)); rintro e w3 ⟨rfl, b3⟩; have YS := Lib.hid (Y0.out.drew.keep b3); clear b3; obtain ⟨c0, c1, c2, c3, c4, c5, c6, -⟩ := YS.out)
        | (go_at_call 20; ((with_reducible refine (HF.out (w2.alloc (.cells #[.int .i64 0, .int .i64 0, .int .i64 0, .slice none 0 0] 45)).drew (Y0.out.below.alloc Y0.out.below.size _).drew).mono ?_)); rintro e w3 ⟨rfl, b3⟩; have YS := Lib.hid ((Y0.out.keep ((Below.refl _ _).alloc (Nat.le_refl _) _)).drew.keep b3); have XN := Lib.hid ((Bx.next Y0.out.below (.int .i64 0) (.int .i64 0) (.int .i64 0) (.slice none 0 0) 45).drew.keep b3); clear b3; obtain ⟨c0, c1, c2, c3, c4, c5, c6, -⟩ := YS.out; obtain ⟨_, d0, d1, d2, d3, g0, g1, g2, g3, _⟩ := XN.out; have m0 := fun x y z u => four_far (x := x) (y := y) (z := z) (u := u) hne c0; have m1 := fun x y z u => four_far (x := x) (y := y) (z := z) (u := u) hne c1; have m2 := fun x y z u => four_far (x := x) (y := y) (z := z) (u := u) hne c2; have m3 := fun x y z u => four_far (x := x) (y := y) (z := z) (u := u) hne c3; have m4 := fun x y z u => four_far (x := x) (y := y) (z := z) (u := u) hne c4; have m5 := fun x y z u => four_far (x := x) (y := y) (z := z) (u := u) hne c5; have m6 := fun x y z u => four_far (x := x) (y := y) (z := z) (u := u) hne c6))
    all_goals (go_wp2_with fail; go_meet)
    all_goals (first | exact ⟨w3.heap.size, rfl, rfl, rfl, rfl, HS1.out _ YS.out.below⟩ | exact ⟨w2.heap.size, rfl, rfl, rfl, rfl, HS2.out _ _ _ _ _ _ XN.out⟩)
  case rest =>
    obtain ⟨g0, rfl, rfl, rfl, rfl, hS⟩ := hcut
    clear HF HS1 HS2 Y0 c0 c1 c2 c3 c4 c5 c6 hne
    have S1 := Lib.hid hS
    clear hS
    rename World => wx
    have hmk : ∀ w : World, (Instr.makeSlice 43 (.int .i64 6) (.int .i64 6)).run Tryd.prog w = .ok (.slice (some ⟨w.heap.size, 0, none⟩) 6 6) (w.alloc (.cells (madeCells #[.int .u8 0] 6) 5)) :=
      run_make_row' (P := Tryd.prog) 43 5 (.int .u8 0) 1 Tryd.underlying43 Tryd.infoU rfl .i64 .i64 6 (by omega) (by omega)
    have HB0 := Lib.hid (zf_made wx)
    have SX := Lib.hid (fun o1 o2 => S1.out.keep (((Below.refl wx.heap.size wx).alloc (Nat.le_refl _) o1).alloc (by simp) o2))
    obtain ⟨⟨-, c0, c1, c2, c3, -, -, -, -, -⟩, -⟩ := S1.out
    clear S1
    go_wp2_with fail
    refine (two_joined _ _ (HB0.out _)).mono ?_
    rintro e w1 ⟨rfl, b1⟩
    have S2 := Lib.hid ((SX.out _ _).keep b1)
    clear b1 SX HB0 c0 c1 c2 c3 hmk
    by_cases hv : Val W H T N ∧ Cls cl
    · obtain ⟨hv, hk⟩ := hv
      obtain ⟨wd, ht, rfl, rfl⟩ := hv.nat
      obtain ⟨hW1, hW2, hH1, hH2, hT, hT2⟩ := hv.s
      have hA : wd * ht ≤ 4096 := land_bd (by omega) (by omega)
      have C1 := Lib.hid (fun u hb => grid_in wd ht T cl A N c p u hM hb hp hv hk)
      have CJ := Lib.hid (fun u hb => joined_in wd ht T cl i j A N c p (lab (Adj wd (wd * ht)) (gr p wd T cl)) u hM hb hp hv hk (lab_is (fun _ _ h => h.symm)))
      have CO : Hid (∀ (v : Int) u, isL (wd : Int) (ht : Int) (gr p wd T cl) v → Bs u A N p → Calls Tryd.prog 23 #[.agg #[.int .i64 (wd : Int), .int .i64 (ht : Int), .int .i64 T, .slice A N c], .int .i64 cl, .int .i64 (v % (wd : Int)), .int .i64 (v / (wd : Int))] u (Ret (.tuple #[.bool true, .int .i64 0]) u)) := by
        intro v u hi hu
        obtain ⟨i0, i1, j0, j1⟩ := cell13 hW1 hW2 hH2 hi.1 hi.2.1
        have h := open_in wd ht T cl (v % (wd : Int)) (v / (wd : Int)) A N c p u hM hu hp hv hk i0 i1 j0 j1
        have e : opAt p (wd : Int) T cl (v % (wd : Int)) (v / (wd : Int)) = true := by
          have h1 := (nat_of hi).2.1
          unfold gr at h1
          rw [Int.natCast_emod, Int.natCast_ediv, (nat_of hi).2.2] at h1
          exact h1
        rw [e] at h
        exact h
      have HLN : Hid (Lnd (wd : Int) (ht : Int) (wd * ht)) := ⟨hW1, hW2, hH1, hH2, Int.natCast_mul _ _⟩
      obtain ⟨M, eM⟩ : ∃ M, wd * ht = M := ⟨_, rfl⟩
      have JE := Lib.hid (jn_er (g := gr p wd T cl) (a := i) (b := j) HLN.out)
      have EM : Hid (((wd : Int) * (ht : Int)) = (M : Int)) := by show _ = _; rw [← eM, Int.natCast_mul]
      rw [eM] at C1 CJ HLN hA JE
      clear hv hk hp eM
      generalize gr p wd T cl = g at *
      generalize jn (lab (Adj wd M) g) M i j = J at *
      obtain ⟨⟨-, c0, c1, c2, c3, -, -, -, -, -⟩, -⟩ := S2.out
      go_wp2_with fail
      refine (C1.out _ S2.out.bs).mono ?_
      rintro e w3 ⟨A1, K1, rfl, k1, k2, hV, b1⟩
      have S3 := Lib.hid (S2.out.keep b1)
      have HV := Lib.hid hV
      clear hV
      clear b1 S2 c0 c1 c2 c3
      by_cases h400 : 400 < M
      · have hm4 : decide (400 < (M : Int)) = true := decide_eq_true (by omega)
        clear h400
        go_wp2
        go_ret
        exact Ret.mk rfl S3.out.bx.below
      · have hm4 : decide (400 < (M : Int)) = false := decide_eq_false (by omega)
        have LI : Hid (Lin w3 A1 M K1 g) := ⟨fun _ => by obtain ⟨b, e, h1, h2⟩ := HV.out; exact ⟨b, 0, e, h1, fun i hi => by rw [Nat.zero_add]; exact h2 i hi⟩, k1, k2, HT.out.keep S3.out.bx.below⟩
        have CC := Lib.hid (cost13_any (wd : Int) (ht : Int) g M K1 i j A1 w3 LI.out)
        have CW := Lib.hid (fun u hb => way13_any2 (wd : Int) (ht : Int) g M K1 i j 1048576 A1 u (LI.out.keep hb))
        clear h400 HV C1 LI HT
        obtain ⟨⟨-, c0, c1, c2, c3, -, -, -, -, -⟩, -⟩ := S3.out
        go_wp2_with fail
        refine (CC.out).mono ?_
        rintro e w4 ⟨⟨rfl, b1⟩, v1, v2⟩
        have S4 := Lib.hid (S3.out.keep b1)
        have CW4 := Lib.hid (CW.out _ b1)
        clear b1 S3 c0 c1 c2 c3
        clear CC CW
        by_cases hE : er13 (wd : Int) (ht : Int) g M i j = 0
        · have hJ : J = true := JE.out.1 hE
          subst hJ
          have HV : Hid (vl13 (wd : Int) (ht : Int) g M i j = cst (wd : Int) (ht : Int) g j i) := by show _ = _; unfold vl13; rw [if_pos hE]
          rw [HV.out] at v1 v2 ⊢
          have HE := Lib.hid hE
          have HC := Lib.hid (er13_zero.1 hE).2.2.2
          rw [hE]
          clear hE JE HV
          have hv0 : decide (cst (wd : Int) (ht : Int) g j i < 0) = false := decide_eq_false (by omega)
          obtain ⟨cv, hcv⟩ : ∃ z, cst (wd : Int) (ht : Int) g j i = z := ⟨_, rfl⟩
          have HCV := Lib.hid hcv
          rw [hcv] at v1 v2 hv0 ⊢
          clear hcv
          obtain ⟨⟨-, c0, c1, c2, c3, -, -, -, -, -⟩, -⟩ := S4.out
          go_wp2_with fail
          refine (CW4.out).mono ?_
          rintro e w5 ⟨b1, hw⟩
          have S5 := Lib.hid (S4.out.keep b1)
          clear b1 S4 c0 c1 c2 c3
          clear CW4
          rcases hw with ⟨h1, rfl⟩ | ⟨_, h2, rfl⟩ | ⟨_, _, A2, kz, l, rfl, h3, h4, h5, h6, h7⟩
          · exact absurd HE.out h1
          · exact absurd h2 (by rw [HCV.out]; omega)
          · obtain ⟨q1, q2⟩ := pth_cells ((cst_wk HC.out).ends.2) h7
            have HQ := Lib.hid q2
            have HI := Lib.hid h6
            clear q2 h6 h7
            generalize hl : (fun i => l.getD i 0) = va at *
            have HQ2 : Hid (∀ q, q < l.length → isL (wd : Int) (ht : Int) g (va q)) := by intro q hq; rw [← hl]; exact HQ.out q hq
            clear HQ hl
            generalize l.length = L at *
            have hL0 : decide (0 < (L : Int)) = true := decide_eq_true (by omega)
            obtain ⟨⟨-, c0, c1, c2, c3, -, -, -, -, -⟩, -⟩ := S5.out
            go_wp2_with fail
            refine (CJ.out _ S5.out.bs).mono ?_
            rintro e w6 ⟨rfl, b1⟩
            have S6 := Lib.hid (S5.out.keep b1)
            have HI6 := Lib.hid (HI.out.keep b1)
            clear HI
            clear b1 S5 c0 c1 c2 c3
            clear CJ
            go_wp2
            go_loopw [14] (fun s14 wr => ∃ q : Nat, s14 = .int .i64 (q : Int) ∧ q ≤ L ∧ Hid (RowKit.Below w6.heap.size w6 wr)) (fun s14 _ => L - (intOf s14).toNat)
            case atStart => exact ⟨0, rfl, by omega, Below.refl _ _⟩
            case round =>
              obtain ⟨q, rfl, hq, hB⟩ := hrel
              by_cases hqL : q < L
              · have hqI : decide ((q : Int) < (L : Int)) = true := decide_eq_true (by omega)
                have hqJ : (q : Int) < (L : Int) := by omega
                have S7 := Lib.hid (S6.out.keep hB.out)
                obtain ⟨gp, op, rfl, hgp, hcl⟩ := HI6.out (by omega)
                have ew := kc hB.out (hcl q hqL)
                have hi := HQ2.out q hqL
                obtain ⟨z, hz⟩ : ∃ z, va q = z := ⟨_, rfl⟩
                rw [hz] at ew hi
                clear hz hcl
                have HPC := Lib.hid (fun d os => Calls.regrown_of (d := d) (os := os) (CO.out z (Go.Sort.grow (redrawn wr d) os) hi (S7.out.bs.keep (below_regrown wr d os))))
                obtain ⟨⟨-, c0, c1, c2, c3, -, -, -, -, -⟩, -⟩ := S7.out
                have hz0 := hi.1
                obtain ⟨i0, i1, j0, j1⟩ := cell13 HLN.out.w1 HLN.out.w2 HLN.out.h2 hi.1 hi.2.1
                obtain ⟨t1, t2⟩ := quo13 (W := (wd : Int)) hi.1
                have x6 : wrap64 (z % (wd : Int)) = z % (wd : Int) := IntWalk.wrap64_in _ (by omega)
                have x7 : wrap64 (z / (wd : Int)) = z / (wd : Int) := IntWalk.wrap64_in _ (by omega)
                have hWz : ((wd : Int) == 0) = false := by simp; omega
                have hWz2 : ¬ (wd : Int) = 0 := by omega
                clear hi S7
                go_wp2
                have k0 := cell_regrown c0
                have k1 := cell_regrown c1
                have k2 := cell_regrown c2
                have k3 := cell_regrown c3
                have k4 := cell_regrown ew
                refine wp_region_quiet_below (by kernel_rfl) (by kernel_rfl) ?_
                repeat (go_big_quiet_step (with_reducible exact HPC.out _ _))
                refine wpQuiet_nil ?_
                intro _ hw'
                obtain ⟨⟨dq, osq⟩, hw''⟩ := hw'
                subst hw''
                have hb4 := below_regrown wr dq osq
                have B8 := Lib.hid (hB.out.trans (hb4.mono hB.out.size))
                clear k0 k1 k2 k3 k4 hb4 c0 c1 c2 c3 ew
                generalize Go.Sort.grow (redrawn wr dq) osq = w8 at *
                clear HPC
                go_wp2
                go_roundw
                case rel => exact ⟨q + 1, by go_num, by omega, B8.out⟩
                case measure => simp [intOf]; omega
              · have hqI : decide ((q : Int) < (L : Int)) = false := decide_eq_false (by omega)
                have hqJ : ¬ (q : Int) < (L : Int) := by omega
                have S7 := Lib.hid (S6.out.keep hB.out)
                clear hqL
                go_wp2
                go_ret
                exact Ret.mk rfl S7.out.bx.below
        · have hJ : J = false := by cases J with | false => rfl | true => exact absurd (JE.out.2 rfl) hE
          subst hJ
          have HV : Hid (vl13 (wd : Int) (ht : Int) g M i j = 0) := by show _ = _; unfold vl13; rw [if_neg hE]
          rw [HV.out]
          have HE := Lib.hid hE
          clear hE JE HV v1 v2
          obtain ⟨ev, hev⟩ : ∃ z, er13 (wd : Int) (ht : Int) g M i j = z := ⟨_, rfl⟩
          have HEV := Lib.hid hev
          rw [hev] at HE ⊢
          have hez : (ev == 0) = false := by simpa using HE.out
          have hnn : (ev != ev) = false := by simp
          clear hev
          obtain ⟨⟨-, c0, c1, c2, c3, -, -, -, -, -⟩, -⟩ := S4.out
          go_wp2_with fail
          refine (CW4.out).mono ?_
          rintro e w5 ⟨b1, hw⟩
          have S5 := Lib.hid (S4.out.keep b1)
          clear b1 S4 c0 c1 c2 c3
          clear CW4
          rcases hw with ⟨h1, rfl⟩ | ⟨h1, h2, rfl⟩ | ⟨h1, _, A2, kz, l, rfl, h3, h4, h5, h6, h7⟩
          · clear h1
            rw [HEV.out]
            obtain ⟨⟨-, c0, c1, c2, c3, -, -, -, -, -⟩, -⟩ := S5.out
            go_wp2_with fail
            refine (CJ.out _ S5.out.bs).mono ?_
            rintro e w6 ⟨rfl, b1⟩
            have S6 := Lib.hid (S5.out.keep b1)
            clear b1 S5 c0 c1 c2 c3
            clear CJ
            go_wp2
            go_loopw [14] (fun s14 wr => s14 = .int .i64 0 ∧ Hid (RowKit.Below w6.heap.size w6 wr)) (fun s14 _ => 0)
            case atStart => exact ⟨rfl, Below.refl _ _⟩
            case round =>
              obtain ⟨rfl, hB⟩ := hrel
              have S7 := Lib.hid (S6.out.keep hB.out)
              go_wp2
              go_ret
              exact Ret.mk rfl S7.out.bx.below
          · exact absurd (HEV.out.symm.trans h1) HE.out
          · exact absurd (HEV.out.symm.trans h1) HE.out
    · have C1 := Lib.hid (fun u => grid_bad W H T cl A N c u hM hv)
      have CJ := Lib.hid (fun u => joined_bad W H T cl i j A N c u hM hv)
      clear hv hp
      obtain ⟨⟨-, c0, c1, c2, c3, -, -, -, -, -⟩, -⟩ := S2.out
      go_wp2_with fail
      refine (C1.out _).mono ?_
      rintro e w3 ⟨rfl, b1⟩
      have S3 := Lib.hid (S2.out.keep b1)
      clear b1 S2 c0 c1 c2 c3
      obtain ⟨⟨-, c0, c1, c2, c3, -, -, -, -, -⟩, -⟩ := S3.out
      go_wp2_with fail
      refine (CJ.out _).mono ?_
      rintro e w4 ⟨rfl, b1⟩
      have S4 := Lib.hid (S3.out.keep b1)
      clear b1 S3 c0 c1 c2 c3
      go_wp2
      go_ret
      exact Ret.mk rfl S4.out.bx.below
end Go.Proofs.YtcipedijjemghaaDoor
