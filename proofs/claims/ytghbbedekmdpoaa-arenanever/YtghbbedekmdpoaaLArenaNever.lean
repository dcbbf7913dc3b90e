/- The law ArenaNever. -/
import Derived.Test.YtghbbedekmdpoaaArNev
import Derived.Test.YtghbbedekmdpoaaActOpen
import Derived.Deep.DeepCutAuto
namespace Go.Proofs.Ytghbbedekmdpoaa
open Go.RowKit Go.Sort
set_option linter.unusedVariables false
attribute [local go_sem] Try.zeroAr

theorem hid_no {P : Prop} : Hid (false = true → P) := fun h => by cases h
/-- What a round knows of its act. -/
theorem Ac.at {w W : World} {A : Option Addr} {n i : Nat} {F : Nat → Bool} {I K : Nat → Int} (h : Ac w A n F I K) (hb : Below w.heap.size w W) (hi : i < n) : ∃ g o, A = some ⟨g, o, none⟩ ∧ W.cell? ⟨g, o + i * 3, none⟩ = some (.bool (F i)) ∧ W.cell? ⟨g, o + i * 3 + 1, none⟩ = some (.int .i64 (I i)) ∧ W.cell? ⟨g, o + i * 3 + 2, none⟩ = some (.int .i64 (K i)) := by
  obtain ⟨g, o, e, hg, hc⟩ := h (by omega)
  exact ⟨g, o, e, kc hb (hc i hi).1, kc hb (hc i hi).2.1, kc hb (hc i hi).2.2⟩

set_option maxRecDepth 100000 in
set_option maxHeartbeats 16000000 in
theorem walk_ArenaNever (A : Option Addr) (n c : Nat) (F : Nat → Bool) (I K : Nat → Int) (w : World) (hAc : Ac w A n F I K) (hnc : n ≤ c) (hcm : c ≤ maxLen) :
    Calls Try.prog 6 #[.slice A n c] w (Ret (.bool true) w) := by
  unfold maxLen at hcm
  have HAc := Lib.hid hAc
  have HN : Hid (n ≤ 9223372036854775807) := by show _ ≤ _; omega
  clear hAc hcm hnc
  have X1 := Lib.hid ((Kx.new w 25 ar0).row ar0)
  go_enter Try.func6, Try.ntmps6
  go_wp2_with (refine wpList_store_blk (c' := ar0) Try.sizeAr (alloc_blk _ _ _) rfl rfl rfl rfl (ar_size _ _) (ar_size _ _) (ar_one _ _) ?_)
  generalize (w.alloc (.cells ar0 25)).setRow w.heap.size ar0 = w1 at *
  go_loopw [4, 5, 6] (fun s4 s5 s6 wr => ∃ (i : Nat) (T : Nat → Int) (L : Nat → Bool) (G : List Int), i ≤ 150 ∧ i ≤ n ∧ s6 = .int .i64 (i : Int) ∧ s5 = .int .i64 ((cnt L 64 : Nat) : Int) ∧ Hid (Nev T L G i) ∧ Hid (Kx w w.heap.size wr 25 (ar T L)) ∧ Hid (Rn wr w.heap.size s4 G)) (fun _ _ s6 _ => 150 - (intOf s6).toNat)
  case atStart => exact ⟨0, _, _, [], by omega, by omega, rfl, rfl, Nev.start, X1.out, Rn.nil _ _⟩
  case round =>
    obtain ⟨i, T, L, G, hi1, hi2, rfl, rfl, hV, hX, hN⟩ := hrel
    clear X1
    obtain ⟨A4, c4, rfl, m1, m2, m3⟩ := hN.out.is
    have HI4 := Lib.hid m3
    have HM : Hid (G.length ≤ 150) := by have := hV.out.len; show _ ≤ _; omega
    clear m1 m2 m3
    by_cases hend : i < n ∧ i < 150
    · obtain ⟨hin, hi150⟩ := hend
      have hin' : (i : Int) < (n : Int) := by omega
      have hi1' : decide ((i : Int) < 150) = true := by simp; omega
      obtain ⟨g, o, rfl, q0, q1, q2⟩ := HAc.out.at hX.out.below hin
      have hn63 := HN.out
      obtain ⟨m, hm⟩ : ∃ m, G.length = m := ⟨_, rfl⟩
      rw [hm] at HI4 HM
      have hm150 := HM.out
      have HGm := Lib.hid hm
      have hq0 := Lib.hid q0
      rw [hm]
      clear hm q0
      have hw1 : wrap64 ((m : Int) - 1) = (m : Int) - 1 := IntWalk.wrap64_in _ (by omega)
      go_upto_region 9 with fail
      clear hw1
      generalize wrap64 ((m : Int) - 1 - K i) = y at *
      go_cut [56] (fun s56 wx => ∃ b : Bool, s56 = .bool b ∧ Hid (b = true → 0 ≤ y ∧ y < (m : Int)) ∧ wx = wr)
      case first =>
        generalize K i = kk at *
        clear hV hX hN HI4
        by_cases h1 : 0 ≤ kk
        · have h1' : decide (0 ≤ kk) = true := by simp [h1]
          by_cases h2 : 0 ≤ y
          · have h2' : decide (0 ≤ y) = true := by simp [h2]
            by_cases h3 : y < (m : Int)
            · have h3' : decide (y < (m : Int)) = true := by simp [h3]
              go_wp2
              go_meet
              exact ⟨true, rfl, fun _ => ⟨h2, h3⟩, rfl⟩
            · have h3' : decide (y < (m : Int)) = false := by simp; omega
              clear h3
              go_wp2
              go_meet
              exact ⟨false, rfl, hid_no, rfl⟩
          · have h2' : decide (0 ≤ y) = false := by simp; omega
            clear h2
            go_wp2
            go_meet
            exact ⟨false, rfl, hid_no, rfl⟩
        · have h1' : decide (0 ≤ kk) = false := by simp; omega
          clear h1
          go_wp2
          go_meet
          exact ⟨false, rfl, hid_no, rfl⟩
      case rest =>
        obtain ⟨b, rfl, hb, rfl⟩ := hcut
        clear q1 q2
        go_upto_if 56 with fail
        go_cut [7] (fun s7 wx => ∃ x : Int, s7 = .int .i64 x ∧ wx = wc)
        case first =>
          clear hV hX hN
          cases b
          · go_wp2
            go_meet
            exact ⟨_, rfl, rfl⟩
          · obtain ⟨h2, h3⟩ := hb.out rfl
            obtain ⟨g4, o4, rfl, hg4, hc4⟩ := HI4.out (by omega)
            obtain ⟨yn, rfl⟩ : ∃ yn : Nat, y = (yn : Int) := ⟨y.toNat, by omega⟩
            have q3 := hc4 yn (by omega)
            clear hc4 hg4 hb
            go_wp2
            go_meet
            exact ⟨_, rfl, rfl⟩
        case rest =>
          obtain ⟨x, rfl, rfl⟩ := hcut
          have q0 := hq0.out
          rename World => wq
          have hcl := cnt_le L 64
          clear hb HAc HN
          cases hf : F i
          · rw [hf] at q0
            clear hf
            obtain ⟨p, hR⟩ := room_total T L
            by_cases hp : p < 64
            · have C := Lib.hid (fun u => take_yes T L p u hV.out.ok hR hp)
              have hm1 := hR.2.2 hp
              have HV2 := Lib.hid (hV.out.take hp hm1)
              have HC2 : Hid (cnt (setB L p true) 64 = cnt L 64 + 1) := by
                have := cnt_set (L := L) (p := p) true 64 hp
                rw [((may1_iff _ _ _).1 hm1).1] at this
                show _ = _
                simpa using this
              have HI2 := Lib.hid (is_new (T := T) (L := L) hp)
              have HF2 : Hid (∀ k, k < m → (G.getD k 0 == las (setI T p (T p + 1)) p) = false) := by
                intro k hk
                have hk' : k < G.length := by have := HGm.out; omega
                have hz : G.getD k 0 ∈ G := by simp [List.getD, hk']
                exact beq_eq_false_iff_ne.2 (giv_fresh hp (hV.out.giv _ hz))
              clear hR hm1 hV
              generalize las (setI T p (T p + 1)) p = nn at *
              generalize setI T p (T p + 1) = T2 at *
              generalize setB L p true = L2 at *
              go_wp2_with (refine wpList_load_at (loadVar_ar hX.out.blk) rfl rfl rfl ?_)
              refine (C.out wq).mono ?_
              rintro e w2 ⟨rfl, b2⟩
              have X2 := Lib.hid ((hX.out.keep b2).besides (ar T2 L2))
              have Z2 := Lib.hid (Kx.made (hX.out.keep b2).below (ar T2 L2))
              have N2 := Lib.hid ((hN.out.keep b2).keep (below_made w2 (ar T2 L2)))
              have I2 := Lib.hid ((HI4.out.keep b2).keep (below_made w2 (ar T2 L2)))
              clear hX hN HI4 C b2 q0 hq0
              go_wp2_with (refine wpList_store_blk (c' := ar T2 L2) Try.sizeAr (alloc_blk _ _ _) rfl rfl rfl rfl (ar_size _ _) (ar_size _ _) (ar_one _ _) ?_)
              generalize w2.heap.size = g12 at *
              generalize (w2.alloc (.cells ar0 25)).setRow g12 (ar T2 L2) = w3 at *
              go_loop [15] (fun s15 => ∃ k : Nat, k ≤ m ∧ s15 = .int .i64 (k : Int)) (fun s15 => m - (intOf s15).toNat)
              case atStart => exact ⟨0, by omega, rfl⟩
              case round =>
                obtain ⟨k, hk, rfl⟩ := hrel
                by_cases hkm : k < m
                · have hkm' : (k : Int) < (m : Int) := by omega
                  obtain ⟨g4, o4, rfl, hg4, hc4⟩ := I2.out (by omega)
                  have q3 := hc4 k hkm
                  have hne := HF2.out k hkm
                  clear hc4 hg4
                  have q4 : w3.cell? ⟨g4, o4 + k, none⟩ = some (.int .i64 (G.getD k 0)) := q3
                  clear q3
                  generalize G.getD k 0 = zz at *
                  go_wp2
                  go_round
                  case rel => exact ⟨k + 1, by omega, by go_num⟩
                  case measure => simp [intOf]; omega
                · have hkm' : ¬ (k : Int) < (m : Int) := by omega
                  have N3 : Hid (Rn (w3.setRow w.heap.size (ar T2 L2)) w.heap.size (.slice A4 m c4) G) := by
                    have := N2.out.farRow X2.out.blk (by decide) (ar T2 L2)
                    rw [HGm.out] at this
                    exact this
                  have X3 := Lib.hid (X2.out.row (ar T2 L2))
                  have HG6 : Hid (G.length ≤ 1000000) := by have := HGm.out; show _ ≤ _; omega
                  have hs3 := X3.out.below.size
                  clear hs3
                  go_upto_region 32 with (first | (refine wpList_load_at (loadVar_ar Z2.out.blk) rfl rfl rfl ?_) | (refine wpList_store_blk (c' := ar T2 L2) Try.sizeAr (X2.out.blk) rfl rfl rfl rfl (ar_size _ _) (ar_size _ _) (ar_one _ _) ?_))
                  generalize w3.setRow w.heap.size (ar T2 L2) = w4 at *
                  have hs3 := X3.out.below.size
                  go_wp2_with (first | (refine wpList_load_at (loadVar_ar X5.out.blk) rfl rfl rfl ?_) | (at_builtin; refine append_int rfl (.tmp 115) (.tmp 117) rfl w.heap.size G nn _ w4 rfl N3.out rfl HG6.out hs3 ?_; intro v' w5 hN5 hE5; have X5 := Lib.hid (X3.out.extN (by decide) N3.out hE5 (Nat.le_refl _)); have N5 := Lib.hid hN5; clear hE5 hN5))
                  refine (is_any T2 L2 nn w5).mono ?_
                  rw [HV2.out.ok, HI2.out]
                  rintro e w6 ⟨rfl, b6⟩
                  have X6 := Lib.hid (X5.out.keep b6)
                  have N6 := Lib.hid (N5.out.keep b6)
                  clear b6 X5 N5 X3 N3 X2 Z2 N2 I2 hs3
                  go_wp2
                  go_roundw
                  case rel => exact ⟨i + 1, T2, L2, G ++ [nn], by omega, by omega, by go_num, congrArg (Value.int .i64) (by have := HC2.out; first | omega | (rw [IntWalk.wrap64_in _ (by omega)]; omega)), HV2, X6, N6⟩
                  case measure => simp [intOf]; omega
            · have e : p = 64 := by have := hR.1; omega
              subst e
              have hc64 := hV.out.full (by omega) hR
              have HR := Lib.hid hR
              have HC64 := Lib.hid hc64
              rw [hc64]
              clear hp hcl hR hc64
              go_wp2_with (refine wpList_load_at (loadVar_ar hX.out.blk) rfl rfl rfl ?_)
              refine (take_full T L wq hV.out.ok HR.out).mono ?_
              rintro e w2 ⟨rfl, b2⟩
              have X2 := Lib.hid ((hX.out.keep b2).besides ar0)
              have N2 : Hid (Rn ((w2.alloc (.cells ar0 25)).setRow w2.heap.size ar0) w.heap.size (.slice A4 m c4) G) := by
                have := (hN.out.keep b2).keep (below_made w2 ar0)
                rw [HGm.out] at this
                exact this
              clear hX hN HI4 b2 q0 hq0
              go_wp2_with (refine wpList_store_blk (c' := ar0) Try.sizeAr (alloc_blk _ _ _) rfl rfl rfl rfl (ar_size _ _) (ar_size _ _) (ar_one _ _) ?_)
              go_roundw
              case rel => exact ⟨i + 1, T, L, G, by omega, by omega, by go_num, by rw [HC64.out]; rfl, hV.out.next, X2, N2⟩
              case measure => simp [intOf]; omega
          · rw [hf] at q0
            clear hf
            go_wp2_with (refine wpList_load_at (loadVar_ar hX.out.blk) rfl rfl rfl ?_)
            refine (is_any T L x wq).mono ?_
            rw [hV.out.ok, Bool.true_and]
            rintro e w2 ⟨rfl, b2⟩
            have X2 := Lib.hid (hX.out.keep b2)
            have N2 := Lib.hid (hN.out.keep b2)
            clear hX hN HI4 b2 q0 hq0
            cases hI : isA T L x
            · obtain ⟨k, hk0, C⟩ := free_no T L x hV.out.ok hI
              have HC := Lib.hid C
              clear C hI
              go_wp2_with (refine wpList_load_at (loadVar_ar X2.out.blk) rfl rfl rfl ?_)
              refine (HC.out w2).mono ?_
              rintro e w3 ⟨rfl, b3⟩
              have X3 := Lib.hid ((X2.out.keep b3).besides ar0)
              have N3 : Hid (Rn ((w3.alloc (.cells ar0 25)).setRow w3.heap.size ar0) w.heap.size (.slice A4 m c4) G) := by
                have := (N2.out.keep b3).keep (below_made w3 ar0)
                rw [HGm.out] at this
                exact this
              clear X2 N2 b3 HC
              go_wp2_with (refine wpList_store_blk (c' := ar0) Try.sizeAr (alloc_blk _ _ _) rfl rfl rfl rfl (ar_size _ _) (ar_size _ _) (ar_one _ _) ?_)
              go_roundw
              case rel => exact ⟨i + 1, T, L, G, by omega, by omega, by go_num, rfl, hV.out.next, X3, N3⟩
              case measure => simp [intOf]; omega
            · have C := Lib.hid (fun u => free_yes T L x u hV.out.ok hI)
              rw [fre_yes hI] at C
              have HV2 : Hid (Nev T (setB L (plc x) false) G (i + 1)) := hV.out.free
              have HI2 := Lib.hid (is_freed T L x)
              have HC2 : Hid (cnt (setB L (plc x) false) 64 + 1 = cnt L 64) := by
                have := cnt_set (L := L) (p := plc x) false 64 (plc_lt x)
                have hl : L (plc x) = true := by simp only [isA, Bool.and_eq_true] at hI; exact hI.2
                rw [hl] at this
                show _ = _
                simpa using this
              clear hI hV
              generalize setB L (plc x) false = L2 at *
              go_wp2_with (refine wpList_load_at (loadVar_ar X2.out.blk) rfl rfl rfl ?_)
              refine (C.out w2).mono ?_
              rintro e w3 ⟨rfl, b3⟩
              have X3 := Lib.hid ((X2.out.keep b3).besides (ar T L2))
              have Z3 := Lib.hid (Kx.made (X2.out.keep b3).below (ar T L2))
              have N3 := Lib.hid ((N2.out.keep b3).keep (below_made w3 (ar T L2)))
              have X4 := Lib.hid (X3.out.row (ar T L2))
              have N4 : Hid (Rn (((w3.alloc (.cells ar0 25)).setRow w3.heap.size (ar T L2)).setRow w.heap.size (ar T L2)) w.heap.size (.slice A4 m c4) G) := by
                have := N3.out.farRow X3.out.blk (by decide) (ar T L2)
                rw [HGm.out] at this
                exact this
              clear X2 N2 b3 C
              go_wp2_with (first | (refine wpList_load_at (loadVar_ar Z3.out.blk) rfl rfl rfl ?_) | (refine wpList_store_blk (c' := ar T L2) Try.sizeAr (X3.out.blk) rfl rfl rfl rfl (ar_size _ _) (ar_size _ _) (ar_one _ _) ?_) | (refine wpList_store_blk (c' := ar T L2) Try.sizeAr (alloc_blk _ _ _) rfl rfl rfl rfl (ar_size _ _) (ar_size _ _) (ar_one _ _) ?_) | (refine wpList_load_at (loadVar_ar X4.out.blk) rfl rfl rfl ?_))
              generalize ((w3.alloc (.cells ar0 25)).setRow w3.heap.size (ar T L2)).setRow w.heap.size (ar T L2) = w4 at *
              refine (is_any T L2 x w4).mono ?_
              rw [HI2.out, Bool.and_false]
              rintro e w5 ⟨rfl, b5⟩
              have X5 := Lib.hid (X4.out.keep b5)
              have N5 := Lib.hid (N4.out.keep b5)
              clear X3 Z3 N3 X4 N4 b5
              go_wp2
              go_roundw
              case rel => exact ⟨i + 1, T, L2, G, by omega, by omega, by go_num, congrArg (Value.int .i64) (by have := HC2.out; first | omega | (rw [IntWalk.wrap64_in _ (by omega)]; omega)), HV2, X5, N5⟩
              case measure => simp [intOf]; omega
    · have hl : Hid ((lis T L).length = cnt L 64) := by show _ = _; unfold lis; rw [hV.out.ok]; exact nums_cnt T L 64
      have hex : (¬ (i : Int) < (n : Int)) ∨ ((i : Int) < (n : Int) ∧ decide ((i : Int) < 150) = false) := by
        by_cases q : i < n
        · exact .inr ⟨by omega, by simp; omega⟩
        · exact .inl (by omega)
      have hok := Lib.hid hV.out.ok
      have hn63 := HN.out
      clear hend hV hN HI4 HM HAc HN
      generalize cnt L 64 = q at *
      rcases hex with h1 | ⟨h1, h2⟩
      all_goals
        go_wp2_with (refine wpList_load_at (loadVar_ar hX.out.blk) rfl rfl rfl ?_)
        refine (count_any T L _).mono ?_
        rw [hl.out]
        rintro e w2 ⟨rfl, b2⟩
        have X2 := Lib.hid (hX.out.keep b2)
        clear b2 hX
        go_wp2_with (refine wpList_load_g (loadVar_ar X2.out.blk) rfl rfl (by rfl) ?_)
        refine (may_any T L w2).mono ?_
        rw [hok.out]
        rintro e w3 ⟨rfl, b3⟩
        have X3 := Lib.hid (X2.out.keep b3)
        clear b3 X2
        go_wp2_with fail
        refine (awake_any w3).mono ?_
        rintro e w4 ⟨rfl, b4⟩
        have B := Lib.hid (X3.out.keep b4).below
        clear b4 X3
        go_wp2
        go_ret
        exact Ret.mk rfl B.out
end Go.Proofs.Ytghbbedekmdpoaa
