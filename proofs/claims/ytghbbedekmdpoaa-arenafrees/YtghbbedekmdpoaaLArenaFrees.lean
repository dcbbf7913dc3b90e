/- The law ArenaFrees. -/
import Derived.Test.YtghbbedekmdpoaaAr9
namespace Go.Proofs.Ytghbbedekmdpoaa
open Go.RowKit Go.Sort
set_option linter.unusedVariables false
attribute [local go_sem] Try.zeroAr

theorem eql_self12 (T : Nat → Int) (L : Nat → Bool) (w : World) : (binOp .eql 25 (.agg (ar T L)) (.agg (ar T L))).run Try.prog w = .ok (.bool true) w := by
  rw [run_eql, eqA_self]
theorem eql_zero12 (w : World) : (binOp .eql 25 (.agg ar0) (.agg ar0)).run Try.prog w = .ok (.bool true) w := eql_self12 _ _ w

set_option maxRecDepth 100000 in
set_option maxHeartbeats 4000000 in
theorem frees_bad (T : Nat → Int) (L : Nat → Bool) (id : Int) (w : World) (hA : okA T L = false) :
    Calls Try.prog 4 #[.agg (ar T L), .int .i64 id] w (Ret (.bool true) w) := by
  have HA := Lib.hid hA
  clear hA
  have X := Lib.hid (Kx.new w 25 (ar T L))
  go_enter Try.func4, Try.ntmps4
  go_wp2_with (refine wpList_load_at (loadVar_ar X.out.blk) rfl rfl rfl ?_)
  generalize w.alloc (.cells (ar T L) 25) = w1 at *
  refine (free_bad T L id w1 HA.out).mono ?_
  rintro e w2 ⟨rfl, b2⟩
  have X2 := Lib.hid ((X.out.keep b2).besides (ar0))
  have Z2 := Lib.hid (Kx.made (X.out.keep b2).below (ar0))
  have hne : Hid (w2.heap.size ≠ w.heap.size) := by have := (X.out.keep b2).lt; show _ ≠ _; omega
  clear b2 X
  go_wp2_with (first | (refine wpList_store_blk (c' := ar0) Try.sizeAr (alloc_blk _ _ _) rfl rfl rfl rfl (ar_size _ _) (ar_size _ _) (ar_one _ _) ?_) | (refine wpList_load_at (loadVar_ar X2.out.blk) rfl rfl rfl ?_))
  generalize w2.heap.size = g at *
  generalize (w2.alloc (.cells ar0 25)).setRow g (ar0) = w3 at *
  refine (refMay_any T L w3).mono ?_
  rw [HA.out]
  rintro e w4 ⟨rfl, b4⟩
  have X4 := Lib.hid (X2.out.keep b4)
  have Z4 := Lib.hid (Z2.out.keep b4)
  clear b4 X2 Z2
  go_wp2_with (first | (refine wpList_load_at (loadVar_ar Z4.out.blk) rfl rfl rfl ?_) | (refine wpList_cmp eql_zero12 rfl rfl rfl rfl ?_))
  refine (awake_any w4).mono ?_
  rintro e w9 ⟨rfl, b9⟩
  have B := Lib.hid (Z4.out.keep b9).below
  clear b9
  go_wp2
  go_ret
  exact Ret.mk rfl B.out
set_option maxRecDepth 100000 in
set_option maxHeartbeats 4000000 in
theorem frees_none (T : Nat → Int) (L : Nat → Bool) (id : Int) (w : World) (hA : okA T L = true) (hG : giv T id = false) :
    Calls Try.prog 4 #[.agg (ar T L), .int .i64 id] w (Ret (.bool true) w) := by
  have HA := Lib.hid hA
  have HG := Lib.hid hG
  clear hA hG
  have X := Lib.hid (Kx.new w 25 (ar T L))
  go_enter Try.func4, Try.ntmps4
  go_wp2_with (refine wpList_load_at (loadVar_ar X.out.blk) rfl rfl rfl ?_)
  generalize w.alloc (.cells (ar T L) 25) = w1 at *
  refine (free_none T L id w1 HA.out HG.out).mono ?_
  rintro e w2 ⟨rfl, b2⟩
  have X2 := Lib.hid ((X.out.keep b2).besides (ar0))
  have Z2 := Lib.hid (Kx.made (X.out.keep b2).below (ar0))
  have hne : Hid (w2.heap.size ≠ w.heap.size) := by have := (X.out.keep b2).lt; show _ ≠ _; omega
  clear b2 X
  go_wp2_with (first | (refine wpList_store_blk (c' := ar0) Try.sizeAr (alloc_blk _ _ _) rfl rfl rfl rfl (ar_size _ _) (ar_size _ _) (ar_one _ _) ?_) | (refine wpList_load_at (loadVar_ar X2.out.blk) rfl rfl rfl ?_))
  generalize w2.heap.size = g at *
  generalize (w2.alloc (.cells ar0 25)).setRow g (ar0) = w3 at *
  refine (refMay_any T L w3).mono ?_
  rw [HA.out]
  rintro e w4 ⟨rfl, b4⟩
  have X4 := Lib.hid (X2.out.keep b4)
  have Z4 := Lib.hid (Z2.out.keep b4)
  clear b4 X2 Z2
  go_wp2_with fail
  refine (refPlace_any id w4).mono ?_
  rintro e w5 ⟨rfl, b5⟩
  have X5 := Lib.hid (X4.out.keep b5)
  have Z5 := Lib.hid (Z4.out.keep b5)
  clear b5 X4 Z4
  go_wp2_with (refine wpList_load_at (loadVar_ar X5.out.blk) rfl rfl rfl ?_)
  refine (refGiven_any T L id w5 HA.out).mono ?_
  rw [HG.out]
  rintro e w6 ⟨rfl, b6⟩
  have X6 := Lib.hid (X5.out.keep b6)
  have Z6 := Lib.hid (Z5.out.keep b6)
  clear b6 X5 Z5
  go_wp2_with (first | (refine wpList_load_at (loadVar_ar Z6.out.blk) rfl rfl rfl ?_) | (refine wpList_cmp eql_zero12 rfl rfl rfl rfl ?_))
  refine (awake_any w6).mono ?_
  rintro e w9 ⟨rfl, b9⟩
  have B := Lib.hid (Z6.out.keep b9).below
  clear b9
  go_wp2
  go_ret
  exact Ret.mk rfl B.out
set_option maxRecDepth 100000 in
set_option maxHeartbeats 4000000 in
theorem frees_other (T : Nat → Int) (L : Nat → Bool) (id : Int) (w : World) (hA : okA T L = true) (hG : giv T id = true) (hne : ¬ id = las T (plc id)) :
    Calls Try.prog 4 #[.agg (ar T L), .int .i64 id] w (Ret (.bool true) w) := by
  have HA := Lib.hid hA
  have HG := Lib.hid hG
  have HI : Hid (isA T L id = false) := by show _ = _; simp [isA, hne]
  have HN := Lib.hid hne
  clear hA hG hne
  have X := Lib.hid (Kx.new w 25 (ar T L))
  go_enter Try.func4, Try.ntmps4
  go_wp2_with (refine wpList_load_at (loadVar_ar X.out.blk) rfl rfl rfl ?_)
  generalize w.alloc (.cells (ar T L) 25) = w1 at *
  refine (free_stale T L id w1 HA.out HG.out HI.out).mono ?_
  rintro e w2 ⟨rfl, b2⟩
  have X2 := Lib.hid ((X.out.keep b2).besides (ar0))
  have Z2 := Lib.hid (Kx.made (X.out.keep b2).below (ar0))
  have hne : Hid (w2.heap.size ≠ w.heap.size) := by have := (X.out.keep b2).lt; show _ ≠ _; omega
  clear b2 X
  go_wp2_with (first | (refine wpList_store_blk (c' := ar0) Try.sizeAr (alloc_blk _ _ _) rfl rfl rfl rfl (ar_size _ _) (ar_size _ _) (ar_one _ _) ?_) | (refine wpList_load_at (loadVar_ar X2.out.blk) rfl rfl rfl ?_))
  generalize w2.heap.size = g at *
  generalize (w2.alloc (.cells ar0 25)).setRow g (ar0) = w3 at *
  refine (refMay_any T L w3).mono ?_
  rw [HA.out]
  rintro e w4 ⟨rfl, b4⟩
  have X4 := Lib.hid (X2.out.keep b4)
  have Z4 := Lib.hid (Z2.out.keep b4)
  clear b4 X2 Z2
  go_wp2_with fail
  refine (refPlace_any id w4).mono ?_
  rintro e w5 ⟨rfl, b5⟩
  have X5 := Lib.hid (X4.out.keep b5)
  have Z5 := Lib.hid (Z4.out.keep b5)
  clear b5 X4 Z4
  go_wp2_with (refine wpList_load_at (loadVar_ar X5.out.blk) rfl rfl rfl ?_)
  refine (refGiven_any T L id w5 HA.out).mono ?_
  rw [HG.out]
  rintro e w6 ⟨rfl, b6⟩
  have X6 := Lib.hid (X5.out.keep b6)
  have Z6 := Lib.hid (Z5.out.keep b6)
  clear b6 X5 Z5
  have hp := plc_lt id
  have h0 := okA_at HA.out hp
  have HC := Lib.hid (fun u => refLast_any T L (plc id) u hp h0.1 h0.2.1)
  have hlt : ((plc id : Nat) : Int) < 64 := by omega
  have HS := Lib.hid (ar_l T L hp)
  have HB := Lib.hid (ar_setL T L (p := plc id) false hp)
  clear h0 HA HG
  have hno := HN.out
  clear HN HI
  generalize las T (plc id) = s at *
  generalize plc id = p at *
  go_wp2_with (refine wpList_load_at (loadVar_ar X6.out.blk) rfl rfl rfl ?_)
  refine (HC.out w6).mono ?_
  rintro e w7 ⟨rfl, b7⟩
  have X7 := Lib.hid (X6.out.keep b7)
  have Z7 := Lib.hid (Z6.out.keep b7)
  clear b7 X6 Z6 HC
  go_wp2_with (first | (refine wpList_load_at (loadVar_ar Z7.out.blk) rfl rfl rfl ?_) | (refine wpList_cmp eql_zero12 rfl rfl rfl rfl ?_))
  refine (awake_any w7).mono ?_
  rintro e w9 ⟨rfl, b9⟩
  have B := Lib.hid (Z7.out.keep b9).below
  clear b9
  go_wp2
  go_ret
  exact Ret.mk rfl B.out
set_option maxRecDepth 100000 in
set_option maxHeartbeats 4000000 in
theorem frees_gone (T : Nat → Int) (L : Nat → Bool) (id : Int) (w : World) (hA : okA T L = true) (hG : giv T id = true) (he : id = las T (plc id)) (hl : L (plc id) = false) :
    Calls Try.prog 4 #[.agg (ar T L), .int .i64 id] w (Ret (.bool true) w) := by
  have HA := Lib.hid hA
  have HG := Lib.hid hG
  have HI : Hid (isA T L id = false) := by show _ = _; simp [isA, hl]
  have HE := Lib.hid he
  have HL := Lib.hid hl
  clear hA hG he hl
  have X := Lib.hid (Kx.new w 25 (ar T L))
  go_enter Try.func4, Try.ntmps4
  go_wp2_with (refine wpList_load_at (loadVar_ar X.out.blk) rfl rfl rfl ?_)
  generalize w.alloc (.cells (ar T L) 25) = w1 at *
  refine (free_stale T L id w1 HA.out HG.out HI.out).mono ?_
  rintro e w2 ⟨rfl, b2⟩
  have X2 := Lib.hid ((X.out.keep b2).besides (ar0))
  have Z2 := Lib.hid (Kx.made (X.out.keep b2).below (ar0))
  have hne : Hid (w2.heap.size ≠ w.heap.size) := by have := (X.out.keep b2).lt; show _ ≠ _; omega
  clear b2 X
  go_wp2_with (first | (refine wpList_store_blk (c' := ar0) Try.sizeAr (alloc_blk _ _ _) rfl rfl rfl rfl (ar_size _ _) (ar_size _ _) (ar_one _ _) ?_) | (refine wpList_load_at (loadVar_ar X2.out.blk) rfl rfl rfl ?_))
  generalize w2.heap.size = g at *
  generalize (w2.alloc (.cells ar0 25)).setRow g (ar0) = w3 at *
  refine (refMay_any T L w3).mono ?_
  rw [HA.out]
  rintro e w4 ⟨rfl, b4⟩
  have X4 := Lib.hid (X2.out.keep b4)
  have Z4 := Lib.hid (Z2.out.keep b4)
  clear b4 X2 Z2
  go_wp2_with fail
  refine (refPlace_any id w4).mono ?_
  rintro e w5 ⟨rfl, b5⟩
  have X5 := Lib.hid (X4.out.keep b5)
  have Z5 := Lib.hid (Z4.out.keep b5)
  clear b5 X4 Z4
  go_wp2_with (refine wpList_load_at (loadVar_ar X5.out.blk) rfl rfl rfl ?_)
  refine (refGiven_any T L id w5 HA.out).mono ?_
  rw [HG.out]
  rintro e w6 ⟨rfl, b6⟩
  have X6 := Lib.hid (X5.out.keep b6)
  have Z6 := Lib.hid (Z5.out.keep b6)
  clear b6 X5 Z5
  have hp := plc_lt id
  have h0 := okA_at HA.out hp
  have HC := Lib.hid (fun u => refLast_any T L (plc id) u hp h0.1 h0.2.1)
  have hlt : ((plc id : Nat) : Int) < 64 := by omega
  have HS := Lib.hid (ar_l T L hp)
  have HB := Lib.hid (ar_setL T L (p := plc id) false hp)
  clear h0 HA HG
  have he := HE.out
  have hl := HL.out
  clear HE HL HI
  generalize las T (plc id) = s at *
  generalize plc id = p at *
  generalize L p = l at *
  go_wp2_with (refine wpList_load_at (loadVar_ar X6.out.blk) rfl rfl rfl ?_)
  refine (HC.out w6).mono ?_
  rintro e w7 ⟨rfl, b7⟩
  have X7 := Lib.hid (X6.out.keep b7)
  have Z7 := Lib.hid (Z6.out.keep b7)
  clear b7 X6 Z6 HC
  subst he hl
  have c1 := X7.out.cell (64 + p) HS.out
  go_wp2_with (first | (refine wpList_load_at (loadVar_ar Z7.out.blk) rfl rfl rfl ?_) | (refine wpList_cmp eql_zero12 rfl rfl rfl rfl ?_))
  refine (awake_any w7).mono ?_
  rintro e w9 ⟨rfl, b9⟩
  have B := Lib.hid (Z7.out.keep b9).below
  clear b9
  go_wp2
  go_ret
  exact Ret.mk rfl B.out
set_option maxRecDepth 100000 in
set_option maxHeartbeats 4000000 in
theorem frees_yes (T : Nat → Int) (L : Nat → Bool) (id : Int) (w : World) (hA : okA T L = true) (he : id = las T (plc id)) (hl : L (plc id) = true) :
    Calls Try.prog 4 #[.agg (ar T L), .int .i64 id] w (Ret (.bool true) w) := by
  have HA := Lib.hid hA
  have HI : Hid (isA T L id = true) := by show _ = _; unfold isA; rw [hl, decide_eq_true he]; rfl
  have HG := Lib.hid (giv_isA hA HI.out)
  have HE := Lib.hid he
  have HL := Lib.hid hl
  clear hA he hl
  have X := Lib.hid (Kx.new w 25 (ar T L))
  go_enter Try.func4, Try.ntmps4
  go_wp2_with (refine wpList_load_at (loadVar_ar X.out.blk) rfl rfl rfl ?_)
  generalize w.alloc (.cells (ar T L) 25) = w1 at *
  refine (free_yes T L id w1 HA.out HI.out).mono ?_
  rintro e w2 ⟨rfl, b2⟩
  have X2 := Lib.hid ((X.out.keep b2).besides (ar T (fre T L id)))
  have Z2 := Lib.hid (Kx.made (X.out.keep b2).below (ar T (fre T L id)))
  have hne : Hid (w2.heap.size ≠ w.heap.size) := by have := (X.out.keep b2).lt; show _ ≠ _; omega
  clear b2 X
  go_wp2_with (first | (refine wpList_store_blk (c' := ar T (fre T L id)) Try.sizeAr (alloc_blk _ _ _) rfl rfl rfl rfl (ar_size _ _) (ar_size _ _) (ar_one _ _) ?_) | (refine wpList_load_at (loadVar_ar X2.out.blk) rfl rfl rfl ?_))
  generalize w2.heap.size = g at *
  generalize (w2.alloc (.cells ar0 25)).setRow g (ar T (fre T L id)) = w3 at *
  refine (refMay_any T L w3).mono ?_
  rw [HA.out]
  rintro e w4 ⟨rfl, b4⟩
  have X4 := Lib.hid (X2.out.keep b4)
  have Z4 := Lib.hid (Z2.out.keep b4)
  clear b4 X2 Z2
  go_wp2_with fail
  refine (refPlace_any id w4).mono ?_
  rintro e w5 ⟨rfl, b5⟩
  have X5 := Lib.hid (X4.out.keep b5)
  have Z5 := Lib.hid (Z4.out.keep b5)
  clear b5 X4 Z4
  go_wp2_with (refine wpList_load_at (loadVar_ar X5.out.blk) rfl rfl rfl ?_)
  refine (refGiven_any T L id w5 HA.out).mono ?_
  rw [HG.out]
  rintro e w6 ⟨rfl, b6⟩
  have X6 := Lib.hid (X5.out.keep b6)
  have Z6 := Lib.hid (Z5.out.keep b6)
  clear b6 X5 Z5
  have hp := plc_lt id
  have h0 := okA_at HA.out hp
  have HC := Lib.hid (fun u => refLast_any T L (plc id) u hp h0.1 h0.2.1)
  have hlt : ((plc id : Nat) : Int) < 64 := by omega
  have HS := Lib.hid (ar_l T L hp)
  have HB := Lib.hid (ar_setL T L (p := plc id) false hp)
  clear h0 HA HG
  have he := HE.out
  have hl := HL.out
  have HF : Hid (fre T L id = setB L (plc id) false) := fre_yes HI.out
  rw [HF.out] at Z6
  clear HE HL HI HF
  generalize las T (plc id) = s at *
  generalize plc id = p at *
  generalize L p = l at *
  go_wp2_with (refine wpList_load_at (loadVar_ar X6.out.blk) rfl rfl rfl ?_)
  refine (HC.out w6).mono ?_
  rintro e w7 ⟨rfl, b7⟩
  have X7 := Lib.hid (X6.out.keep b7)
  have Z7 := Lib.hid (Z6.out.keep b7)
  clear b7 X6 Z6 HC
  subst he hl
  have c1 := X7.out.cell (64 + p) HS.out
  have f1 := X7.out.free (64 + p)
  have X8 : Hid (Kx w w.heap.size (w7.setCell ⟨w.heap.size, 64 + p, none⟩ (.bool false)) 25 (ar T (setB L p false))) := by
    have := X7.out.set (64 + p) (.bool false)
    rw [HB.out] at this
    exact this
  have Z8 := Lib.hid (Z7.out.far (b := w.heap.size) hne.out (Nat.le_refl _) (64 + p) (.bool false))
  clear X7 Z7 hne
  go_wp2_with (first | (refine wpList_load_at (loadVar_ar X8.out.blk) rfl rfl rfl ?_) | (refine wpList_load_at (loadVar_ar Z8.out.blk) rfl rfl rfl ?_) | (refine wpList_cmp (eql_self12 T (setB L p false)) rfl rfl rfl rfl ?_))
  generalize w7.setCell ⟨w.heap.size, 64 + p, none⟩ (.bool false) = w8 at *
  clear c1 f1
  refine (awake_any w8).mono ?_
  rintro e w9 ⟨rfl, b9⟩
  have B := Lib.hid (X8.out.keep b9).below
  clear b9
  go_wp2
  go_ret
  exact Ret.mk rfl B.out
theorem walk_ArenaFrees (T : Nat → Int) (L : Nat → Bool) (id : Int) (w : World) (hid : (Lit.int .i64 id).wf = true) :
    Calls Try.prog 4 #[.agg (ar T L), .int .i64 id] w (Ret (.bool true) w) := by
  cases h : okA T L
  · exact frees_bad T L id w h
  · cases hg : giv T id
    · exact frees_none T L id w h hg
    · by_cases he : id = las T (plc id)
      · cases hl : L (plc id)
        · exact frees_gone T L id w h hg he hl
        · exact frees_yes T L id w h he hl
      · exact frees_other T L id w h hg he
end Go.Proofs.Ytghbbedekmdpoaa
