/- The reference's Mul and Floor (layer 2): a product; a number by One, rounded down, if it fits. -/
import Derived.Test.YtckeplbmkjoiaaaDoorBig8
import Derived.Test.YtckeplbmkjoiaaaDoorBig6
import Derived.Test.YtckeplbmkjoiaaaDoorRefInt
namespace Go.Proofs.YtckeplbmkjoiaaaDoor
open Go.RowKit
set_option linter.unusedVariables false

/-! ### Floor -/
theorem ints_set (o : List Nat) (k q : Nat) : (ints o).set k (.int .i64 (q : Int)) = ints (o.set k q) := by
  unfold ints
  rw [List.map_set]
theorem made_ints (n : Nat) : (madeCells (Value.int .i64 0).cells (n * 1)).toList = ints (List.replicate n 0) := by
  have e : madeCells (Value.int .i64 0).cells (n * 1) = madeCells #[Value.int .i64 0] n := by rw [Nat.mul_one]; rfl
  rw [e, toList_madeCells_one]
  simp [ints]

/-- Behind the digits from k on. -/
structure FloorR (ds o : List Nat) (k r : Nat) : Prop where
  len : o.length = ds.length
  dok : Dok o
  rest : r < 65536
  sum : val (ds.drop k) = 65536 * val (o.drop k) + r
theorem FloorR.start (ds : List Nat) : FloorR ds (List.replicate ds.length 0) ds.length 0 := by
  refine ⟨by simp, fun i => ?_, by omega, ?_⟩
  · by_cases h : i < ds.length
    · simp [dn, h]
    · rw [dn_past (by simp; omega)]; omega
  · rw [List.drop_eq_nil_of_le (Nat.le_refl _), List.drop_eq_nil_of_le (by simp)]
    rfl
theorem FloorR.step {ds o : List Nat} {k r : Nat} (h : FloorR ds o (k + 1) r) (hd : Dok ds) (hk : k < ds.length) :
    FloorR ds (o.set k ((r * 1000 + dn ds k) / 65536)) k ((r * 1000 + dn ds k) % 65536) ∧ (r * 1000 + dn ds k) / 65536 < 1000 := by
  have d1 := hd k
  have hr := h.rest
  have hq : (r * 1000 + dn ds k) / 65536 < 1000 := by omega
  refine ⟨⟨by simp [h.len], fun i => ?_, Nat.mod_lt _ (by omega), ?_⟩, hq⟩
  · by_cases hi : i = k
    · subst hi
      have : i < o.length := by rw [h.len]; exact hk
      simp [dn, this]
      exact hq
    · have := h.dok i
      unfold dn at *
      simpa [List.getElem?_set, Ne.symm hi] using this
  · have e1 : (o.set k ((r * 1000 + dn ds k) / 65536)).drop k = ((r * 1000 + dn ds k) / 65536) :: o.drop (k + 1) := by
      have hl : k < (o.set k ((r * 1000 + dn ds k) / 65536)).length := by simp [h.len, hk]
      rw [List.drop_eq_getElem_cons hl, List.drop_set_of_lt (by omega)]
      simp
    rw [e1, val_drop, h.sum]
    simp only [val]
    omega
theorem floor_div {z : Int} {ds o : List Nat} {r : Nat} (h : FloorR ds o 0 r) (hz : val ds = z.natAbs) :
    (¬ z < 0 → ofSign false (val o) = z / 65536) ∧ (z < 0 → r = 0 → ofSign true (val o) = z / 65536) ∧ (z < 0 → 0 < r → ofSign true (val o) - 1 = z / 65536) := by
  have hs := h.sum
  have hr := h.rest
  simp only [List.drop_zero] at hs
  unfold ofSign
  refine ⟨fun h1 => ?_, fun h1 h2 => ?_, fun h1 h2 => ?_⟩
  · rw [if_neg (by simp)]; omega
  · rw [if_pos rfl]; omega
  · rw [if_pos rfl]; omega

set_option maxHeartbeats 4000000 in
theorem refFloor_any (v : Value) (z : Int) (w : World) (hv : BigIs w v z) (hz : Small z) :
    Calls Tryd.prog 36 #[v] w (Ret (.tuple #[.int .i64 (rV (z / 65536)), .bool (decide (Fit (z / 65536)))]) w) := by
  obtain ⟨A, ca, ds, rfl, hat⟩ := hv
  have HA := Lib.hid hat
  have hl := hat.few hz
  have SZ := Lib.hid hz
  have HNG : Hid (decide (z < 0) = decide (z < 0)) := rfl
  generalize hneg : decide (z < 0) = neg at HNG ⊢
  have HNE := Lib.hid hneg
  clear hat hz HNG hneg
  have HF0 := Lib.hid (FloorR.start ds)
  generalize en : ds.length = n at hl HF0 ⊢
  have HN := Lib.hid en
  clear en
  obtain ⟨i0, hi, hz0, hz1, hz2⟩ := info_parts Tryd.infoInt
  have HX := Lib.hid (Box1.mk1 w neg (.slice A n ca) 59)
  go_enter Tryd.func36, Tryd.ntmps36
  go_wp2_with (at_make; refine wpList_make_full _ rfl (.tmp 11) (.tmp 11) 57 rfl (w.heap.size + 1) 3 i0 (.int .i64 0) 1 Tryd.underlying57 hi hz0 hz1 .i64 .i64 _ _ n rfl rfl rfl rfl (by rw [hz2]; omega) (by unfold maxLen; omega) (by simp) ?_; intro w1 hown hg; have HB1 : Hid (Below (w.alloc (Obj.cells #[Value.bool neg, Value.slice A n ca] 59)).heap.size (w.alloc (Obj.cells #[Value.bool neg, Value.slice A n ca] 59)) w1) := (Below.refl _ _).grown hg (Nat.le_refl _) (by simp); have c0 := kcB HB1.out HX.out.c0; have c1 := kcB HB1.out HX.out.c1; rw [made_ints] at hown; have HO := Lib.hid hown; clear hown hg)
  have HX1 := Lib.hid (HX.out.keep HB1.out)
  have HROW : Hid (Row w1 A ds) := HA.out.row.keep HX1.out.below
  have HO1 : Hid (w1.ownsRow (w.heap.size + 1) 3 1 (.slice (some ⟨w.heap.size + 1, 0, none⟩) n n) n (ints (List.replicate n 0))) := by
    have := HO.out
    rw [size_alloc] at this
    exact this
  have HB2 : Hid (Below (w.heap.size + 1) w1 w1) := Below.refl _ _
  have hs1 : w.heap.size + 1 ≤ w1.heap.size := by have := HB1.out.size; simp at this; omega
  clear HO HB1 HX hi hz0 hz1 hz2 i0
  go_loopw [5, 6] (fun t i wr => ∃ (k r : Nat) (o : List Nat), k ≤ n ∧ i = .int .i64 ((k : Int) - 1) ∧ t = .int .i64 (r : Int) ∧ r < 65536 ∧ Hid (FloorR ds o k r) ∧ Hid (wr.ownsRow (w.heap.size + 1) 3 1 (.slice (some ⟨w.heap.size + 1, 0, none⟩) n n) n (ints o)) ∧ Hid (Below (w.heap.size + 1) w1 wr)) (fun _ i _ => (intOf i + 1).toNat)
  case atStart => exact ⟨n, 0, List.replicate n 0, Nat.le_refl _, by go_num, rfl, by omega, HF0, HO1, HB2⟩
  case round =>
    clear HF0 HO1 HB2 c0 c1
    obtain ⟨k, r, o, hk, rfl, rfl, hr, HF, HO, HB⟩ := hrel
    have c0 : wr.cell? ⟨w.heap.size, 0, none⟩ = some (.bool neg) := (HB.out.cell (p := ⟨w.heap.size, 0, none⟩) (Nat.lt_succ_self _)).trans HX1.out.c0
    have c1 : wr.cell? ⟨w.heap.size, 1, none⟩ = some (.slice A n ca) := (HB.out.cell (p := ⟨w.heap.size, 1, none⟩) (Nat.lt_succ_self _)).trans HX1.out.c1
    rcases k with _ | k
    · have e0 : (((0 : Nat) : Int) - 1) = -1 := by omega
      rw [e0]
      clear e0
      have hown := HO.out
      have hlen : o.length = n := by rw [HF.out.len, HN.out]
      have HROWo : Hid (Row wr (some ⟨w.heap.size + 1, 0, none⟩) o) := by
        have h2 := hown
        rw [← hlen] at h2
        obtain ⟨A', c', e', h', _, _⟩ := Row.own h2
        injection e' with e1 e2 e3
        rw [e1]
        exact h'
      have HLO := Lib.hid hlen
      have HDO : Hid (Dok o) := HF.out.dok
      have hwr : w.heap.size + 1 < wr.heap.size ∨ n = 0 := by
        rcases Nat.eq_zero_or_pos n with h | h
        · exact .inr h
        · left
          obtain ⟨g, e, hg, _⟩ := HROWo.out (by omega)
          injection e with e
          injection e with e
          omega
      have HBw : Hid (Below w.heap.size w wr) := HX1.out.below.trans (HB.out.mono (by omega))
      obtain ⟨q1, q2, q3⟩ := floor_div HF.out HA.out.is
      have Q1 := Lib.hid q1
      have Q2 := Lib.hid q2
      have Q3 := Lib.hid q3
      have SO : Hid (Small (ofSign neg (val o)) ∧ Small (z / 65536)) := by
        have h1 := HF.out.sum
        have h2 := HA.out.is
        have h3 := SZ.out
        simp only [List.drop_zero] at h1
        unfold Small at *
        rw [ofSign_abs]
        constructor
        · omega
        · omega
      clear hown hlen q1 q2 q3 HO HF hwr
      go_wp2_with fail
      have ht := trim_any neg (some ⟨w.heap.size + 1, 0, none⟩) n o wr HROWo.out (by rw [HLO.out]; exact Nat.le_refl _) (by unfold maxLen; omega) HDO.out (by rw [HLO.out]; omega)
      rw [HLO.out] at ht
      refine ht.mono ?_
      clear ht
      rintro e w2 ⟨v2, rfl, hbig2, hb2⟩
      have k0 := kcB hb2 c0
      obtain ⟨A2, c2, n2, g2, rfl, _, _, _, HV2⟩ := hbig2.letters
      clear hbig2
      cases neg
      · have HQ : Hid (ofSign false (val o) = z / 65536) := Q1.out (by simpa using HNE.out)
        have hW : Below w2.heap.size w2 (w2.alloc (Obj.cells #[Value.bool g2, Value.slice A2 n2 c2] 59)) := (Below.refl _ _).alloc (Nat.le_refl _) _
        have BIGK : Hid (∀ W', Below (w2.alloc (Obj.cells #[Value.bool g2, Value.slice A2 n2 c2] 59)).heap.size (w2.alloc (Obj.cells #[Value.bool g2, Value.slice A2 n2 c2] 59)) W' → BigIs W' (.agg #[.bool g2, .slice A2 n2 c2]) (z / 65536)) := by
          intro W' h
          have := HV2.out W' (hW.trans (h.mono hW.size))
          rw [HQ.out] at this
          exact this
        have HBA : Hid (Below w.heap.size w (w2.alloc (Obj.cells #[Value.bool g2, Value.slice A2 n2 c2] 59))) := (HBw.out.trans (hb2.mono HBw.out.size)).alloc (Nat.le_trans HBw.out.size hb2.size) _
        have l0 : (w2.alloc (Obj.cells #[Value.bool g2, Value.slice A2 n2 c2] 59)).cell? ⟨w2.heap.size, 0, none⟩ = some (.bool g2) := by rw [cell_newB _ _ _ _ _ rfl]; rfl
        have l1 : (w2.alloc (Obj.cells #[Value.bool g2, Value.slice A2 n2 c2] 59)).cell? ⟨w2.heap.size, 1, none⟩ = some (.slice A2 n2 c2) := by rw [cell_newB _ _ _ _ _ rfl]; rfl
        have m0 := kcB hW k0
        clear hW
        go_wp2_with fail
        refine (fits_any _ (z / 65536) _ (BIGK.out _ (Below.refl _ _)) SO.out.2).mono ?_
        rintro e w5 ⟨rfl, b5⟩
        have HB5 : Hid (Below w.heap.size w w5) := HBA.out.trans (b5.mono HBA.out.size)
        have y0 := kcB b5 l0
        have y1 := kcB b5 l1
        clear l0 l1
        by_cases hf : Fit (z / 65536)
        · have HFT : Hid (decide (Fit (z / 65536)) = true ∧ rV (z / 65536) = z / 65536) := ⟨decide_eq_true hf, rV_in hf⟩
          have HFI := Lib.hid hf
          clear hf
          rw [HFT.out.1, HFT.out.2]
          go_wp2_with fail
          refine (int_any _ (z / 65536) _ (BIGK.out _ b5) SO.out.2 HFI.out.1 HFI.out.2).mono ?_
          rintro e w6 ⟨rfl, b6⟩
          clear b5
          go_wp2
          go_ret2
          exact Ret.mk (by rw [HFT.out.1, HFT.out.2]; rfl) (HB5.out.trans (b6.mono HB5.out.size))
        · have HFT : Hid (decide (Fit (z / 65536)) = false ∧ rV (z / 65536) = 0) := ⟨decide_eq_false hf, rV_out hf⟩
          clear hf
          rw [HFT.out.1, HFT.out.2]
          clear b5
          go_wp2
          go_ret2
          exact Ret.mk (by rw [HFT.out.1, HFT.out.2]; rfl) HB5.out
      · by_cases hr0 : r = 0
        · have HQ : Hid (ofSign true (val o) = z / 65536) := Q2.out (by simpa using HNE.out) hr0
          have hW : Below w2.heap.size w2 (w2.alloc (Obj.cells #[Value.bool g2, Value.slice A2 n2 c2] 59)) := (Below.refl _ _).alloc (Nat.le_refl _) _
          have BIGK : Hid (∀ W', Below (w2.alloc (Obj.cells #[Value.bool g2, Value.slice A2 n2 c2] 59)).heap.size (w2.alloc (Obj.cells #[Value.bool g2, Value.slice A2 n2 c2] 59)) W' → BigIs W' (.agg #[.bool g2, .slice A2 n2 c2]) (z / 65536)) := by
            intro W' h
            have := HV2.out W' (hW.trans (h.mono hW.size))
            rw [HQ.out] at this
            exact this
          have HBA : Hid (Below w.heap.size w (w2.alloc (Obj.cells #[Value.bool g2, Value.slice A2 n2 c2] 59))) := (HBw.out.trans (hb2.mono HBw.out.size)).alloc (Nat.le_trans HBw.out.size hb2.size) _
          have l0 : (w2.alloc (Obj.cells #[Value.bool g2, Value.slice A2 n2 c2] 59)).cell? ⟨w2.heap.size, 0, none⟩ = some (.bool g2) := by rw [cell_newB _ _ _ _ _ rfl]; rfl
          have l1 : (w2.alloc (Obj.cells #[Value.bool g2, Value.slice A2 n2 c2] 59)).cell? ⟨w2.heap.size, 1, none⟩ = some (.slice A2 n2 c2) := by rw [cell_newB _ _ _ _ _ rfl]; rfl
          have m0 := kcB hW k0
          clear hW
          go_wp2_with fail
          refine (fits_any _ (z / 65536) _ (BIGK.out _ (Below.refl _ _)) SO.out.2).mono ?_
          rintro e w5 ⟨rfl, b5⟩
          have HB5 : Hid (Below w.heap.size w w5) := HBA.out.trans (b5.mono HBA.out.size)
          have y0 := kcB b5 l0
          have y1 := kcB b5 l1
          clear l0 l1
          by_cases hf : Fit (z / 65536)
          · have HFT : Hid (decide (Fit (z / 65536)) = true ∧ rV (z / 65536) = z / 65536) := ⟨decide_eq_true hf, rV_in hf⟩
            have HFI := Lib.hid hf
            clear hf
            rw [HFT.out.1, HFT.out.2]
            go_wp2_with fail
            refine (int_any _ (z / 65536) _ (BIGK.out _ b5) SO.out.2 HFI.out.1 HFI.out.2).mono ?_
            rintro e w6 ⟨rfl, b6⟩
            clear b5
            go_wp2
            go_ret2
            exact Ret.mk (by rw [HFT.out.1, HFT.out.2]; rfl) (HB5.out.trans (b6.mono HB5.out.size))
          · have HFT : Hid (decide (Fit (z / 65536)) = false ∧ rV (z / 65536) = 0) := ⟨decide_eq_false hf, rV_out hf⟩
            clear hf
            rw [HFT.out.1, HFT.out.2]
            clear b5
            go_wp2
            go_ret2
            exact Ret.mk (by rw [HFT.out.1, HFT.out.2]; rfl) HB5.out
        · have HQ : Hid (ofSign true (val o) - 1 = z / 65536) := Q3.out (by simpa using HNE.out) (by omega)
          have hr1 : (0 : Int) < (r : Int) := by omega
          have S1 : Hid (Small 1) := small64 (by omega) (by omega)
          have hW : Below w2.heap.size w2 (w2.alloc (Obj.cells #[Value.bool g2, Value.slice A2 n2 c2] 59)) := (Below.refl _ _).alloc (Nat.le_refl _) _
          have BIG0 : Hid (∀ W', Below (w2.alloc (Obj.cells #[Value.bool g2, Value.slice A2 n2 c2] 59)).heap.size (w2.alloc (Obj.cells #[Value.bool g2, Value.slice A2 n2 c2] 59)) W' → BigIs W' (.agg #[.bool g2, .slice A2 n2 c2]) (ofSign true (val o))) := fun W' h => HV2.out W' (hW.trans (h.mono hW.size))
          have HBA : Hid (Below w.heap.size w (w2.alloc (Obj.cells #[Value.bool g2, Value.slice A2 n2 c2] 59))) := (HBw.out.trans (hb2.mono HBw.out.size)).alloc (Nat.le_trans HBw.out.size hb2.size) _
          have l0 : (w2.alloc (Obj.cells #[Value.bool g2, Value.slice A2 n2 c2] 59)).cell? ⟨w2.heap.size, 0, none⟩ = some (.bool g2) := by rw [cell_newB _ _ _ _ _ rfl]; rfl
          have l1 : (w2.alloc (Obj.cells #[Value.bool g2, Value.slice A2 n2 c2] 59)).cell? ⟨w2.heap.size, 1, none⟩ = some (.slice A2 n2 c2) := by rw [cell_newB _ _ _ _ _ rfl]; rfl
          have p0 : (w2.alloc (Obj.cells #[Value.bool g2, Value.slice A2 n2 c2] 59)).frozen? ⟨w2.heap.size, 0, none⟩ = false := frozen_new _ _ _ _ _ rfl
          have p1 : (w2.alloc (Obj.cells #[Value.bool g2, Value.slice A2 n2 c2] 59)).frozen? ⟨w2.heap.size, 1, none⟩ = false := frozen_new _ _ _ _ _ rfl
          have m0 := kcB hW k0
          have HSZ2 : Hid (w.heap.size ≤ w2.heap.size) := Nat.le_trans HBw.out.size hb2.size
          clear hW hb2 hr0
          go_wp2_with fail
          generalize (w2.alloc (Obj.cells #[Value.bool g2, Value.slice A2 n2 c2] 59)) = W3 at BIG0 HBA l0 l1 p0 p1 m0 ⊢
          go_region_with (first
            | (go_at_call 37; refine (of_any 1 _ (by omega) (by omega)).mono ?_; rintro e w3 ⟨v3, rfl, hv3, b3⟩; have HB3 : Hid (Below W3.heap.size W3 w3) := (Below.refl W3.heap.size W3).drew.trans b3; have HV3 := Lib.hid hv3; clear b3 hv3; have x0 := kcB HB3.out l0; have x1 := kcB HB3.out l1)
            | (go_at_call 50; refine (subB_any _ v3 (ofSign true (val o)) 1 _ (BIG0.out _ HB3.out) HV3.out SO.out.1 S1.out).mono ?_; rintro e w4 ⟨v4, rfl, hv4, b4⟩; rw [HQ.out] at hv4; obtain ⟨A4, c4, n4, g4, rfl, _, _, _, _⟩ := hv4.letters; have HB4 : Hid (Below W3.heap.size W3 w4) := HB3.out.trans (b4.mono HB3.out.size); have HV4 := Lib.hid hv4; clear b4 hv4; have x0 := kcB HB4.out l0; have x1 := kcB HB4.out l1; have y0 := kfB HB4.out l0 p0; have y1 := kfB HB4.out l1 p1))
          all_goals
            have BIGK : Hid (∀ W', Below ((w4.setCell ⟨w2.heap.size, 0, none⟩ (.bool g4)).setCell ⟨w2.heap.size, 1, none⟩ (.slice A4 n4 c4)).heap.size ((w4.setCell ⟨w2.heap.size, 0, none⟩ (.bool g4)).setCell ⟨w2.heap.size, 1, none⟩ (.slice A4 n4 c4)) W' → BigIs W' (.agg #[.bool g4, .slice A4 n4 c4]) (z / 65536)) := fun W' h => (HV4.out.store x0).keep h
            have HBC : Hid (Below w.heap.size w ((w4.setCell ⟨w2.heap.size, 0, none⟩ (.bool g4)).setCell ⟨w2.heap.size, 1, none⟩ (.slice A4 n4 c4))) := ((HBA.out.trans (HB4.out.mono HBA.out.size)).setCell (p := ⟨w2.heap.size, 0, none⟩) HSZ2.out _).setCell (p := ⟨w2.heap.size, 1, none⟩) HSZ2.out _
            have l2 : ((w4.setCell ⟨w2.heap.size, 0, none⟩ (.bool g4)).setCell ⟨w2.heap.size, 1, none⟩ (.slice A4 n4 c4)).cell? ⟨w2.heap.size, 0, none⟩ = some (.bool g4) := by
              rw [World.cell?_setCell_other _ _ _ _ (fun e => by injection e with _ e2; cases e2)]
              exact World.cell?_setCell_same _ _ _ x0
            have l3 : ((w4.setCell ⟨w2.heap.size, 0, none⟩ (.bool g4)).setCell ⟨w2.heap.size, 1, none⟩ (.slice A4 n4 c4)).cell? ⟨w2.heap.size, 1, none⟩ = some (.slice A4 n4 c4) := by
              apply World.cell?_setCell_same (u := .slice A2 n2 c2)
              rw [World.cell?_setCell_other _ _ _ _ (fun e => by injection e with _ e2; cases e2)]
              exact x1
            go_wp2_with fail
            generalize ((w4.setCell ⟨w2.heap.size, 0, none⟩ (.bool g4)).setCell ⟨w2.heap.size, 1, none⟩ (.slice A4 n4 c4)) = W5 at BIGK HBC l2 l3 ⊢
            refine (fits_any _ (z / 65536) _ (BIGK.out _ (Below.refl _ _)) SO.out.2).mono ?_
            rintro e w5 ⟨rfl, b5⟩
            have HB5 : Hid (Below w.heap.size w w5) := HBC.out.trans (b5.mono HBC.out.size)
            have y2 := kcB b5 l2
            have y3 := kcB b5 l3
            clear l2 l3 x0 x1
            by_cases hf : Fit (z / 65536)
            · have HFT : Hid (decide (Fit (z / 65536)) = true ∧ rV (z / 65536) = z / 65536) := ⟨decide_eq_true hf, rV_in hf⟩
              have HFI := Lib.hid hf
              clear hf
              rw [HFT.out.1]
              go_wp2_with fail
              refine (int_any _ (z / 65536) _ (BIGK.out _ b5) SO.out.2 HFI.out.1 HFI.out.2).mono ?_
              rintro e w6 ⟨rfl, b6⟩
              clear b5
              go_wp2
              go_ret2
              exact Ret.mk (by rw [HFT.out.1, HFT.out.2]; rfl) (HB5.out.trans (b6.mono HB5.out.size))
            · have HFT : Hid (decide (Fit (z / 65536)) = false ∧ rV (z / 65536) = 0) := ⟨decide_eq_false hf, rV_out hf⟩
              clear hf
              rw [HFT.out.1]
              clear b5
              go_wp2
              go_ret2
              exact Ret.mk (by rw [HFT.out.1, HFT.out.2]; rfl) HB5.out
    · have e1 : (((k + 1 : Nat) : Int) - 1) = (k : Int) := by omega
      rw [e1]
      clear e1
      obtain ⟨gA, rfl, hgA, hcA⟩ := HA.out.row (by rw [HN.out]; omega)
      have hck : wr.cell? ⟨gA, k, none⟩ = some (.int .i64 (dn ds k : Int)) := by
        obtain ⟨g2, e2, _, hc2⟩ := HROW.out (by rw [HN.out]; omega)
        injection e2 with e2
        injection e2 with e3
        subst e3
        exact (HB.out.cell (p := ⟨gA, k, none⟩) (Nat.lt_succ_of_lt hgA)).trans (hc2 k (by rw [HN.out]; omega))
      clear hcA
      obtain ⟨hF', hq⟩ := HF.out.step HA.out.dok (by rw [HN.out]; omega)
      have HF' := Lib.hid hF'
      clear hF'
      have hd := HA.out.dok k
      have fz : wr.frozen? ⟨w.heap.size + 1, k, none⟩ = false := HO.out.frozenAt k
      have hcd : wr.cell? ⟨w.heap.size + 1, k, none⟩ = some (.int .i64 (dn o k : Int)) := by
        rw [HO.out.cellAt k (by omega)]
        have : k < o.length := by rw [HF.out.len, HN.out]; omega
        simp [ints, dn, this]
      have HST := Lib.hid (HO.out.stored k (.int .i64 (((r * 1000 + dn ds k) / 65536 : Nat) : Int)))
      generalize dn ds k = x at *
      generalize dn o k = x0 at *
      go_wp2
      go_roundw
      case rel =>
        have hv : ((r : Int) * 1000 + (x : Int)) / 65536 = (((r * 1000 + x) / 65536 : Nat) : Int) := by omega
        rw [hv]
        refine ⟨k, (r * 1000 + x) % 65536, o.set k ((r * 1000 + x) / 65536), by omega, rfl, by go_num, Nat.mod_lt _ (by omega), HF', ?_, HB.out.setCell (p := ⟨w.heap.size + 1, k, none⟩) (Nat.le_refl _) _⟩
        have h := HST.out.1
        rw [ints_set] at h
        exact h
      case measure => simp [intOf]

end Go.Proofs.YtckeplbmkjoiaaaDoor
