/- Contracts of the reference's numbers without end, third part: Trim, Of. -/
import Derived.Test.YtckeplbmkjoiaaaDoorBig2
namespace Go.Proofs.YtckeplbmkjoiaaaDoor
open Go.RowKit
set_option linter.unusedVariables false

/-- The number z, as its size's digits lie in memory. -/
structure BigAt (w : World) (A : Option Addr) (c : Nat) (ds : List Nat) (z : Int) : Prop where
  row : Row w A ds
  cap : ds.length ≤ c
  top : c ≤ maxLen
  dok : Dok ds
  canon : Canon ds
  is : val ds = z.natAbs
def BigIs (w : World) (v : Value) (z : Int) : Prop := ∃ A c ds, v = .agg #[.bool (decide (z < 0)), .slice A ds.length c] ∧ BigAt w A c ds z
def RetBig (z : Int) (w : World) (e : Ending) (w' : World) : Prop := ∃ v, e = .returned v ∧ BigIs w' v z ∧ Below w.heap.size w w'
theorem BigAt.keep {w w' : World} {A : Option Addr} {c : Nat} {ds : List Nat} {z : Int} (h : BigAt w A c ds z) (hb : Below w.heap.size w w') : BigAt w' A c ds z :=
  ⟨h.row.keep hb, h.cap, h.top, h.dok, h.canon, h.is⟩
theorem BigIs.keep {w w' : World} {v : Value} {z : Int} (h : BigIs w v z) (hb : Below w.heap.size w w') : BigIs w' v z := by
  obtain ⟨A, c, ds, e, h⟩ := h
  exact ⟨A, c, ds, e, h.keep hb⟩
/-- A result's own box is written: the digits lie elsewhere. -/
theorem Row.store {w : World} {A : Option Addr} {ds : List Nat} {B : Nat} {b0 b : Bool} {u : Value} (h : Row w A ds) (hB : w.cell? ⟨B, 0, none⟩ = some (.bool b0)) :
    Row ((w.setCell ⟨B, 0, none⟩ (.bool b)).setCell ⟨B, 1, none⟩ u) A ds := by
  intro hn
  obtain ⟨g, e, hg, hc⟩ := h hn
  have hne : g ≠ B := by
    rintro rfl
    have h0 := hc 0 hn
    rw [hB] at h0
    simp at h0
  refine ⟨g, e, by simpa [World.setCell] using hg, fun i hi => ?_⟩
  rw [World.cell?_setCell_other _ _ _ _ (fun e => hne (by injection e with e1; exact e1.symm)), World.cell?_setCell_other _ _ _ _ (fun e => hne (by injection e with e1; exact e1.symm))]
  exact hc i hi
theorem BigAt.store {w : World} {A : Option Addr} {c : Nat} {ds : List Nat} {z : Int} {B : Nat} {b0 b : Bool} {u : Value} (h : BigAt w A c ds z) (hB : w.cell? ⟨B, 0, none⟩ = some (.bool b0)) :
    BigAt ((w.setCell ⟨B, 0, none⟩ (.bool b)).setCell ⟨B, 1, none⟩ u) A c ds z :=
  ⟨h.row.store hB, h.cap, h.top, h.dok, h.canon, h.is⟩
/-- A number that lies in the result's own box. -/
theorem RetBig.box {w w2 : World} {A : Option Addr} {c : Nat} {ds : List Nat} {z : Int} {B : Nat} {b0 b : Bool} {u : Value} (h : BigAt w2 A c ds z) (hB : w2.cell? ⟨B, 0, none⟩ = some (.bool b0)) (hb : Below w.heap.size w w2) (hle : w.heap.size ≤ B) :
    RetBig z w (.returned (.agg #[.bool (decide (z < 0)), .slice A ds.length c])) ((w2.setCell ⟨B, 0, none⟩ (.bool b)).setCell ⟨B, 1, none⟩ u) :=
  ⟨_, rfl, ⟨A, c, ds, rfl, h.store hB⟩, (hb.setCell (p := ⟨B, 0, none⟩) hle _).setCell (p := ⟨B, 1, none⟩) hle _⟩
/-- A number of so few digits that nothing grows too long. -/
def Small (z : Int) : Prop := z.natAbs < 1000 ^ 100
theorem BigAt.few {w : World} {A : Option Addr} {c : Nat} {ds : List Nat} {z : Int} (h : BigAt w A c ds z) (hz : Small z) : ds.length ≤ 100 :=
  canon_len h.canon (by rw [h.is]; exact hz)

/-- A sign and a size. -/
def ofSign (neg : Bool) (n : Nat) : Int := if neg = true then -(n : Int) else (n : Int)
theorem ofSign_abs (neg : Bool) (n : Nat) : (ofSign neg n).natAbs = n := by
  unfold ofSign
  split <;> omega
theorem ofSign_neg (neg : Bool) (n : Nat) : decide (ofSign neg n < 0) = (neg && decide (0 < n)) := by
  unfold ofSign
  cases neg
  · simp
  · simp

/-- Trim, at the round's head: what is cut off is noughts. -/
def TrimR (ds : List Nat) (n : Nat) : Prop := ∀ i, n ≤ i → dn ds i = 0
theorem TrimR.start (ds : List Nat) : TrimR ds ds.length := fun i h => dn_past h
theorem TrimR.step {ds : List Nat} {n : Nat} (h : TrimR ds (n + 1)) (h0 : dn ds n = 0) : TrimR ds n := by
  intro i hi
  rcases Nat.eq_or_lt_of_le hi with e | e
  · subst e; exact h0
  · exact h i e
theorem TrimR.done {w : World} {A : Option Addr} {c : Nat} {ds : List Nat} {n : Nat} {neg : Bool} (h : TrimR ds n) (hn : n ≤ ds.length) (h0 : n = 0 ∨ dn ds (n - 1) ≠ 0) (hr : Row w A ds) (hc : ds.length ≤ c) (hm : c ≤ maxLen) (hd : Dok ds) :
    BigAt w A c (ds.take n) (ofSign neg (val ds)) ∧ (ds.take n).length = n ∧ decide (ofSign neg (val ds) < 0) = (neg && decide (0 < n)) := by
  have hl : (ds.take n).length = n := by simp; omega
  have hv := val_take hn h
  have hcn := canon_take hn h0
  have hz := canon_zero hcn
  refine ⟨⟨hr.take n, by omega, hm, dok_take hd n, hcn, by rw [ofSign_abs, hv]⟩, hl, ?_⟩
  rw [ofSign_neg, ← hv]
  congr 1
  rcases Nat.eq_zero_or_pos n with e | e
  · subst e
    simp [val]
  · have : val (ds.take n) ≠ 0 := by
      rw [Ne, hz]
      intro e2
      rw [e2] at hl
      simp at hl
      omega
    simp [e]
    omega

set_option maxHeartbeats 1000000 in
theorem trim_any (neg : Bool) (A : Option Addr) (c : Nat) (ds : List Nat) (w : World) (hr : Row w A ds) (hc : ds.length ≤ c) (hm : c ≤ maxLen) (hd : Dok ds) (hl : ds.length ≤ 100000) :
    Calls Tryd.prog 49 #[.bool neg, .slice A ds.length c] w (RetBig (ofSign neg (val ds)) w) := by
  have HR := Lib.hid hr
  have HD := Lib.hid hd
  have HT0 := Lib.hid (TrimR.start ds)
  clear hr hd
  unfold maxLen at hm
  generalize en : ds.length = m at hc hl ⊢
  have HN := Lib.hid en
  have HT1 : Hid (TrimR ds m) := by rw [← en]; exact HT0
  clear en HT0
  go_enter Tryd.func49, Tryd.ntmps49
  go_wp2
  go_loop [5] (fun i => ∃ k : Nat, i = .int .i64 (k : Int) ∧ k ≤ m ∧ Hid (TrimR ds k)) (fun i => (intOf i).toNat)
  case atStart => exact ⟨m, rfl, by omega, HT1⟩
  case round =>
    obtain ⟨k, rfl, hk, HT⟩ := hrel
    have fin : Hid ((k = 0 ∨ dn ds (k - 1) ≠ 0) → ∀ W, Below w.heap.size w W → BigIs W (.agg #[.bool (neg && decide (0 < k)), .slice A k c]) (ofSign neg (val ds))) := by
      intro h0 W hW
      obtain ⟨f1, f2, f3⟩ := HT.out.done (neg := neg) (by rw [HN.out]; exact hk) h0 HR.out (by rw [HN.out]; exact hc) hm HD.out
      refine ⟨A, c, ds.take k, ?_, f1.keep hW⟩
      rw [f2, f3]
    rcases k with _ | n
    · have e0 : ((0 : Nat) : Int) = 0 := rfl
      rw [e0]
      clear e0
      cases neg
      all_goals
        go_wp2
        exact bodyPost_ret (v := .agg #[.bool false, .slice A 0 c]) (by simp [results, Tryd.results49, go_sem]) rfl
          ⟨_, rfl, fin.out (.inl (by trivial)) _ ((Below.refl _ _).alloc (Nat.le_refl _) _), (Below.refl _ _).alloc (Nat.le_refl _) _⟩
    · obtain ⟨g, rfl, hg, hcell⟩ := HR.out (by rw [HN.out]; omega)
      have hck := hcell n (by rw [HN.out]; omega)
      clear hcell
      have HS := Lib.hid (fun h => HT.out.step (n := n) h)
      have F2 : Hid (dn ds n ≠ 0 → ∀ W, Below w.heap.size w W → BigIs W (.agg #[.bool neg, .slice (some ⟨g, 0, none⟩) (n + 1) c]) (ofSign neg (val ds))) := by
        intro h0 W hW
        have := fin.out (.inr (by simpa using h0)) W hW
        simpa using this
      clear fin
      generalize dn ds n = x at *
      have e0 : ((n + 1 : Nat) : Int) = (n : Int) + 1 := by omega
      rw [e0]
      clear e0
      by_cases hx : x = 0
      · subst hx
        go_wp2
        go_round
        case rel => exact ⟨n, by go_num, by omega, HS.out rfl⟩
        case measure => simp [intOf]
      · have hxb : ((x : Int) == 0) = false := by simp; omega
        cases neg
        all_goals
          go_wp2
          exact bodyPost_ret (v := .agg #[.bool _, .slice (some ⟨g, 0, none⟩) (n + 1) c]) (by simp [results, Tryd.results49, go_sem]) rfl
            ⟨_, rfl, F2.out hx _ ((Below.refl _ _).alloc (Nat.le_refl _) _), (Below.refl _ _).alloc (Nat.le_refl _) _⟩

/-- Of, at the round's head. -/
structure OfR (a : Int) (o : List Nat) (q : Int) : Prop where
  dok : Dok o
  sum : a.natAbs = val o + 1000 ^ o.length * q.natAbs
theorem OfR.start (a : Int) : OfR a [] a := ⟨dok_nil, by simp [val]⟩
theorem OfR.few {a : Int} {o : List Nat} {q : Int} (h : OfR a o q) (ha : a.natAbs ≤ 9223372036854775808) (hq : q ≠ 0) : o.length ≤ 6 := by
  have hs := h.sum
  rcases Nat.lt_or_ge o.length 7 with h7 | h7
  · omega
  · exfalso
    have h1 : 1000 ^ 7 ≤ 1000 ^ o.length := Nat.pow_le_pow_right (by omega) h7
    have h2 : 1000 ^ o.length * 1 ≤ 1000 ^ o.length * q.natAbs := Nat.mul_le_mul_left _ (by omega)
    have h3 : (1000 : Nat) ^ 7 = 1000000000000000000000 := by decide
    omega
theorem OfR.step {a : Int} {o : List Nat} {q : Int} (h : OfR a o q) : OfR a (o ++ [q.natAbs % 1000]) (q.tdiv 1000) := by
  refine ⟨dok_snoc h.dok (Nat.mod_lt _ (by omega)), ?_⟩
  have e : (q.tdiv 1000).natAbs = q.natAbs / 1000 := by rw [Int.natAbs_tdiv]; rfl
  rw [h.sum, val_snoc, e, List.length_append, List.length_singleton, Nat.pow_succ]
  have e2 := Nat.mod_add_div q.natAbs 1000
  generalize q.natAbs % 1000 = r at *
  generalize q.natAbs / 1000 = s at *
  rw [← e2]
  grind
theorem OfR.done {a : Int} {o : List Nat} (h : OfR a o 0) : val o = a.natAbs := by
  have := h.sum
  simp at this
  omega
theorem tmod_neg (q : Int) (h : q ≤ 0) : -999 ≤ q.tmod 1000 ∧ q.tmod 1000 ≤ 0 ∧ -(q.tmod 1000) = ((q.natAbs % 1000 : Nat) : Int) ∧ q.tdiv 1000 ≤ 0 ∧ q ≤ q.tdiv 1000 ∧ (q ≠ 0 → q < q.tdiv 1000) := by
  have e : q.tmod 1000 = -((-q) % 1000) := by
    rw [← Int.neg_neg (q.tmod 1000), ← Int.neg_tmod, Int.tmod_eq_emod_of_nonneg (by omega)]
  have e2 : q.tdiv 1000 = -((-q) / 1000) := by
    rw [← Int.neg_neg (q.tdiv 1000), ← Int.neg_tdiv, Int.tdiv_eq_ediv_of_nonneg (by omega)]
  rw [e, e2]
  omega

theorem ofSign_false (a : Int) (h : 0 ≤ a) : ofSign false a.natAbs = a := by unfold ofSign; rw [if_neg (by simp)]; omega
theorem ofSign_true (a : Int) (h : a ≤ 0) : ofSign true a.natAbs = a := by unfold ofSign; rw [if_pos rfl]; omega

set_option maxHeartbeats 1000000 in
theorem of_plus (a : Int) (w : World) (h0 : 0 ≤ a) (h1 : a ≤ 9223372036854775807) :
    Calls Tryd.prog 37 #[.int .i64 a] w (RetBig a w) := by
  have HF0 := Lib.hid (OfR.start a)
  have hneg : decide (a < 0) = false := by simp; omega
  go_enter Tryd.func37, Tryd.ntmps37
  go_wp2
  go_loopw [0, 3] (fun x v wr => ∃ (q : Int) (k : Nat) (o : List Nat), x = .int .i64 q ∧ 0 ≤ q ∧ q ≤ 9223372036854775807 ∧ k ≤ 7 ∧ Hid (o.length = k) ∧ Hid (OfR a o q) ∧ wr.ownsRow (w.heap.size + 1) 3 1 v k (ints o) ∧ Below (w.heap.size + 1) (w.alloc (.cells #[.bool false, .slice none 0 0] 59)) wr) (fun x _ _ => (intOf x).toNat)
  case atStart => exact ⟨a, 0, [], rfl, h0, h1, by omega, rfl, HF0, World.ownsRow_nil _ _ _ _, Below.refl _ _⟩
  case round =>
    obtain ⟨q, k, o, rfl, hq0, hq1, hk, HK, HF, hown, hbel⟩ := hrel
    have HO := Lib.hid hown
    have HBL := Lib.hid hbel
    have hsz := hbel.size
    clear hown hbel
    by_cases hq : q = 0
    · subst hq
      have hown := HO.out
      rw [← HK.out] at hown
      obtain ⟨A, c, rfl, hr, hc, hm⟩ := Row.own hown
      have HR := Lib.hid hr
      clear hown hr
      have HL : Hid (o.length ≤ 100000) := by show o.length ≤ 100000; rw [HK.out]; omega
      go_wp2_with fail
      refine (trim_any false A c o _ HR.out hc hm HF.out.dok HL.out).mono ?_
      rintro e w2 ⟨v2, rfl, hbig, hb2⟩
      rw [HF.out.done, ofSign_false a h0] at hbig
      obtain ⟨A2, c2, ds2, rfl, hat⟩ := hbig
      have HAT := Lib.hid hat
      have hB := HBL.out.trans (hb2.mono (by simpa using hsz))
      clear hat hb2
      obtain ⟨hf2, hc2⟩ := kept_of (W := w.alloc (.cells #[.bool false, .slice none 0 0] 59)) (by simpa using hB)
      have HB := Lib.hid hB
      clear hB
      go_wp2
      refine bodyPost_ret (v := .agg #[.bool false, .slice A2 ds2.length c2]) (by simp [results, Tryd.results37, go_sem, hc2]) rfl ?_
      have hR := RetBig.box (w := w) (b0 := false) (b := false) (u := .slice A2 ds2.length c2) HAT.out (by rw [hc2 _ _ (by simp)]; simp) (((Below.refl _ _).alloc (Nat.le_refl _) _).trans (HB.out.mono (by omega))) (Nat.le_refl _)
      rw [hneg] at hR
      exact hR
    · have hqb : (q != 0) = true := by simp [hq]
      have HS := Lib.hid HF.out.step
      have hk6 : k ≤ 6 := by rw [← HK.out]; exact HF.out.few (by omega) hq
      have HM : Hid (((q.natAbs % 1000 : Nat) : Int) = q % 1000) := by show ((q.natAbs % 1000 : Nat) : Int) = q % 1000; omega
      have HQ : Hid (q.tdiv 1000 = q / 1000) := Int.tdiv_eq_ediv_of_nonneg hq0
      go_wp2_with (at_builtin; refine append_digit rfl (.tmp 16) (.tmp 18) rfl (w.heap.size + 1) k o (q.natAbs % 1000) _ HM.out.symm _ wr rfl HO.out rfl (by omega) (by simpa using hsz) ?_; intro v' w1 hown' hb')
      go_roundw
      case rel =>
        refine ⟨q / 1000, k + 1, o ++ [q.natAbs % 1000], rfl, by omega, by omega, by omega, ?_, ?_, hown', HBL.out.trans hb'⟩
        · show (o ++ [q.natAbs % 1000]).length = k + 1
          rw [List.length_append, HK.out]; rfl
        · rw [← HQ.out]; exact HS
      case measure => simp [intOf]; omega

set_option maxHeartbeats 1000000 in
theorem of_minus (a : Int) (w : World) (h0 : a < 0) (h1 : -9223372036854775808 ≤ a) :
    Calls Tryd.prog 37 #[.int .i64 a] w (RetBig a w) := by
  have HF0 := Lib.hid (OfR.start a)
  have hneg : decide (a < 0) = true := by simp; omega
  go_enter Tryd.func37, Tryd.ntmps37
  go_wp2
  go_loopw [0, 3] (fun x v wr => ∃ (q : Int) (k : Nat) (o : List Nat), x = .int .i64 q ∧ q ≤ 0 ∧ -9223372036854775808 ≤ q ∧ k ≤ 7 ∧ Hid (o.length = k) ∧ Hid (OfR a o q) ∧ wr.ownsRow (w.heap.size + 1) 3 1 v k (ints o) ∧ Below (w.heap.size + 1) (w.alloc (.cells #[.bool false, .slice none 0 0] 59)) wr) (fun x _ _ => (intOf x).natAbs)
  case atStart => exact ⟨a, 0, [], rfl, by omega, h1, by omega, rfl, HF0, World.ownsRow_nil _ _ _ _, Below.refl _ _⟩
  case round =>
    obtain ⟨q, k, o, rfl, hq0, hq1, hk, HK, HF, hown, hbel⟩ := hrel
    have HO := Lib.hid hown
    have HBL := Lib.hid hbel
    have hsz := hbel.size
    clear hown hbel
    by_cases hq : q = 0
    · subst hq
      have hown := HO.out
      rw [← HK.out] at hown
      obtain ⟨A, c, rfl, hr, hc, hm⟩ := Row.own hown
      have HR := Lib.hid hr
      clear hown hr
      have HL : Hid (o.length ≤ 100000) := by show o.length ≤ 100000; rw [HK.out]; omega
      go_wp2_with fail
      refine (trim_any true A c o _ HR.out hc hm HF.out.dok HL.out).mono ?_
      rintro e w2 ⟨v2, rfl, hbig, hb2⟩
      rw [HF.out.done, ofSign_true a (by omega)] at hbig
      obtain ⟨A2, c2, ds2, rfl, hat⟩ := hbig
      have HAT := Lib.hid hat
      have hB := HBL.out.trans (hb2.mono (by simpa using hsz))
      clear hat hb2
      obtain ⟨hf2, hc2⟩ := kept_of (W := w.alloc (.cells #[.bool false, .slice none 0 0] 59)) (by simpa using hB)
      have HB := Lib.hid hB
      clear hB
      go_wp2
      refine bodyPost_ret (v := .agg #[.bool true, .slice A2 ds2.length c2]) (by simp [results, Tryd.results37, go_sem, hc2]) rfl ?_
      have hR := RetBig.box (w := w) (b0 := false) (b := true) (u := .slice A2 ds2.length c2) HAT.out (by rw [hc2 _ _ (by simp)]; simp) (((Below.refl _ _).alloc (Nat.le_refl _) _).trans (HB.out.mono (by omega))) (Nat.le_refl _)
      rw [hneg] at hR
      exact hR
    · have hqb : (q != 0) = true := by simp [hq]
      have HS := Lib.hid HF.out.step
      have hk6 : k ≤ 6 := by rw [← HK.out]; exact HF.out.few (by omega) hq
      obtain ⟨t1, t2, t3, t4, t5, t6⟩ := tmod_neg q hq0
      have HM := Lib.hid t3
      have t6' := t6 hq
      clear t3 t6
      by_cases ht : q.tmod 1000 < 0
      · go_wp2_with (at_builtin; refine append_digit rfl (.tmp 16) (.tmp 18) rfl (w.heap.size + 1) k o (q.natAbs % 1000) _ HM.out _ wr rfl HO.out rfl (by omega) (by simpa using hsz) ?_; intro v' w1 hown' hb')
        go_roundw
        case rel =>
          refine ⟨q.tdiv 1000, k + 1, o ++ [q.natAbs % 1000], rfl, t4, by omega, by omega, ?_, HS, hown', HBL.out.trans hb'⟩
          show (o ++ [q.natAbs % 1000]).length = k + 1
          rw [List.length_append, HK.out]; rfl
        case measure => simp only [intOf]; omega
      · have HM2 : Hid (q.tmod 1000 = ((q.natAbs % 1000 : Nat) : Int)) := by show q.tmod 1000 = _; rw [← HM.out]; omega
        go_wp2_with (at_builtin; refine append_digit rfl (.tmp 16) (.tmp 18) rfl (w.heap.size + 1) k o (q.natAbs % 1000) _ HM2.out _ wr rfl HO.out rfl (by omega) (by simpa using hsz) ?_; intro v' w1 hown' hb')
        go_roundw
        case rel =>
          refine ⟨q.tdiv 1000, k + 1, o ++ [q.natAbs % 1000], rfl, t4, by omega, by omega, ?_, HS, hown', HBL.out.trans hb'⟩
          show (o ++ [q.natAbs % 1000]).length = k + 1
          rw [List.length_append, HK.out]; rfl
        case measure => simp only [intOf]; omega

theorem of_any (a : Int) (w : World) (h0 : -9223372036854775808 ≤ a) (h1 : a ≤ 9223372036854775807) :
    Calls Tryd.prog 37 #[.int .i64 a] w (RetBig a w) := by
  by_cases h : a < 0
  · exact of_minus a w h h0
  · exact of_plus a w (by omega) h1

end Go.Proofs.YtckeplbmkjoiaaaDoor
