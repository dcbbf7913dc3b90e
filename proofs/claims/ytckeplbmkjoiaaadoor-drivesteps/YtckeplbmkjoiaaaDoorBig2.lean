/- Contracts of the reference's numbers without end, second part: plus, minus. -/
import Derived.Test.YtckeplbmkjoiaaaDoorBig1
namespace Go.Proofs.YtckeplbmkjoiaaaDoor
open Go.RowKit
set_option linter.unusedVariables false

/-- Digits as values. -/
def ints (ds : List Nat) : List Value := ds.map fun d : Nat => Value.int .i64 (d : Int)
theorem ints_snoc (ds : List Nat) (d : Nat) : ints (ds ++ [d]) = ints ds ++ [.int .i64 (d : Int)] := by simp [ints]
theorem Tryd.infoInt : (Tryd.prog.info? 3).map (fun i => (i.zero, i.size, i.bytes)) = some (some (.int .i64 0), 1, 8) := by kernel_rfl

/-- 'd = append(d, x)': x lies in a new block of its own. -/
theorem append_digit {ops : Array Oper} {rest : List Oper} {o : Oper} {a : Act} {Q : Exit → Act → World → Prop} (hgd : o.guard = none) (s x : Operand)
    (ho : o.op = .call { callee := .builtin .append, args := #[s, x], argTypes := #[57, 57] })
    (base k : Nat) (ds : List Nat) (d : Nat) (D : Int) (hD : D = (d : Int)) (v : Value) (w : World) (hs : a.eval s = v) (hown : w.ownsRow base 3 1 v k (ints ds))
    (hx : a.eval x = .slice (some ⟨w.heap.size, 0, none⟩) 1 1) (hk : k ≤ 1000000) (hbase : base ≤ w.heap.size)
    (h : ∀ v' w', w'.ownsRow base 3 1 v' (k + 1) (ints (ds ++ [d])) → Below base w w' → wpList Tryd.prog ops Q rest (a.put o.dst v') w') :
    wpList Tryd.prog ops Q (o :: rest) a (w.alloc (.cells #[.int .i64 D] 3)) := by
  subst hD
  obtain ⟨i0, hi, hz0, hz1, hz2⟩ := info_parts Tryd.infoInt
  refine wpList_append_own _ hgd s x 57 ho base 3 i0 (.int .i64 0) 1 8 Tryd.underlying57 hi hz0 hz1 hz2 rfl (by decide) v k (ints ds) hs (hown.alloc _) ⟨w.heap.size, 0, none⟩ 1 1 [.int .i64 (d : Int)] hx rfl ?_ ?_ ?_ ?_ ?_ ?_
  · intro j u hj
    match j, hj with
    | 0, hj => simp at hj; subst hj; simp [Addr.add]
  · intro u hu; simp at hu; subst hu; rfl
  · unfold maxLen; omega
  · omega
  · simp; omega
  · intro v' w' hown' hg _
    refine h v' w' (by rw [ints_snoc]; exact hown') ?_
    refine (((Below.refl base w).alloc hbase _).grown hg (by simp; omega) ?_)
    intro g hgg
    exact (hown.lt g hgg).1

/-- Digits that come back, in new memory. -/
def RetDig (n L : Nat) (w : World) (e : Ending) (w' : World) : Prop :=
  ∃ A c ds, e = .returned (.slice A ds.length c) ∧ Row w' A ds ∧ ds.length ≤ c ∧ c ≤ maxLen ∧ Dok ds ∧ val ds = n ∧ ds.length ≤ L ∧ Below w.heap.size w w'
theorem RetDig.mk {n L : Nat} {w w' : World} {v : Value} {ds : List Nat} {e : Nat} {base : Nat} (h : w'.ownsRow base e 1 v ds.length (ints ds)) (hd : Dok ds) (hv : val ds = n) (hl : ds.length ≤ L) (hb : Below w.heap.size w w') : RetDig n L w (.returned v) w' := by
  obtain ⟨A, c, rfl, h1, h2, h3⟩ := Row.own h
  exact ⟨A, c, ds, rfl, h1, h2, h3, hd, hv, hl, hb⟩

/-- plus, behind k rounds. -/
structure PlusR (a b : List Nat) (o : List Nat) (k cy : Nat) : Prop where
  len : o.length = k
  dok : Dok o
  cy1 : cy ≤ 1
  top : k ≤ max a.length b.length + 1
  room : 0 < cy → k ≤ max a.length b.length
  sum : val o + cy * 1000 ^ k = valTo a k + valTo b k
theorem PlusR.start (a b : List Nat) : PlusR a b [] 0 0 := ⟨rfl, dok_nil, by omega, by omega, by omega, by simp [val, valTo]⟩
theorem PlusR.step {a b o : List Nat} {k cy : Nat} (h : PlusR a b o k cy) (oa : Dok a) (ob : Dok b) (hc : k < a.length ∨ k < b.length ∨ 0 < cy) :
    PlusR a b (o ++ [(dn a k + dn b k + cy) % 1000]) (k + 1) ((dn a k + dn b k + cy) / 1000) := by
  have da := oa k
  have db := ob k
  have c1 := h.cy1
  have hk : k ≤ max a.length b.length := by
    rcases hc with hc | hc | hc
    · omega
    · omega
    · exact h.room hc
  refine ⟨by simp [h.len], dok_snoc h.dok (by omega), by omega, by omega, fun hcy => ?_, ?_⟩
  · rcases Nat.lt_or_ge k (max a.length b.length) with h1 | h1
    · omega
    · exfalso
      have e1 := dn_past (ds := a) (i := k) (by omega)
      have e2 := dn_past (ds := b) (i := k) (by omega)
      rw [e1, e2] at hcy
      omega
  · rw [val_snoc, h.len, valTo, valTo, Nat.pow_succ]
    exact plus_step (d := 0) rfl h.sum _ (dn a k) (dn b k) rfl
theorem PlusR.done {a b o : List Nat} {k cy : Nat} (h : PlusR a b o k cy) (h1 : ¬ k < a.length) (h2 : ¬ k < b.length) (h3 : ¬ 0 < cy) : val o = val a + val b := by
  have := h.sum
  rw [val_to (by omega), val_to (by omega)] at this
  have : cy = 0 := by omega
  subst this
  omega

set_option maxHeartbeats 1000000 in
theorem plus_any (A B : Option Addr) (ca cb : Nat) (a b : List Nat) (w : World) (ha : Row w A a) (hb : Row w B b) (hla : a.length ≤ 1000) (hlb : b.length ≤ 1000) (oa : Dok a) (ob : Dok b) :
    Calls Tryd.prog 60 #[.slice A a.length ca, .slice B b.length cb] w (RetDig (val a + val b) (max a.length b.length + 1) w) := by
  have HA := Lib.hid ha
  have HB := Lib.hid hb
  have OA := Lib.hid oa
  have OB := Lib.hid ob
  clear ha hb oa ob
  have HP0 := Lib.hid (PlusR.start a b)
  generalize ena : a.length = na at hla ⊢
  generalize enb : b.length = nb at hlb ⊢
  have HNA := Lib.hid ena
  have HNB := Lib.hid enb
  clear ena enb
  go_enter Tryd.func60, Tryd.ntmps60
  go_wp2
  go_loopw [5, 6, 7] (fun v c i wr => ∃ (k cy : Nat) (o : List Nat), i = .int .i64 (k : Int) ∧ c = .int .i64 (cy : Int) ∧ k ≤ max na nb + 1 ∧ cy ≤ 1 ∧ Hid (PlusR a b o k cy) ∧ wr.ownsRow w.heap.size 3 1 v k (ints o) ∧ Below w.heap.size w wr)
    (fun _ _ i _ => max na nb + 2 - (intOf i).toNat)
  case atStart => exact ⟨0, 0, [], rfl, rfl, by omega, by omega, HP0, World.ownsRow_nil _ _ _ _, Below.refl _ _⟩
  case round =>
    obtain ⟨k, cy, o, rfl, rfl, hk, hcy, HP, hown, hbel⟩ := hrel
    have HO := Lib.hid hown
    have HBL := Lib.hid hbel
    have hsz := hbel.size
    clear hown hbel
    have CA : Hid (∀ w0 : World, w0 = wr → Calls Tryd.prog 53 #[.slice A na ca, .int .i64 (k : Int)] w0 fun e w' => e = .returned (.int .i64 (dn a k : Int)) ∧ w0 = w') := by
      rintro w0 rfl
      rw [← HNA.out]
      exact at_any A ca a k w0 (HA.out.keep HBL.out) (by rw [HNA.out]; omega) (by omega)
    have CB : Hid (∀ w0 : World, w0 = wr → Calls Tryd.prog 53 #[.slice B nb cb, .int .i64 (k : Int)] w0 fun e w' => e = .returned (.int .i64 (dn b k : Int)) ∧ w0 = w') := by
      rintro w0 rfl
      rw [← HNB.out]
      exact at_any B cb b k w0 (HB.out.keep HBL.out) (by rw [HNB.out]; omega) (by omega)
    have da := OA.out k
    have db := OB.out k
    by_cases hc : k < na ∨ k < nb ∨ 0 < cy
    · have HP' : Hid (PlusR a b (o ++ [(dn a k + dn b k + cy) % 1000]) (k + 1) ((dn a k + dn b k + cy) / 1000)) := by
        apply HP.out.step OA.out OB.out
        rw [HNA.out, HNB.out]
        exact hc
      have hk1 : k + 1 ≤ max na nb + 1 := by
        have := HP'.out.top
        rw [HNA.out, HNB.out] at this
        exact this
      generalize dn a k = x at *
      generalize dn b k = y at *
      rcases (show k < na ∨ (¬ k < na ∧ k < nb) ∨ (¬ k < na ∧ ¬ k < nb ∧ 0 < cy) by omega) with h1 | ⟨h1, h2⟩ | ⟨h1, h2, h3⟩
      all_goals
        clear hc
        go_wp2_with fail
        refine (CA.out _ rfl).mono ?_
        rintro e w' ⟨rfl, rfl⟩
        go_wp2_with fail
        refine (CB.out _ rfl).mono ?_
        rintro e w' ⟨rfl, rfl⟩
        go_wp2_with (at_builtin; refine append_digit rfl (.tmp 34) (.tmp 37) rfl w.heap.size k o ((x + y + cy) % 1000) _ (by omega) _ wr rfl HO.out rfl (by omega) hsz ?_; intro v' w1 hown' hb')
        go_roundw
        case rel => exact ⟨k + 1, (x + y + cy) / 1000, o ++ [(x + y + cy) % 1000], by go_num, by go_num, by omega, by omega, HP', hown', HBL.out.trans hb'⟩
        case measure => simp [intOf]; omega
    · have HE : Hid (val o = val a + val b) := HP.out.done (by rw [HNA.out]; omega) (by rw [HNB.out]; omega) (by omega)
      have hc1 : ¬ k < na := by omega
      have hc2 : ¬ k < nb := by omega
      have hc3 : ¬ 0 < cy := by omega
      clear hc CA CB da db
      go_wp2
      go_ret
      have hl := HP.out.len
      refine RetDig.mk (ds := o) (base := w.heap.size) (e := 3) ?_ HP.out.dok HE.out (by omega) HBL.out
      rw [hl]
      exact HO.out

/-- Draws turn nothing. -/
theorem bdrewN {B : Nat} {a w : World} (h : Below B a w) (n : Nat) : Below B a (w.drewN n) :=
  { os := h.os, tape := h.tape, output := h.output, size := h.size, block := h.block }

/-- minus, behind k rounds. -/
structure MinusR (a b : List Nat) (o : List Nat) (k br : Nat) : Prop where
  len : o.length = k
  dok : Dok o
  br1 : br ≤ 1
  sum : val o + valTo b k = valTo a k + br * 1000 ^ k
theorem MinusR.start (a b : List Nat) : MinusR a b [] 0 0 := ⟨rfl, dok_nil, by omega, by simp [val, valTo]⟩
/-- A digit less a digit and a borrow: nothing is borrowed. -/
theorem MinusR.plain {a b o : List Nat} {k br : Nat} (h : MinusR a b o k br) (oa : Dok a) (hc : dn b k + br ≤ dn a k) : MinusR a b (o ++ [dn a k - dn b k - br]) (k + 1) 0 := by
  have da := oa k
  refine ⟨by simp [h.len], dok_snoc h.dok (by omega), by omega, ?_⟩
  have hs := h.sum
  rw [val_snoc, h.len, valTo, valTo]
  obtain ⟨d, hd⟩ : ∃ d, dn a k = d + dn b k + br := ⟨dn a k - dn b k - br, by omega⟩
  rw [hd, show d + dn b k + br - dn b k - br = d by omega]
  generalize 1000 ^ k = x at *
  grind
theorem MinusR.borrow {a b o : List Nat} {k br : Nat} (h : MinusR a b o k br) (ob : Dok b) (hc : dn a k < dn b k + br) : MinusR a b (o ++ [dn a k + 1000 - dn b k - br]) (k + 1) 1 := by
  have db := ob k
  have hb := h.br1
  refine ⟨by simp [h.len], dok_snoc h.dok (by omega), by omega, ?_⟩
  have hs := h.sum
  rw [val_snoc, h.len, valTo, valTo, Nat.pow_succ]
  obtain ⟨d, hd⟩ : ∃ d, dn a k + 1000 = d + dn b k + br := ⟨dn a k + 1000 - dn b k - br, by omega⟩
  rw [hd, show d + dn b k + br - dn b k - br = d by omega]
  generalize 1000 ^ k = x at *
  grind
theorem MinusR.done {a b o : List Nat} {br : Nat} (h : MinusR a b o a.length br) (oa : Dok a) (cb : Canon b) (hab : val b ≤ val a) : val o = val a - val b := by
  have hs := h.sum
  have hl := canon_len_le oa cb hab
  rw [val_to (Nat.le_refl _), val_to hl] at hs
  have ho := val_lt h.dok
  rw [h.len] at ho
  exact (minus_end ho hab h.br1 hs).1

set_option maxHeartbeats 1000000 in
theorem minus_any (A B : Option Addr) (ca cb : Nat) (a b : List Nat) (w : World) (ha : Row w A a) (hb : Row w B b) (hla : a.length ≤ 1000) (hlb : b.length ≤ 1000) (oa : Dok a) (ob : Dok b) (cnb : Canon b) (hab : val b ≤ val a) :
    Calls Tryd.prog 62 #[.slice A a.length ca, .slice B b.length cb] w (RetDig (val a - val b) a.length w) := by
  have HA := Lib.hid ha
  have HB := Lib.hid hb
  have OA := Lib.hid oa
  have OB := Lib.hid ob
  have CN := Lib.hid cnb
  have HAB := Lib.hid hab
  clear ha hb oa ob cnb hab
  have HP0 := Lib.hid (MinusR.start a b)
  generalize ena : a.length = na at hla ⊢
  generalize enb : b.length = nb at hlb ⊢
  have HNA := Lib.hid ena
  have HNB := Lib.hid enb
  clear ena enb
  go_enter Tryd.func62, Tryd.ntmps62
  go_wp2
  go_loopw [5, 6, 7] (fun v c i wr => ∃ (k br : Nat) (o : List Nat), i = .int .i64 (k : Int) ∧ c = .int .i64 (br : Int) ∧ k ≤ na ∧ br ≤ 1 ∧ Hid (MinusR a b o k br) ∧ wr.ownsRow w.heap.size 3 1 v k (ints o) ∧ Below w.heap.size w wr)
    (fun _ _ i _ => na - (intOf i).toNat)
  case atStart => exact ⟨0, 0, [], rfl, rfl, by omega, by omega, HP0, World.ownsRow_nil _ _ _ _, Below.refl _ _⟩
  case round =>
    obtain ⟨k, br, o, rfl, rfl, hk, hbr, HP, hown, hbel⟩ := hrel
    have HO := Lib.hid hown
    have HBL := Lib.hid hbel
    have hsz := hbel.size
    clear hown hbel
    by_cases hc : k < na
    · have CB : Hid (∀ m : Nat, Calls Tryd.prog 53 #[.slice B nb cb, .int .i64 (k : Int)] (wr.drewN m) fun e w' => e = .returned (.int .i64 (dn b k : Int)) ∧ w' = wr.drewN m) := by
        intro m
        rw [← HNB.out]
        exact (at_any B cb b k (wr.drewN m) (HB.out.keep (bdrewN HBL.out m)) (by rw [HNB.out]; omega) (by omega)).mono fun _ _ h => ⟨h.1, h.2.symm⟩
      obtain ⟨g, rfl, hg, hcell⟩ := (HA.out.keep HBL.out) (by rw [HNA.out]; omega)
      have hck := hcell k (by rw [HNA.out]; omega)
      clear hcell
      have da := OA.out k
      have db := OB.out k
      have hk0 : (0 : Int) ≤ (k : Int) := by omega
      have hk1 : (k : Int) < (na : Int) := by omega
      by_cases hs : dn b k + br ≤ dn a k
      · have HP' := Lib.hid (HP.out.plain OA.out hs)
        generalize dn a k = x at *
        generalize dn b k = y at *
        have hw1 : IntKind.i64.wrap ((x : Int) - (y : Int)) = (x : Int) - (y : Int) := IntWalk.i64_in _ (by omega)
        have hw2 : IntKind.i64.wrap ((x : Int) - (y : Int) - (br : Int)) = (x : Int) - (y : Int) - (br : Int) := IntWalk.i64_in _ (by omega)
        go_wp2_with fail
        go_quiet ((go_at_call 53; exact Calls.quiet_of_same (CB.out _)))
        clear hw1 hw2
        go_wp2_with (at_builtin; refine append_digit rfl (.tmp 29) (.tmp 31) rfl w.heap.size k o (x - y - br) _ (by omega) _ (wr.drewN _) rfl HO.out rfl (by omega) hsz ?_; intro v' w1 hown' hb')
        go_roundw
        case rel => exact ⟨k + 1, 0, o ++ [x - y - br], by go_num, rfl, by omega, by omega, HP', hown', HBL.out.trans ((bdrewN (Below.refl _ _) _).trans hb')⟩
        case measure => simp [intOf]; omega
      · have HP' := Lib.hid (HP.out.borrow OB.out (by omega))
        generalize dn a k = x at *
        generalize dn b k = y at *
        have hw1 : IntKind.i64.wrap ((x : Int) - (y : Int)) = (x : Int) - (y : Int) := IntWalk.i64_in _ (by omega)
        have hw2 : IntKind.i64.wrap ((x : Int) - (y : Int) - (br : Int)) = (x : Int) - (y : Int) - (br : Int) := IntWalk.i64_in _ (by omega)
        go_wp2_with fail
        go_quiet ((go_at_call 53; exact Calls.quiet_of_same (CB.out _)))
        clear hw1 hw2
        go_wp2_with (at_builtin; refine append_digit rfl (.tmp 29) (.tmp 31) rfl w.heap.size k o (x + 1000 - y - br) _ (by omega) _ (wr.drewN _) rfl HO.out rfl (by omega) hsz ?_; intro v' w1 hown' hb')
        go_roundw
        case rel => exact ⟨k + 1, 1, o ++ [x + 1000 - y - br], by go_num, rfl, by omega, by omega, HP', hown', HBL.out.trans ((bdrewN (Below.refl _ _) _).trans hb')⟩
        case measure => simp [intOf]; omega
    · have HE : Hid (val o = val a - val b) := by
        have h := HP.out
        rw [show k = a.length by rw [HNA.out]; omega] at h
        exact h.done OA.out CN.out HAB.out
      go_wp2
      go_ret
      have hl := HP.out.len
      refine RetDig.mk (ds := o) (base := w.heap.size) (e := 3) ?_ HP.out.dok HE.out (by omega) HBL.out
      rw [hl]
      exact HO.out

end Go.Proofs.YtckeplbmkjoiaaaDoor
