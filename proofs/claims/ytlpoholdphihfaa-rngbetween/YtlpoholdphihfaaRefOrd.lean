/- Contracts, sixth part: the reference's Order. -/
import Derived.Test.YtlpoholdphihfaaRng5
import Derived.OwnWalk
namespace Go.Proofs.Ytlpoholdphihfaa
open Go.RowKit
set_option linter.unusedVariables false

/-- The first k numbers, as values. -/
def ups (k : Nat) : List Value := (List.range k).map fun d : Nat => Value.int .i64 (d : Int)
theorem ups_succ (k : Nat) : ups (k + 1) = ups k ++ [.int .i64 (k : Int)] := by simp [ups, List.range_succ]

/-- 'l = append(l, i)': i lies in a new block of its own. -/
theorem append_up {ops : Array Oper} {rest : List Oper} {o : Oper} {a : Act} {Q : Exit → Act → World → Prop} (hgd : o.guard = none) (s x : Operand)
    (ho : o.op = .call { callee := .builtin .append, args := #[s, x], argTypes := #[34, 34] })
    (base k : Nat) (v : Value) (w : World) (hs : a.eval s = v) (hown : w.ownsRow base 3 1 v k (ups k))
    (hx : a.eval x = .slice (some ⟨w.heap.size, 0, none⟩) 1 1) (hk : k ≤ 1000000) (hbase : base ≤ w.heap.size)
    (h : ∀ v' w', w'.ownsRow base 3 1 v' (k + 1) (ups (k + 1)) → Below base w w' → wpList Try.prog ops Q rest (a.put o.dst v') w') :
    wpList Try.prog ops Q (o :: rest) a (w.alloc (.cells #[.int .i64 (k : Int)] 3)) := by
  obtain ⟨i0, hi, hz0, hz1, hz2⟩ := info_parts Try.infoI
  refine wpList_append_own _ hgd s x 34 ho base 3 i0 (.int .i64 0) 1 8 Try.underlying34 hi hz0 hz1 hz2 rfl (by decide) v k (ups k) hs (hown.alloc _) ⟨w.heap.size, 0, none⟩ 1 1 [.int .i64 (k : Int)] hx rfl ?_ ?_ ?_ ?_ ?_ ?_
  · intro j u hj
    match j, hj with
    | 0, hj => simp at hj; subst hj; simp [Addr.add]
  · intro u hu; simp at hu; subst hu; rfl
  · unfold maxLen; omega
  · omega
  · simp; omega
  · intro v' w' hown' hg _
    refine h v' w' (by rw [ups_succ]; exact hown') ?_
    refine (((Below.refl base w).alloc hbase _).grown hg (by simp; omega) ?_)
    intro g hgg
    exact (hown.lt g hgg).1

theorem bdrewN5 {B : Nat} {a w : World} (h : Below B a w) (k : Nat) : Below B a (w.drewN k) := ⟨h.os, h.tape, h.output, h.size, h.block⟩
/-- The numbers as a slice, nil where there are none. -/
def ArrO (w : World) (B : Nat) (A : Option Addr) (c : Nat) (p : Nat → Nat) : Prop := 0 < c → ∃ g, A = some ⟨g, 0, none⟩ ∧ Arr w B g c p
theorem ArrO.keep {w w' : World} {B c : Nat} {A : Option Addr} {p : Nat → Nat} (h : ArrO w B A c p) (hb : Below w.heap.size w w') : ArrO w' B A c p := by
  intro hc
  obtain ⟨g, e, ha⟩ := h hc
  exact ⟨g, e, ha.keep hb⟩
theorem arr_own {w : World} {base c : Nat} {v : Value} (h : w.ownsRow base 3 1 v c (ups c)) :
    ∃ A k, v = .slice A c k ∧ c ≤ k ∧ k ≤ maxLen ∧ ArrO w base A c (fun x => x) := by
  rcases h.2 with ⟨rfl, hn⟩ | ⟨g, cap, cur, rfl, hg, hh, hnc, hcm, _, _⟩
  · subst hn
    exact ⟨none, 0, rfl, Nat.le_refl _, by simp [maxLen], fun h0 => by omega⟩
  · refine ⟨_, cap, rfl, hnc, hcm, fun h0 => ⟨g, rfl, hg, ?_, fun i hi => ?_, fun i hi => ?_⟩⟩
    · rcases Nat.lt_or_ge g w.heap.size with hlt | hge
      · exact hlt
      · rw [Array.getElem?_eq_none hge] at hh; cases hh
    · have := World.ownsRow.cellAt h i (by omega)
      rw [this]
      simp [ups, hi]
    · simp [World.frozen?, hh]

/-- The reference's order comes back, in new memory. -/
def RetOrdR (c : Nat) (p : Nat → Nat) (w : World) (e : Ending) (w' : World) : Prop :=
  ∃ A k, e = .returned (.slice A c k) ∧ c ≤ k ∧ k ≤ maxLen ∧ ArrO w' w.heap.size A c p ∧ Below w.heap.size w w'

theorem refBelow_of {x y : Int} (s n m : Nat) (w : World) (hx : x = (n : Int)) (hy : y = (m : Int)) (hs : s < 18446744073709551616) (hn : n < 18446744073709551616) (hm : m < 18446744073709551616) :
    Calls Try.prog 13 #[.int .u64 (s : Int), .int .u64 x, .int .u64 y] w (Ret (.int .u64 ((belowN s n m : Nat) : Int)) w) := by
  subst hx hy
  exact refBelow_any s n m w hs hn hm

set_option maxHeartbeats 1000000 in
theorem refOrder_any (s n c : Nat) (w : World) (hs : s < 18446744073709551616) (hn : n < 18446744073709551616) (hc : c ≤ 256) :
    Calls Try.prog 16 #[.int .u64 (s : Int), .int .u64 (n : Int), .int .i64 (c : Int)] w (RetOrdR c (ord s n c (c - 1)) w) := by
  go_enter Try.func16, Try.ntmps16
  go_wp2
  go_loopw [7, 8] (fun v i wr => ∃ k : Nat, k ≤ c ∧ i = .int .i64 (k : Int) ∧ wr.ownsRow w.heap.size 3 1 v k (ups k) ∧ Below w.heap.size w wr) (fun _ i _ => c - (intOf i).toNat)
  case atStart => exact ⟨0, by omega, rfl, World.ownsRow_nil _ _ _ _, Below.refl _ _⟩
  case round =>
    obtain ⟨k, hk, rfl, hown, hbel⟩ := hrel
    have HO := Lib.hid hown
    have HBL := Lib.hid hbel
    have hsz := hbel.size
    clear hown hbel
    by_cases hlt : k < c
    · go_wp2_with (at_builtin; refine append_up rfl (.tmp 18) (.tmp 20) rfl w.heap.size k _ wr rfl HO.out rfl (by omega) hsz ?_; intro v' w1 hown' hb')
      go_roundw
      case rel => exact ⟨k + 1, by omega, by go_num, hown', HBL.out.trans hb'⟩
      case measure => simp [intOf]; omega
    · have e : c = k := by omega
      subst e
      obtain ⟨A, K, rfl, hK, hKm, hA⟩ := arr_own HO.out
      rename World => W1
      have HA := Lib.hid hA
      have HK := Lib.hid (And.intro hK hKm)
      clear hA hK hKm HO hsz hlt hk
      go_wp2
      go_loopw [9] (fun i wr => ∃ j : Nat, (j + 1 ≤ c ∨ j = 0) ∧ i = .int .i64 ((c : Int) - 1 - (j : Int)) ∧ ArrO wr w.heap.size A c (ord s n c j) ∧ Below w.heap.size w wr) (fun i _ => (intOf i).toNat)
      case atStart => exact ⟨0, Or.inr rfl, by go_num, HA.out, HBL.out⟩
      case round =>
        obtain ⟨j, hj, rfl, hA, hB⟩ := hrel
        clear HA HBL
        by_cases hlt : 0 < (c : Int) - 1 - (j : Int)
        · obtain ⟨I, hI⟩ : ∃ I : Nat, c - 1 - j = I := ⟨_, rfl⟩
          have e1 : (c : Int) - 1 - (j : Int) = (I : Int) := by omega
          rw [e1] at hlt ⊢
          have HS : Hid (ord s n c (j + 1) = swp (ord s n c j) I (belowN s (place n I) (I + 1))) := by
            show _ = _
            rw [ord, hI]
          have hJ : belowN s (place n I) (I + 1) < I + 1 := belowN_lt (by omega)
          have hIc : I < c := by omega
          have hkc : j + 1 < c := by omega
          have HM := Lib.hid (show ((I : Int) - 1) = (c : Int) - 1 - ((j + 1 : Nat) : Int) by omega)
          obtain ⟨g, rfl, hA1⟩ := hA (by omega)
          have HA := Lib.hid hA1
          clear hA1
          have HB := Lib.hid hB
          clear hA hB hI e1 hj
          go_wp2_with fail
          refine (refBelow_of s (place n I) (I + 1) _ (place_eq n I) ?_ hs (place_lt n I) (by omega)).mono ?_
          · first | rfl | omega
          rintro e w2 ⟨rfl, b2⟩
          have HA2 := Lib.hid (HA.out.keep b2)
          have HB2 := Lib.hid (HB.out.trans (b2.mono HB.out.size))
          clear HA HB b2
          obtain ⟨J, eJ⟩ : ∃ J, belowN s (place n I) (I + 1) = J := ⟨_, rfl⟩
          rw [eJ] at hJ HS ⊢
          have EJ := Lib.hid eJ
          clear eJ
          have hJc : J < c := by omega
          obtain ⟨p, ep⟩ : ∃ p, ord s n c j = p := ⟨_, rfl⟩
          rw [ep] at HA2 HS
          have EP := Lib.hid ep
          clear ep
          have hci := HA2.out.cell I hIc
          have hcj := HA2.out.cell J hJc
          have hfi := HA2.out.free I hIc
          have hfj := HA2.out.free J hJc
          have j0 : (0 : Int) ≤ (J : Int) := by omega
          have j1 : (J : Int) < (c : Int) := by omega
          have i0 : (0 : Int) ≤ (I : Int) := by omega
          have i1 : (I : Int) < (c : Int) := by omega
          have HX := Lib.hid (And.intro hs hn)
          clear hs hn
          go_wp2
          go_quiet (fail)
          have hA3 : Arr (w2.drewN nq) w.heap.size g c p := ⟨HA2.out.lo, HA2.out.hi, HA2.out.cell, HA2.out.free⟩
          have hB3 : Below w.heap.size w (w2.drewN nq) := bdrewN5 HB2.out nq
          clear hci hcj hfi hfj HA2 HB2
          generalize w2.drewN nq = w3 at *
          have hci := hA3.cell I hIc
          have hcj := hA3.cell J hJc
          have hfi := hA3.free I hIc
          have hfj := hA3.free J hJc
          obtain ⟨u, hu⟩ : ∃ u, (w3.setCell ⟨g, I, none⟩ (.int .i64 (p J : Int))).cell? ⟨g, J, none⟩ = some u := cell?_setCell_some hcj
          have HA3 := Lib.hid (hA3.swap hIc hJc)
          have HB3 := Lib.hid ((hB3.setCell (p := ⟨g, I, none⟩) hA3.lo (.int .i64 (p J : Int))).setCell (p := ⟨g, J, none⟩) hA3.lo (.int .i64 (p I : Int)))
          clear hA3 hB3
          go_wp2
          go_roundw
          case rel => exact ⟨j + 1, by omega, congrArg (Value.int .i64) HM.out, fun _ => ⟨g, rfl, by rw [HS.out]; exact HA3.out⟩, HB3.out⟩
          case measure => simp [intOf]; omega
        · have HE : Hid (c - 1 = j) := by
            show _ = _
            omega
          have HA := Lib.hid hA
          have HB := Lib.hid hB
          clear hA hB
          go_wp2
          go_ret
          exact ⟨A, K, rfl, HK.out.1, HK.out.2, by rw [HE.out]; exact HA.out, HB.out⟩

end Go.Proofs.Ytlpoholdphihfaa
