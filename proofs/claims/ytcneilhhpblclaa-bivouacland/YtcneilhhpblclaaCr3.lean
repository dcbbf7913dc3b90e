/- Contracts of package crater, third part: hits in memory; each, its iterator; valid. -/
import Derived.Test.YtcneilhhpblclaaCr1
import Derived.Test.YtcneilhhpblclaaSeq9
namespace Go.Proofs.Ytcneilhhpblclaa
open Go.RowKit Go.Shelf
set_option linter.unusedVariables false
attribute [local go_sem] Oper.semAt_some

/-- The hits h 0 .. h (n - 1) lie at A. -/
def Hs (w : World) (A : Option Addr) (n : Nat) (h : Nat → Ht) : Prop :=
  0 < n → ∃ g o, A = some ⟨g, o, none⟩ ∧ g < w.heap.size ∧ ∀ i, i < n → w.cell? ⟨g, o + i * 4, none⟩ = some (.int .i64 (h i).I) ∧ w.cell? ⟨g, o + i * 4 + 1, none⟩ = some (.int .i64 (h i).J) ∧
    w.cell? ⟨g, o + i * 4 + 2, none⟩ = some (.int .i64 (h i).R) ∧ w.cell? ⟨g, o + i * 4 + 3, none⟩ = some (.int .i64 (h i).D)
theorem Hs.keep {w w' : World} {A : Option Addr} {n : Nat} {h : Nat → Ht} (hh : Hs w A n h) (hb : Below w.heap.size w w') : Hs w' A n h := by
  intro hn
  obtain ⟨g, o, e, hg, hc⟩ := hh hn
  exact ⟨g, o, e, Nat.lt_of_lt_of_le hg hb.size, fun i hi => ⟨kc hb (hc i hi).1, kc hb (hc i hi).2.1, kc hb (hc i hi).2.2.1, kc hb (hc i hi).2.2.2⟩⟩
theorem Hs.take {w : World} {A : Option Addr} {n m : Nat} {h : Nat → Ht} (hh : Hs w A n h) (hm : m ≤ n) : Hs w A m h := by
  intro hn
  obtain ⟨g, o, e, hg, hc⟩ := hh (by omega)
  exact ⟨g, o, e, hg, fun i hi => hc i (by omega)⟩

/-- Block g holds a hit, and may be written. -/
def H4 (W : World) (g : Nat) (h : Ht) : Prop := W.heap[g]? = some (.cells #[.int .i64 h.I, .int .i64 h.J, .int .i64 h.R, .int .i64 h.D] 23 (0, 0))
theorem H4.lt {W : World} {g : Nat} {h : Ht} (x : H4 W g h) : g < W.heap.size := (Array.getElem?_eq_some_iff.1 x).1
theorem H4.c {W : World} {g : Nat} {h : Ht} (x : H4 W g h) : W.cell? ⟨g, 0, none⟩ = some (.int .i64 h.I) ∧ W.cell? ⟨g, 1, none⟩ = some (.int .i64 h.J) ∧ W.cell? ⟨g, 2, none⟩ = some (.int .i64 h.R) ∧ W.cell? ⟨g, 3, none⟩ = some (.int .i64 h.D) := by
  refine ⟨?_, ?_, ?_, ?_⟩ <;> (rw [cell_of_row W g _ _ 23 (0, 0) x]; rfl)
theorem H4.new (W : World) (h : Ht) : H4 (W.alloc (.cells #[.int .i64 h.I, .int .i64 h.J, .int .i64 h.R, .int .i64 h.D] 23)) W.heap.size h := World.alloc_heap_new W _
theorem H4.block {W W' : World} {g : Nat} {h : Ht} (x : H4 W g h) (e : W'.heap[g]? = W.heap[g]?) : H4 W' g h := e.trans x

set_option maxHeartbeats 400000 in
theorem each_any (A : Option Addr) (n c : Nat) (w : World) : Calls Try.prog 30 #[.slice A n c] w fun e w' =>
    e = .returned (.func (.func 43) #[] #[.pointer (some ⟨w.heap.size, 0, none⟩)]) ∧ w' = w.alloc (.cells #[.slice A n c] 31) := by
  go_enter Try.func30, Try.ntmps30
  go_wp2
  go_ret
  exact ⟨rfl, rfl⟩

set_option maxRecDepth 100000 in
set_option maxHeartbeats 2000000 in
theorem each_seq (n gb N c : Nat) (A : Option Addr) (h : Nat → Ht) (w : World) (hn : 1 ≤ n) (hN : N ≤ maxLen) (hB : Boxed w gb 31 (.slice A N c)) (hH : Hs w A N h) :
    Seq9 Fence.wide n Try.prog 43 #[.pointer (some ⟨gb, 0, none⟩)] (fun q => #[hv (h q)]) N w := by
  intro l J Jx W hW hA hY h0
  unfold maxLen at hN
  have HA := Lib.hid hA
  have HY := Lib.hid hY
  have HJ := Lib.hid h0
  have hlt := hB.lt
  have HB : Hid (Boxed W gb 31 (.slice A N c)) := box_keepB hB hW hlt
  have HH : Hid (0 < N → ∃ g o, A = some ⟨g, o, none⟩ ∧ g < w.heap.size ∧ ∀ i, i < N → W.cell? ⟨g, o + i * 4, none⟩ = some (.int .i64 (h i).I) ∧ W.cell? ⟨g, o + i * 4 + 1, none⟩ = some (.int .i64 (h i).J) ∧
    W.cell? ⟨g, o + i * 4 + 2, none⟩ = some (.int .i64 (h i).R) ∧ W.cell? ⟨g, o + i * 4 + 3, none⟩ = some (.int .i64 (h i).D)) := by
    intro q
    obtain ⟨g, o, e, hg, hc⟩ := hH q
    exact ⟨g, o, e, hg, fun i hi => ⟨kc hW (hc i hi).1, kc hW (hc i hi).2.1, kc hW (hc i hi).2.2.1, kc hW (hc i hi).2.2.2⟩⟩
  clear hA hY h0 hH hW hB
  have hd1 : 1 ≤ n - 1 + 1 := by omega
  have k := HB.out.cell
  refine callsIn_of_wp Try.func43 rfl trivial ?_ rfl
  simp only [Try.ntmps43, List.size_toArray, List.length_cons, List.length_nil, Nat.reduceAdd, Nat.reduceSub, Array.replicate_succ, Array.replicate_zero, List.push_toArray, List.append_toArray, List.nil_append, List.cons_append]
  gi_wp2
  clear k HB
  gi_loopw [7] (fun s7 wr => ∃ q : Nat, q ≤ N ∧ s7 = .int .i64 (q : Int) ∧ J q wr ∧ Kb w.heap.size W wr) (fun s7 _ => N - (intOf s7).toNat)
  case atStart => exact ⟨0, by omega, rfl, HJ.out, Kb.refl _ _⟩
  case round =>
    obtain ⟨q, hq, rfl, hJ, hK⟩ := hrel
    clear HJ
    have HJ := Lib.hid hJ
    have HK := Lib.hid hK
    clear hJ hK
    by_cases hlast : q = N
    · have HJN : Hid (J N wr) := by rw [← hlast]; exact HJ.out
      have hb : ¬ (q : Int) < (N : Int) := by omega
      clear hlast
      gi_wp2
      go_end0
      exact ⟨⟨_, rfl⟩, .inl HJN.out⟩
    · have hqN : q < N := by omega
      have hqI : (q : Int) < (N : Int) := by omega
      obtain ⟨g, o, eA, hg, hc⟩ := HH.out (by omega)
      subst eA
      obtain ⟨c0, c1, c2, c3⟩ := hc q hqN
      have c0 := HK.out.cell hg c0
      have c1 := HK.out.cell hg c1
      have c2 := HK.out.cell hg c2
      have c3 := HK.out.cell hg c3
      clear hc
      have hy := HY.out q (wr.alloc (.cells #[.int .i64 (h q).I, .int .i64 (h q).J, .int .i64 (h q).R, .int .i64 (h q).D] 23)) hqN (HA.out.alloc _ HJ.out)
      unfold hv at hy
      obtain ⟨fn1, tm1, as1, bo1, hy1, hR1⟩ := hy
      clear hlast
      gi_wp2
      refine hR1.mono ?_
      rintro e W1 (⟨rfl, hJ1, hk1⟩ | ⟨rfl, hX1⟩)
      · have HJ1 := Lib.hid hJ1
        have HK1 : Hid (Kb w.heap.size W W1) := HK.out.trans ((Kb.below ((Below.refl _ _).alloc (Nat.le_refl _) _)).trans hk1)
        clear hJ1 hk1 hy1 hR1 c0 c1 c2 c3
        gi_wp2
        go_roundw
        case rel => exact ⟨q + 1, by omega, by go_num, HJ1.out, HK1.out⟩
        case measure => simp [intOf]; omega
      · have HX1 := Lib.hid hX1
        clear hX1 hy1 hR1 c0 c1 c2 c3
        gi_wp2
        exact bodyPost_ret (results_none rfl _ _ _) rfl ⟨⟨_, rfl⟩, .inr ⟨q, hqN, HX1.out⟩⟩

end Go.Proofs.Ytcneilhhpblclaa
