/- Contracts of package relief, tenth part: bytes of the call's own; Clone, Encode. -/
import Derived.Test.YtcneilhhpblclaaRel2
import Derived.OwnWalk
import Derived.Laws.OwnMore
import Derived.Lib.LazyBuf
namespace Go.Proofs.Ytcneilhhpblclaa
open Go.RowKit
set_option linter.unusedVariables false

theorem Try.infoB : (Try.prog.info? 5).map (fun i => (i.zero, i.size, i.bytes)) = some (some (.int .u8 0), 1, 1) := by kernel_rfl

/-- The first m bytes, as values. -/
def bv (q : Nat → Nat) (m : Nat) : List Value := (List.range m).map fun i => Value.int .u8 (q i : Int)
theorem bv_length (q : Nat → Nat) (m : Nat) : (bv q m).length = m := by simp [bv]
theorem bv_at (q : Nat → Nat) (m i : Nat) (h : i < m) : (bv q m)[i]? = some (.int .u8 (q i : Int)) := by simp [bv, h]
/-- m bytes of q, then those of p. -/
def catN (q : Nat → Nat) (m : Nat) (p : Nat → Nat) : Nat → Nat := fun i => if i < m then q i else p (i - m)
theorem bv_cat (q : Nat → Nat) (m : Nat) (p : Nat → Nat) (n : Nat) : bv q m ++ bv p n = bv (catN q m p) (m + n) := by
  apply List.ext_getElem?
  intro i
  by_cases h : i < m
  · rw [List.getElem?_append_left (by rw [bv_length]; exact h), bv_at _ _ _ h, bv_at _ _ _ (by omega)]
    simp [catN, h]
  · rw [List.getElem?_append_right (by rw [bv_length]; omega), bv_length]
    by_cases h2 : i < m + n
    · rw [bv_at _ _ _ (by omega), bv_at _ _ _ h2]
      simp [catN, h]
    · rw [List.getElem?_eq_none (by rw [bv_length]; omega), List.getElem?_eq_none (by rw [bv_length]; omega)]

/-- Bytes of the call's own: from block B on, and they may be written. -/
def Ob (w : World) (B : Nat) (A : Option Addr) (n : Nat) (p : Nat → Nat) : Prop :=
  0 < n → ∃ g, A = some ⟨g, 0, none⟩ ∧ B ≤ g ∧ g < w.heap.size ∧ (∀ i, i < n → w.cell? ⟨g, i, none⟩ = some (.int .u8 (p i : Int))) ∧ ∀ i, w.frozen? ⟨g, i, none⟩ = false
theorem Ob.keep {w w' : World} {B n : Nat} {A : Option Addr} {p : Nat → Nat} (h : Ob w B A n p) (hb : Below w.heap.size w w') : Ob w' B A n p := by
  intro hn
  obtain ⟨g, e, hB, hg, hc, hf⟩ := h hn
  exact ⟨g, e, hB, Nat.lt_of_lt_of_le hg hb.size, fun i hi => (hb.cell (p := ⟨g, i, none⟩) hg).trans (hc i hi), fun i => (hb.frozen (p := ⟨g, i, none⟩) hg).trans (hf i)⟩
theorem Ob.bs {w : World} {B n : Nat} {A : Option Addr} {p : Nat → Nat} (h : Ob w B A n p) : Bs w A n p := by
  intro hn
  obtain ⟨g, e, hB, hg, hc, hf⟩ := h hn
  exact ⟨g, 0, e, hg, fun i hi => by rw [Nat.zero_add]; exact hc i hi⟩
theorem Ob.base {w : World} {B B' n : Nat} {A : Option Addr} {p : Nat → Nat} (h : Ob w B A n p) (hB : B' ≤ B) : Ob w B' A n p := by
  intro hn
  obtain ⟨g, e, h1, hg, hc, hf⟩ := h hn
  exact ⟨g, e, by omega, hg, hc, hf⟩
theorem Ob.congr {w : World} {B n : Nat} {A : Option Addr} {p q : Nat → Nat} (h : Ob w B A n p) (e : ∀ i, i < n → p i = q i) : Ob w B A n q := by
  intro hn
  obtain ⟨g, e1, hB, hg, hc, hf⟩ := h hn
  exact ⟨g, e1, hB, hg, fun i hi => by rw [← e i hi]; exact hc i hi, hf⟩
theorem ob_own {w : World} {base c : Nat} {v : Value} {p : Nat → Nat} (h : w.ownsRow base 5 1 v c (bv p c)) :
    ∃ A k, v = .slice A c k ∧ c ≤ k ∧ k ≤ maxLen ∧ Ob w base A c p := by
  rcases h.2 with ⟨rfl, hn⟩ | ⟨g, cap, cur, rfl, hg, hh, hnc, hcm, _, _⟩
  · subst hn
    exact ⟨none, 0, rfl, Nat.le_refl _, by simp [maxLen], fun h0 => by omega⟩
  · refine ⟨_, cap, rfl, hnc, hcm, fun h0 => ⟨g, rfl, hg, ?_, fun i hi => ?_, fun i => ?_⟩⟩
    · rcases Nat.lt_or_ge g w.heap.size with hlt | hge
      · exact hlt
      · rw [Array.getElem?_eq_none hge] at hh; cases hh
    · have := World.ownsRow.cellAt h i (by omega)
      rw [this]
      exact bv_at p c i hi
    · simp [World.frozen?, hh]

/-- 'append(s, b...)': s a row of the call's own, b bytes that lie somewhere (one at least). -/
theorem append_bytes {ops : Array Oper} {rest : List Oper} {o : Oper} {a : Act} {Q : Exit → Act → World → Prop} (hgd : o.guard = none) (s x : Operand)
    (ho : o.op = .call { callee := .builtin .append, args := #[s, x], argTypes := #[28, 28] })
    (base m n c : Nat) (q p : Nat → Nat) (v : Value) (A : Option Addr) (w : World) (hs : a.eval s = v) (hown : w.ownsRow base 5 1 v m (bv q m))
    (hx : a.eval x = .slice A n c) (hb : Bs w A n p) (hn : 0 < n) (hmn : m + n ≤ 1000000) (hbase : base ≤ w.heap.size)
    (h : ∀ v' w', w'.ownsRow base 5 1 v' (m + n) (bv (catN q m p) (m + n)) → Below base w w' → wpList Try.prog ops Q rest (a.put o.dst v') w') :
    wpList Try.prog ops Q (o :: rest) a w := by
  obtain ⟨i0, hi, hz0, hz1, hz2⟩ := info_parts Try.infoB
  obtain ⟨g, off, rfl, hg, hc⟩ := hb hn
  refine wpList_append_own _ hgd s x 28 ho base 5 i0 (.int .u8 0) 1 1 Try.underlying28 hi hz0 hz1 hz2 rfl (by decide) v m (bv q m) hs hown ⟨g, off, none⟩ n c (bv p n) hx (by rw [bv_length]; omega) ?_ ?_ ?_ ?_ ?_ ?_
  · intro j u hj
    have hjl : j < n := by
      rcases Nat.lt_or_ge j n with h | h
      · exact h
      · rw [List.getElem?_eq_none (by rw [bv_length]; exact h)] at hj; cases hj
    rw [bv_at _ _ _ hjl] at hj
    injection hj with hj
    have e : (⟨g, off, none⟩ : Addr).add j = ⟨g, off + j, none⟩ := by unfold Addr.add; split <;> simp_all
    rw [e, hc j hjl, hj]
  · intro u hu
    simp [bv] at hu
    obtain ⟨i, _, rfl⟩ := hu
    rfl
  · unfold maxLen; omega
  · omega
  · exact hbase
  · intro v' w' hown' hgr _
    refine h v' w' (by rw [bv_cat] at hown'; exact hown') ?_
    exact (Below.refl base w).grown hgr hbase (fun k hk => (hown.lt k hk).1)

/-- Bytes of the call's own come back. -/
def RetOb (N : Nat) (q : Nat → Nat) (w : World) (e : Ending) (w' : World) : Prop :=
  ∃ A K, e = .returned (.slice A N K) ∧ N ≤ K ∧ K ≤ maxLen ∧ Ob w' w.heap.size A N q ∧ Below w.heap.size w w'

/-- W, H and Water as bytes. -/
def tri (W H T : Int) : Nat → Nat
  | 0 => W.toNat
  | 1 => H.toNat
  | _ => T.toNat
theorem tri_row {W H T : Int} (hS : Sides W H T) : [Value.int .u8 W, .int .u8 H, .int .u8 T] = bv (tri W H T) 3 := by
  obtain ⟨hW1, hW2, hH1, hH2, hT, hT2⟩ := hS
  have e1 : ((W.toNat : Nat) : Int) = W := by omega
  have e2 : ((H.toNat : Nat) : Int) = H := by omega
  have e3 : ((T.toNat : Nat) : Int) = T := by omega
  show _ = [Value.int .u8 ((W.toNat : Nat) : Int), .int .u8 ((H.toNat : Nat) : Int), .int .u8 ((T.toNat : Nat) : Int)]
  rw [e1, e2, e3]
theorem val_few {W H T : Int} {n : Nat} (hv : Val W H T n) : 4 ≤ n ∧ n ≤ 4225 := by
  obtain ⟨⟨hW1, hW2, hH1, hH2, hT, hT2⟩, he⟩ := hv
  obtain ⟨a0, a1⟩ := area_bd hW1 hW2 hH1 hH2
  have h : 2 * 2 ≤ (W + 1) * (H + 1) := Int.mul_le_mul (by omega) (by omega) (by omega) (by omega)
  omega

end Go.Proofs.Ytcneilhhpblclaa
