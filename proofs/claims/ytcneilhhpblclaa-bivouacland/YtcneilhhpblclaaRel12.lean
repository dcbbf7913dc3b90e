/- Contracts of layer 6, twelfth part: bytes as a string; the reference's Of and Same. -/
import Derived.Test.YtcneilhhpblclaaRel11
import Derived.Laws.BytesArg
import Derived.Maps.AppendAt
namespace Go.Proofs.Ytcneilhhpblclaa
open Go.RowKit
set_option linter.unusedVariables false

/-- The first n bytes as a string. -/
def sb (p : Nat → Nat) (n : Nat) : ByteArray := strOfNums ((List.range n).map fun i => (p i : Int))
theorem sb_congr {p q : Nat → Nat} {n : Nat} (h : ∀ i, i < n → p i = q i) : sb p n = sb q n := by
  unfold sb
  congr 1
  apply List.map_congr_left
  intro i hi
  rw [h i (by simpa using hi)]
theorem conv_any {w : World} {A : Option Addr} {n : Nat} {p : Nat → Nat} (h : Bs w A n p) (c : Nat) : (convert 28 9 (.slice A n c)).run Try.prog w = .ok (.string (sb p n)) w := by
  rcases Nat.eq_zero_or_pos n with h0 | h0
  · subst h0
    rw [run_convert_bytes_string w 28 9 5 _ 0 c Try.underlying28 Try.underlying5 Try.underlying9]
    cases A <;> simp [Conv.bytesToString, loadCells]
    all_goals rfl
  · obtain ⟨g, o, rfl, hg, hc⟩ := h h0
    exact run_convert_bytes_arg w 28 5 Try.underlying28 Try.underlying5 g o n c ((List.range n).map fun i => (p i : Int)) (by simp) (fun i hi => by
      rw [hc i hi]
      simp [List.getD, hi]) 9 Try.underlying9

/-- 'append(s, b...)' at a step of a region: b at an address, none of it or some. -/
theorem step_bytes {ops : Array Oper} {o : Oper} {a : Act} {K : Act → World → Prop} {Q : Exit → Act → World → Prop} {E : Prop} (hgd : o.guard = none) (s x : Operand)
    (ho : o.op = .call { callee := .builtin .append, args := #[s, x], argTypes := #[28, 28] })
    (base m n c : Nat) (q p : Nat → Nat) (v : Value) (ad : Addr) (w : World) (hs : a.eval s = v) (hown : w.ownsRow base 5 1 v m (bv q m))
    (hx : a.eval x = .slice (some ad) n c) (hb : Bs w (some ad) n p) (hmn : m + n ≤ 1000000) (hbase : base ≤ w.heap.size)
    (h : ∀ v' w', w'.ownsRow base 5 1 v' (m + n) (bv (catN q m p) (m + n)) → Below base w w' → K (a.put o.dst v') w') :
    if Region.wanted o (yielded ops a.tmps) = true then Oper.wp Try.prog o a w K Q else E := by
  have hw : Region.wanted o (yielded ops a.tmps) = true := by simp [Region.wanted, hgd]
  rw [if_pos hw]
  obtain ⟨i0, hi, hz0, hz1, hz2⟩ := info_parts Try.infoB
  have hnews : ∀ j u, (bv p n)[j]? = some u → w.cell? (ad.add j) = some u := by
    intro j u hj
    have hjl : j < n := by
      rcases Nat.lt_or_ge j n with h | h
      · exact h
      · rw [List.getElem?_eq_none (by rw [bv_length]; exact h)] at hj; cases hj
    obtain ⟨g, off, e, hg, hc⟩ := hb (by omega)
    injection e with e
    subst e
    rw [bv_at _ _ _ hjl] at hj
    injection hj with hj
    have e : (⟨g, off, none⟩ : Addr).add j = ⟨g, off + j, none⟩ := by unfold Addr.add; split <;> simp_all
    rw [e, hc j hjl, hj]
  obtain ⟨v', w', hr, h2, h3, _, h5⟩ := run_append_own_at (P := Try.prog) w base 28 o.type 5 i0 (.int .u8 0) 1 1 Try.underlying28 hi hz0 hz1 hz2 rfl (by decide) v m (bv q m) hown ad n c (bv p n) (by rw [bv_length]; omega) hnews
    (by intro u hu; simp [bv] at hu; obtain ⟨i, _, rfl⟩ := hu; rfl) (by unfold maxLen; omega) (by omega) hbase
  unfold Oper.wp execOp
  simp only [ho, resolve, invoke, builtin, Sem.run_bind, Sem.run_pure, Result.andThen_ok, List.map_toArray, List.map_cons, List.map_nil, hs, hx, hr]
  refine h v' w' (by rw [bv_cat] at h2; exact h2) ?_
  exact (Below.refl base w).grown h3 hbase (fun k hk => (hown.lt k hk).1)

theorem far4 {w : World} {B b i : Nat} {v x y z u : Value} (hne : b ≠ B) (h : w.cell? ⟨b, i, none⟩ = some v) : ((((w.setCell ⟨B, 0, none⟩ x).setCell ⟨B, 1, none⟩ y).setCell ⟨B, 2, none⟩ z).setCell ⟨B, 3, none⟩ u).cell? ⟨b, i, none⟩ = some v :=
  cell_far (cell_far (cell_far (cell_far h (.inl (Ne.symm hne))) (.inl (Ne.symm hne))) (.inl (Ne.symm hne))) (.inl (Ne.symm hne))
/-- The box lies below what was written. -/
theorem Bx.under {w X Y : World} {g B : Nat} {a b c d : Value} (h : Bx w g X a b c d) (hb : Below B X Y) (hg : g < B) (hB : w.heap.size ≤ B) : Bx w g Y a b c d :=
  ⟨h.ge, (hb.cell (p := ⟨g, 0, none⟩) hg).trans h.c0, (hb.cell (p := ⟨g, 1, none⟩) hg).trans h.c1, (hb.cell (p := ⟨g, 2, none⟩) hg).trans h.c2, (hb.cell (p := ⟨g, 3, none⟩) hg).trans h.c3,
    (hb.frozen (p := ⟨g, 0, none⟩) hg).trans h.f0, (hb.frozen (p := ⟨g, 1, none⟩) hg).trans h.f1, (hb.frozen (p := ⟨g, 2, none⟩) hg).trans h.f2, (hb.frozen (p := ⟨g, 3, none⟩) hg).trans h.f3, h.below.trans (hb.mono hB)⟩
/-- The bytes' map comes back, in new memory. -/
def RetOf (a b c : Int) (N : Nat) (q : Nat → Nat) (w : World) (e : Ending) (w' : World) : Prop :=
  ∃ A K, e = .returned (.agg #[.int .i64 a, .int .i64 b, .int .i64 c, .slice A N K]) ∧ N ≤ K ∧ K ≤ maxLen ∧ Ob w' w.heap.size A N q ∧ Below w.heap.size w w'

theorem slice3 (g o n c : Nat) (hn : 3 ≤ n) (hc : n ≤ c) (u : World) :
    (Instr.slice 28 (.slice (some ⟨g, o, none⟩) n c) (some (.int .i64 3)) none none).run Try.prog u = .ok (.slice (some (if c = 3 then ⟨g, o, none⟩ else ⟨g, o + 3, none⟩)) (n - 3) (c - 3)) u := by
  by_cases h : c = 3
  · rw [if_pos h]
    have h0 : (3 : Int) ≤ (n : Int) := by omega
    go_simp
  · rw [if_neg h]
    have h0 : (3 : Int) ≤ (n : Int) := by omega
    go_simp

set_option maxHeartbeats 1000000 in
theorem same_yes (a b c : Int) (A B : Option Addr) (n k l : Nat) (p q : Nat → Nat) (w : World) (hA : Bs w A n p) (hB : Bs w B n q) (he : ∀ i, i < n → p i = q i) (hn : n ≤ maxLen) :
    Calls Try.prog 18 #[.agg #[.int .i64 a, .int .i64 b, .int .i64 c, .slice A n k], .agg #[.int .i64 a, .int .i64 b, .int .i64 c, .slice B n l]] w (Ret (.bool true) w) := by
  have cA := conv_any ((hA.alloc (.cells #[.int .i64 a, .int .i64 b, .int .i64 c, .slice A n k] 30)).alloc (.cells #[.int .i64 a, .int .i64 b, .int .i64 c, .slice B n l] 30)) k
  have cB := conv_any ((hB.alloc (.cells #[.int .i64 a, .int .i64 b, .int .i64 c, .slice A n k] 30)).alloc (.cells #[.int .i64 a, .int .i64 b, .int .i64 c, .slice B n l] 30)) l
  rw [sb_congr he] at cA
  clear hA hB he
  generalize sb q n = s at *
  go_enter Try.func18, Try.ntmps18
  go_wp2
  go_ret
  exact Ret.mk (by simp) (((Below.refl _ _).alloc (Nat.le_refl _) _).alloc (by simp) _)

end Go.Proofs.Ytcneilhhpblclaa
