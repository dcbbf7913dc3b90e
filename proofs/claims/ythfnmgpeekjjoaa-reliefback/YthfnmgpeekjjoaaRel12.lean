/- Contracts of layer 6, twelfth part: bytes as a string; the reference's Of and Same. -/
import Derived.Test.YthfnmgpeekjjoaaRel11
import Derived.Laws.BytesArg
import Derived.Maps.AppendAt
namespace Go.Proofs.Ythfnmgpeekjjoaa
open Go.RowKit
set_option linter.unusedVariables false

/-- The first n bytes as a string. -/
def sb (p : Nat → Nat) (n : Nat) : ByteArray := strOfNums ((List.range n).map fun i => (p i : Int))
theorem sb_congr {p q : Nat → Nat} {n : Nat} (h : ∀ i, i < n → p i = q i) : sb p n = sb q n := by
  unfold sb
  congr 1
  apply List.map_congr_left
  intro i hi
  rw [h i (by simpa using hi)]
theorem conv_any {w : World} {A : Option Addr} {n : Nat} {p : Nat → Nat} (h : Bs w A n p) (c : Nat) : (convert 22 9 (.slice A n c)).run Try.prog w = .ok (.string (sb p n)) w := by
  rcases Nat.eq_zero_or_pos n with h0 | h0
  · subst h0
    rw [run_convert_bytes_string w 22 9 5 _ 0 c Try.underlying22 Try.underlying5 Try.underlying9]
    cases A <;> simp [Conv.bytesToString, loadCells]
    all_goals rfl
  · obtain ⟨g, o, rfl, hg, hc⟩ := h h0
    exact run_convert_bytes_arg w 22 5 Try.underlying22 Try.underlying5 g o n c ((List.range n).map fun i => (p i : Int)) (by simp) (fun i hi => by
      rw [hc i hi]
      simp [List.getD, hi]) 9 Try.underlying9

/-- 'append(s, b...)' at a step of a region: b at an address, none of it or some. -/
theorem step_bytes {ops : Array Oper} {o : Oper} {a : Act} {K : Act → World → Prop} {Q : Exit → Act → World → Prop} {E : Prop} (hgd : o.guard = none) (s x : Operand)
    (ho : o.op = .call { callee := .builtin .append, args := #[s, x], argTypes := #[22, 22] })
    (base m n c : Nat) (q p : Nat → Nat) (v : Value) (ad : Addr) (w : World) (hs : a.eval s = v) (hown : w.ownsRow base 5 1 v m (bv q m))
    (hx : a.eval x = .slice (some ad) n c) (hb : Bs w (some ad) n p) (hmn : m + n ≤ 1000000) (hbase : base ≤ w.heap.size)
    (h : ∀ v' w', w'.ownsRow base 5 1 v' (m + n) (bv (catN q m p) (m + n)) → Below base w w' → K (a.put o.dst v') w') :
    if Region.wanted o (yielded ops a.tmps) = true then Oper.wp Try.prog o a w K Q else E := by
  have hw : Region.wanted o (yielded ops a.tmps) = true := by simp [Region.wanted, hgd]
  rw [if_pos hw]
  obtain ⟨i0, hi, hz0, hz1, hz2⟩ := info_parts Try.infoB
  have hnews : ∀ j u, (bv p n)[j]? = some u → w.cell? (ad.add j) = some u := by
    intro j u hj
    have hjl : j < n := by
      rcases Nat.lt_or_ge j n with h | h
      · exact h
      · rw [List.getElem?_eq_none (by rw [bv_length]; exact h)] at hj; cases hj
    obtain ⟨g, off, e, hg, hc⟩ := hb (by omega)
    injection e with e
    subst e
    rw [bv_at _ _ _ hjl] at hj
    injection hj with hj
    have e : (⟨g, off, none⟩ : Addr).add j = ⟨g, off + j, none⟩ := by unfold Addr.add; split <;> simp_all
    rw [e, hc j hjl, hj]
  obtain ⟨v', w', hr, h2, h3, _, h5⟩ := run_append_own_at (P := Try.prog) w base 22 o.type 5 i0 (.int .u8 0) 1 1 Try.underlying22 hi hz0 hz1 hz2 rfl (by decide) v m (bv q m) hown ad n c (bv p n) (by rw [bv_length]; omega) hnews
    (by intro u hu; simp [bv] at hu; obtain ⟨i, _, rfl⟩ := hu; rfl) (by unfold maxLen; omega) (by omega) hbase
  unfold Oper.wp execOp
  simp only [ho, resolve, invoke, builtin, Sem.run_bind, Sem.run_pure, Result.andThen_ok, List.map_toArray, List.map_cons, List.map_nil, hs, hx, hr]
  refine h v' w' (by rw [bv_cat] at h2; exact h2) ?_
  exact (Below.refl base w).grown h3 hbase (fun k hk => (hown.lt k hk).1)

theorem far4 {w : World} {B b i : Nat} {v x y z u : Value} (hne : b ≠ B) (h : w.cell? ⟨b, i, none⟩ = some v) : ((((w.setCell ⟨B, 0, none⟩ x).setCell ⟨B, 1, none⟩ y).setCell ⟨B, 2, none⟩ z).setCell ⟨B, 3, none⟩ u).cell? ⟨b, i, none⟩ = some v :=
  cell_far (cell_far (cell_far (cell_far h (.inl (Ne.symm hne))) (.inl (Ne.symm hne))) (.inl (Ne.symm hne))) (.inl (Ne.symm hne))
/-- The box lies below what was written. -/
theorem Bx.under {w X Y : World} {g B : Nat} {a b c d : Value} (h : Bx w g X a b c d) (hb : Below B X Y) (hg : g < B) (hB : w.heap.size ≤ B) : Bx w g Y a b c d :=
  ⟨h.ge, (hb.cell (p := ⟨g, 0, none⟩) hg).trans h.c0, (hb.cell (p := ⟨g, 1, none⟩) hg).trans h.c1, (hb.cell (p := ⟨g, 2, none⟩) hg).trans h.c2, (hb.cell (p := ⟨g, 3, none⟩) hg).trans h.c3,
    (hb.frozen (p := ⟨g, 0, none⟩) hg).trans h.f0, (hb.frozen (p := ⟨g, 1, none⟩) hg).trans h.f1, (hb.frozen (p := ⟨g, 2, none⟩) hg).trans h.f2, (hb.frozen (p := ⟨g, 3, none⟩) hg).trans h.f3, h.below.trans (hb.mono hB)⟩
/-- The bytes' map comes back, in new memory. -/
def RetOf (a b c : Int) (N : Nat) (q : Nat → Nat) (w : World) (e : Ending) (w' : World) : Prop :=
  ∃ A K, e = .returned (.agg #[.int .i64 a, .int .i64 b, .int .i64 c, .slice A N K]) ∧ N ≤ K ∧ K ≤ maxLen ∧ Ob w' w.heap.size A N q ∧ Below w.heap.size w w'

set_option maxHeartbeats 1000000 in
theorem of_core (g o n c : Nat) (ad : Addr) (p q : Nat → Nat) (w : World) (hb : Bs w (some ⟨g, o, none⟩) n p) (hp : ∀ i, p i < 256) (hn : 3 ≤ n) (hn2 : n ≤ 4300) (hnc : n ≤ c) (hc : c ≤ maxLen) (N K : Nat) (eN : Hid (n - 3 = N)) (hB : Bs w (some ad) N q)
    (hsl : ∀ u : World, (Instr.slice 22 (.slice (some ⟨g, o, none⟩) n c) (some (.int .i64 3)) none none).run Try.prog u = .ok (.slice (some ad) N K) u) :
    Calls Try.prog 25 #[.slice (some ⟨g, o, none⟩) n c] w (RetOf (p 0) (p 1) (p 2) N q w) := by
  obtain ⟨g', o', e, hg, hcell⟩ := hb (by omega)
  injection e with e
  injection e with e1 e2
  subst e1 e2
  have q0 : w.cell? ⟨g, o, none⟩ = some (.int .u8 (p 0 : Int)) := hcell 0 (by omega)
  have q1 := hcell 1 (by omega)
  have q2 := hcell 2 (by omega)
  have r0 := hp 0
  have r1 := hp 1
  have r2 := hp 2
  have HB := Lib.hid hB
  have hN : N ≤ 4300 := by have := eN.out; omega
  clear hcell hb hp hB eN
  generalize p 0 = v0 at *
  generalize p 1 = v1 at *
  generalize p 2 = v2 at *
  unfold maxLen at hc
  have x0 := IntWalk.i64_in (v0 : Int) (by omega)
  have x1 := IntWalk.i64_in (v1 : Int) (by omega)
  have x2 := IntWalk.i64_in (v2 : Int) (by omega)
  have t0 : (0 : Int) < (n : Int) := by omega
  have t1 : (1 : Int) < (n : Int) := by omega
  have t2 : (2 : Int) < (n : Int) := by omega
  have t3 : (3 : Int) ≤ (n : Int) := by omega
  have t0' : 0 < n := by omega
  have HX := Lib.hid (Bx.new w (.int .i64 0) (.int .i64 0) (.int .i64 0) (.slice none 0 0) 24)
  go_enter Try.func25, Try.ntmps25
  go_wp2
  have HZ := Lib.hid HX.out.c0
  have p0 := kc HX.out.below q0
  have p1 := kc HX.out.below q1
  have p2 := kc HX.out.below q2
  clear q0 q1 q2
  generalize w.alloc (.cells #[.int .i64 0, .int .i64 0, .int .i64 0, .slice none 0 0] 24) = X at *
  have HO : Hid ((X.alloc (.cells #[] 5)).drew.ownsRow w.heap.size 5 1 (.slice (some ⟨X.heap.size, 0, none⟩) 0 0) 0 (bv q 0)) := (World.ownsRow_lit X #[] 0 HX.out.below.size (by simp [maxLen]) (by simp)).drew
  have HBX : Hid (Bs (X.alloc (.cells #[] 5)).drew (some ad) N q) := HB.out.keep (HX.out.below.alloc HX.out.below.size _).drew
  have HS : Hid (w.heap.size ≤ (X.alloc (.cells #[] 5)).drew.heap.size) := by
    show _ ≤ (X.alloc (.cells #[] 5)).heap.size
    rw [size_alloc]
    have := HX.out.below.size
    omega
  have HG : Hid (w.heap.size < X.heap.size) := World.block_lt_of_cell? _ _ HZ.out
  have HXX := Lib.hid (HX.out.keep ((Below.refl _ _).alloc (Nat.le_refl _) (.cells #[] 5))).drew
  have HO' : Hid ((X.alloc (.cells #[] 5)).drew.ownsRow (w.heap.size + 1) 5 1 (.slice (some ⟨X.heap.size, 0, none⟩) 0 0) 0 (bv q 0)) := (World.ownsRow_lit X #[] 0 HG.out (by simp [maxLen]) (by simp)).drew
  have HS' : Hid (w.heap.size + 1 ≤ (X.alloc (.cells #[] 5)).drew.heap.size) := by
    show _ ≤ (X.alloc (.cells #[] 5)).heap.size
    rw [size_alloc]
    have := HG.out
    omega
  have PP : Hid (∀ w1, Below (w.heap.size + 1) (X.alloc (.cells #[] 5)).drew w1 → w1.cell? ⟨g, o, none⟩ = some (.int .u8 (v0 : Int)) ∧ w1.cell? ⟨g, o + 1, none⟩ = some (.int .u8 (v1 : Int)) ∧ w1.cell? ⟨g, o + 2, none⟩ = some (.int .u8 (v2 : Int))) := by
    intro w1 hb1
    have k0 := kc ((Below.refl _ X).alloc (Nat.le_refl _) (.cells #[] 5)) p0
    have k1 := kc ((Below.refl _ X).alloc (Nat.le_refl _) (.cells #[] 5)) p1
    have k2 := kc ((Below.refl _ X).alloc (Nat.le_refl _) (.cells #[] 5)) p2
    exact ⟨(hb1.cell (p := ⟨g, o, none⟩) (by simp; omega)).trans k0, (hb1.cell (p := ⟨g, o + 1, none⟩) (by simp; omega)).trans k1, (hb1.cell (p := ⟨g, o + 2, none⟩) (by simp; omega)).trans k2⟩
  have hne : g ≠ w.heap.size := by omega
  clear HO HS
  go_region_held3 (fun w' => w'.cell? ⟨g, o, none⟩ = some (.int .u8 (v0 : Int)) ∧ w'.cell? ⟨g, o + 1, none⟩ = some (.int .u8 (v1 : Int)) ∧ w'.cell? ⟨g, o + 2, none⟩ = some (.int .u8 (v2 : Int)))
    (go_keep)
    ((refine step_bytes rfl (.tmp 15) (.tmp 17) rfl (w.heap.size + 1) 0 N K q q _ ad _ rfl HO'.out rfl HBX.out (by omega) HS'.out ?_; intro v' w1 hown' hb'; obtain ⟨A2, K2, rfl, hK1, hK2, hOb⟩ := ob_own hown'; have HOb := Lib.hid hOb; have HK := Lib.hid (And.intro hK1 hK2); clear hown' hOb hK1 hK2; have U := Lib.hid (HXX.out.under hb' (Nat.lt_succ_self _) (Nat.le_succ _)); obtain ⟨s0, s1, s2⟩ := PP.out _ hb'; clear hb'; obtain ⟨_, d0, d1, d2, d3, f0, f1, f2, f3, _⟩ := U.out; have m0 := fun x y z u => far4 (x := x) (y := y) (z := z) (u := u) hne s0; have m1 := fun x y z u => far4 (x := x) (y := y) (z := z) (u := u) hne s1; have m2 := fun x y z u => far4 (x := x) (y := y) (z := z) (u := u) hne s2))
  clear m0 m1 m2
  go_wp2
  have HP := U.out.put (.int .i64 (v0 : Int)) (.int .i64 (v1 : Int)) (.int .i64 (v2 : Int)) (.slice A2 (0 + N) K2)
  have HQ := HOb.out.put (Nat.lt_succ_self _) (.int .i64 (v0 : Int)) (.int .i64 (v1 : Int)) (.int .i64 (v2 : Int)) (.slice A2 (0 + N) K2)
  have HK' := HK.out
  unfold put4 at HP HQ
  rw [Nat.zero_add] at HP HQ HK'
  refine bodyPost_ret (v := .agg #[.int .i64 (v0 : Int), .int .i64 (v1 : Int), .int .i64 (v2 : Int), .slice A2 N K2]) (by simp [results, Try.results25, go_sem, HP.c0, HP.c1, HP.c2, HP.c3]) rfl ?_
  exact ⟨A2, K2, rfl, HK'.1, HK'.2, (HQ.base (Nat.le_succ _)).congr (fun i _ => by simp [catN]), HP.below⟩

theorem slice3 (g o n c : Nat) (hn : 3 ≤ n) (hc : n ≤ c) (u : World) :
    (Instr.slice 22 (.slice (some ⟨g, o, none⟩) n c) (some (.int .i64 3)) none none).run Try.prog u = .ok (.slice (some (if c = 3 then ⟨g, o, none⟩ else ⟨g, o + 3, none⟩)) (n - 3) (c - 3)) u := by
  by_cases h : c = 3
  · rw [if_pos h]
    have h0 : (3 : Int) ≤ (n : Int) := by omega
    go_simp
  · rw [if_neg h]
    have h0 : (3 : Int) ≤ (n : Int) := by omega
    go_simp

theorem of_any (A : Option Addr) (n c : Nat) (p : Nat → Nat) (w : World) (hb : Bs w A n p) (hp : ∀ i, p i < 256) (hn : 3 ≤ n) (hn2 : n ≤ 4300) (hnc : n ≤ c) (hc : c ≤ maxLen) :
    Calls Try.prog 25 #[.slice A n c] w (RetOf (p 0) (p 1) (p 2) (n - 3) (fun i => p (3 + i)) w) := by
  obtain ⟨g, o, rfl, _, _⟩ := hb (by omega)
  refine of_core g o n c _ p _ w hb hp hn hn2 hnc hc (n - 3) (c - 3) (show n - 3 = n - 3 from rfl) ?_ (fun u => slice3 g o n c hn hnc u)
  have h := behind_bs hb hn hnc
  unfold behind at h
  by_cases h3 : c = 3
  · rw [if_pos h3] at h ⊢
    exact h
  · rw [if_neg h3] at h ⊢
    exact h

set_option maxHeartbeats 1000000 in
theorem same_yes (a b c : Int) (A B : Option Addr) (n k l : Nat) (p q : Nat → Nat) (w : World) (hA : Bs w A n p) (hB : Bs w B n q) (he : ∀ i, i < n → p i = q i) (hn : n ≤ maxLen) :
    Calls Try.prog 24 #[.agg #[.int .i64 a, .int .i64 b, .int .i64 c, .slice A n k], .agg #[.int .i64 a, .int .i64 b, .int .i64 c, .slice B n l]] w (Ret (.bool true) w) := by
  have cA := conv_any ((hA.alloc (.cells #[.int .i64 a, .int .i64 b, .int .i64 c, .slice A n k] 24)).alloc (.cells #[.int .i64 a, .int .i64 b, .int .i64 c, .slice B n l] 24)) k
  have cB := conv_any ((hB.alloc (.cells #[.int .i64 a, .int .i64 b, .int .i64 c, .slice A n k] 24)).alloc (.cells #[.int .i64 a, .int .i64 b, .int .i64 c, .slice B n l] 24)) l
  rw [sb_congr he] at cA
  clear hA hB he
  generalize sb q n = s at *
  go_enter Try.func24, Try.ntmps24
  go_wp2
  go_ret
  exact Ret.mk (by simp) (((Below.refl _ _).alloc (Nat.le_refl _) _).alloc (by simp) _)

end Go.Proofs.Ythfnmgpeekjjoaa
