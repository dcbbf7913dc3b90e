/- Contracts of package ground, second part: Grid; the reference's Grid. -/
import Derived.Test.YtcipedijjemghaaDoorGr2
import Derived.OwnWalk
import Derived.Laws.OwnMore
namespace Go.Proofs.YtcipedijjemghaaDoor
open Go.RowKit
set_option linter.unusedVariables false

theorem Tryd.infoT : (Tryd.prog.info? 4).map (fun i => (i.zero, i.size, i.bytes)) = some (some (.bool false), 1, 1) := by kernel_rfl

theorem Bx.keepB {w X Y : World} {g B : Nat} {a b c d : Value} (h : Bx w g X a b c d) (hb : Below B X Y) (hg : g < B) (hB : w.heap.size ≤ B) : Bx w g Y a b c d :=
  ⟨h.ge, (hb.cell (p := ⟨g, 0, none⟩) hg).trans h.c0, (hb.cell (p := ⟨g, 1, none⟩) hg).trans h.c1, (hb.cell (p := ⟨g, 2, none⟩) hg).trans h.c2, (hb.cell (p := ⟨g, 3, none⟩) hg).trans h.c3,
    (hb.frozen (p := ⟨g, 0, none⟩) hg).trans h.f0, (hb.frozen (p := ⟨g, 1, none⟩) hg).trans h.f1, (hb.frozen (p := ⟨g, 2, none⟩) hg).trans h.f2, (hb.frozen (p := ⟨g, 3, none⟩) hg).trans h.f3, h.below.trans (hb.mono hB)⟩

/-- The first m answers, as values. -/
def bl (g : Nat → Bool) (m : Nat) : List Value := (List.range m).map fun i => Value.bool (g i)
theorem bl_length (g : Nat → Bool) (m : Nat) : (bl g m).length = m := by simp [bl]
theorem bl_at (g : Nat → Bool) (m i : Nat) (h : i < m) : (bl g m)[i]? = some (.bool (g i)) := by simp [bl, h]
theorem bl_succ (g : Nat → Bool) (m : Nat) : bl g (m + 1) = bl g m ++ [.bool (g m)] := by simp [bl, List.range_succ]

/-- N answers lie at A. -/
def Bv (w : World) (A : Option Addr) (N : Nat) (g : Nat → Bool) : Prop :=
  ∃ b, A = some ⟨b, 0, none⟩ ∧ b < w.heap.size ∧ ∀ i, i < N → w.cell? ⟨b, i, none⟩ = some (.bool (g i))
theorem Bv.keep {w w' : World} {A : Option Addr} {N : Nat} {g : Nat → Bool} (h : Bv w A N g) (hb : Below w.heap.size w w') : Bv w' A N g := by
  obtain ⟨b, e, hlt, hc⟩ := h
  exact ⟨b, e, Nat.lt_of_lt_of_le hlt hb.size, fun i hi => (hb.cell (p := ⟨b, i, none⟩) hlt).trans (hc i hi)⟩
theorem bv_own {w : World} {base N : Nat} {v : Value} {g : Nat → Bool} (hN : 0 < N) (h : w.ownsRow base 4 1 v N (bl g N)) :
    ∃ A k, v = .slice A N k ∧ N ≤ k ∧ k ≤ maxLen ∧ Bv w A N g := by
  rcases h.2 with ⟨rfl, hn⟩ | ⟨b, cap, cur, rfl, hg, hh, hnc, hcm, _, _⟩
  · omega
  · refine ⟨_, cap, rfl, hnc, hcm, b, rfl, (Array.getElem?_eq_some_iff.1 hh).1, fun i hi => ?_⟩
    rw [World.ownsRow.cellAt h i (by omega)]
    exact bl_at g N i hi

/-- 'l = append(l, b)': b lies in a new block of its own. -/
theorem append_b {ops : Array Oper} {rest : List Oper} {o : Oper} {a : Act} {Q : Exit → Act → World → Prop} (hgd : o.guard = none) (s x : Operand)
    (ho : o.op = .call { callee := .builtin .append, args := #[s, x], argTypes := #[22, 22] })
    (base k : Nat) (g : Nat → Bool) (v : Value) (w : World) (hs : a.eval s = v) (hown : w.ownsRow base 4 1 v k (bl g k))
    (hx : a.eval x = .slice (some ⟨w.heap.size, 0, none⟩) 1 1) (hk : k ≤ 1000000) (hbase : base ≤ w.heap.size)
    (h : ∀ v' w', w'.ownsRow base 4 1 v' (k + 1) (bl g (k + 1)) → Below base w w' → wpList Tryd.prog ops Q rest (a.put o.dst v') w') :
    wpList Tryd.prog ops Q (o :: rest) a (w.alloc (.cells #[.bool (g k)] 4)) := by
  obtain ⟨i0, hi, hz0, hz1, hz2⟩ := info_parts Tryd.infoT
  refine wpList_append_own _ hgd s x 22 ho base 4 i0 (.bool false) 1 1 Tryd.underlying22 hi hz0 hz1 hz2 rfl (by decide) v k (bl g k) hs (hown.alloc _) ⟨w.heap.size, 0, none⟩ 1 1 [.bool (g k)] hx rfl ?_ ?_ ?_ ?_ ?_ ?_
  · intro j u hj
    match j, hj with
    | 0, hj => simp at hj; subst hj; simp [Addr.add]
  · intro u hu; simp at hu; subst hu; rfl
  · unfold maxLen; omega
  · omega
  · simp; omega
  · intro v' w' hown' hg _
    refine h v' w' (by rw [bl_succ]; exact hown') ?_
    refine (((Below.refl base w).alloc hbase _).grown hg (by simp; omega) ?_)
    intro g hgg
    exact (hown.lt g hgg).1

/-- The open cells, by number. -/
def gr (p : Nat → Nat) (wd : Nat) (T c : Int) (k : Nat) : Bool := opAt p (wd : Int) T c ((k % wd : Nat) : Int) ((k / wd : Nat) : Int)
theorem gr_at (p : Nat → Nat) (wd : Nat) (T c : Int) {i j : Nat} (hi : i < wd) : gr p wd T c (wd * j + i) = opAt p (wd : Int) T c (i : Int) (j : Int) := by
  unfold gr
  have e1 : (wd * j + i) % wd = i := by rw [Nat.mul_add_mod, Nat.mod_eq_of_lt hi]
  have e2 : (wd * j + i) / wd = j := by rw [Nat.mul_add_div (by omega), Nat.div_eq_of_lt hi]; omega
  rw [e1, e2]
theorem land_bd {wd ht : Nat} (a : wd ≤ 64) (b : ht ≤ 64) : wd * ht ≤ 4096 := Nat.mul_le_mul a b
theorem row_bd {wd ht j i : Nat} (hj : j < ht) (hi : i ≤ wd) : wd * j + i ≤ wd * ht := by
  have := Nat.mul_le_mul_left wd (show j + 1 ≤ ht by omega)
  rw [Nat.mul_add] at this
  omega

/-- A grid comes back. -/
def RetGrid (N : Nat) (g : Nat → Bool) (w : World) (e : Ending) (w' : World) : Prop :=
  ∃ A K, e = .returned (.tuple #[.slice A N K, .int .i64 0]) ∧ N ≤ K ∧ K ≤ maxLen ∧ Bv w' A N g ∧ Below w.heap.size w w'
def RetRef (N : Nat) (g : Nat → Bool) (w : World) (e : Ending) (w' : World) : Prop :=
  ∃ A K, e = .returned (.slice A N K) ∧ N ≤ K ∧ K ≤ maxLen ∧ Bv w' A N g ∧ Below w.heap.size w w'
theorem nil_back {a b : Int} (f : a = b) : Value.tuple #[.slice none 0 0, .int .i64 a] = .tuple #[.slice none 0 0, .int .i64 b] := by rw [f]

set_option maxHeartbeats 400000 in
theorem grid_bad (W H T c : Int) (A : Option Addr) (n k : Nat) (w : World) (hn : n ≤ maxLen) (h : ¬ (Val W H T n ∧ Cls c)) :
    Calls Tryd.prog 22 #[.agg #[.int .i64 W, .int .i64 H, .int .i64 T, .slice A n k], .int .i64 c] w (Ret (.tuple #[.slice none 0 0, .int .i64 1]) w) := by
  by_cases hv : Val W H T n
  · have C := Lib.hid (fun u => check_ok W H T A n k u hn hv)
    have hc : ¬ Cls c := fun e => h ⟨hv, e⟩
    have hd : decide (Cls c) = false := by simp [hc]
    have C1 := Lib.hid (fun u => isClass_any c u)
    rw [hd] at C1
    clear h hv hc hd
    go_enter Tryd.func22, Tryd.ntmps22
    go_wp2_with fail
    refine (C.out _).mono ?_
    rintro e w1 ⟨rfl, b1⟩
    have B1 := Lib.hid (below_box b1)
    clear b1
    go_wp2_with fail
    refine (C1.out _).mono ?_
    rintro e w1 ⟨rfl, rfl⟩
    go_wp2
    go_ret2
    exact Ret.mk rfl B1.out
  · have C := Lib.hid (fun u => check_any W H T A n k u hn)
    obtain ⟨x, ex⟩ : ∃ x, chk W H T n = x := ⟨_, rfl⟩
    obtain ⟨k1, k2⟩ := chk_bad hv
    rw [ex] at C k1 k2
    have hx : (x != 0) = true := by simp; omega
    clear hv ex h
    go_enter Tryd.func22, Tryd.ntmps22
    go_wp2_with fail
    refine (C.out _).mono ?_
    rintro e w1 ⟨rfl, b1⟩
    have B1 := Lib.hid (below_box b1)
    clear b1
    go_wp2
    go_ret2
    exact Ret.mk rfl B1.out

set_option maxHeartbeats 2000000 in
theorem grid_in (wd ht : Nat) (T c : Int) (A : Option Addr) (n k : Nat) (p : Nat → Nat) (w : World) (hn : n ≤ maxLen) (hb : Bs w A n p) (hp : ∀ i, p i < 256) (hv : Val wd ht T n) (hc : Cls c) :
    Calls Tryd.prog 22 #[.agg #[.int .i64 (wd : Int), .int .i64 (ht : Int), .int .i64 T, .slice A n k], .int .i64 c] w (RetGrid (wd * ht) (gr p wd T c) w) := by
  obtain ⟨hW1, hW2, hH1, hH2, hT, hT2⟩ := hv.s
  have C0 := Lib.hid (fun u => check_ok wd ht T A n k u hn hv)
  have hd : decide (Cls c) = true := by simp [hc]
  have C1 := Lib.hid (fun u => isClass_any c u)
  rw [hd] at C1
  have C2 : Hid (∀ (i j : Nat) (u : World), i < wd → j < ht → Bs u A n p → Calls Tryd.prog 23 #[.agg #[.int .i64 (wd : Int), .int .i64 (ht : Int), .int .i64 T, .slice A n k], .int .i64 c, .int .i64 (i : Int), .int .i64 (j : Int)] u (Ret (.tuple #[.bool (gr p wd T c (wd * j + i)), .int .i64 0]) u)) := by
    intro i j u hi hj hu
    rw [gr_at p wd T c hi]
    exact open_in wd ht T c i j A n k p u hn hu hp hv hc (by omega) (by omega) (by omega) (by omega)
  have HB := Lib.hid hb
  have HX := Lib.hid (Bx.new w (.int .i64 (wd : Int)) (.int .i64 (ht : Int)) (.int .i64 T) (.slice A n k) 45)
  have hA : wd * ht ≤ 4096 := land_bd (by omega) (by omega)
  have EA : Hid ((wd : Int) * (ht : Int) = ((wd * ht : Nat) : Int)) := (Int.natCast_mul _ _).symm
  have a0 : 0 ≤ (wd : Int) * (ht : Int) := by rw [EA.out]; omega
  have a1 : (wd : Int) * (ht : Int) ≤ 4096 := by rw [EA.out]; omega
  have hN : 0 < wd * ht := Nat.mul_pos (by omega) (by omega)
  obtain ⟨i0, hi0, hz0, hz1, hz2⟩ := info_parts Tryd.infoT
  clear hv hb hp hc hd hn
  generalize gr p wd T c = g at *
  go_enter Tryd.func22, Tryd.ntmps22
  go_wp2_with fail
  refine (C0.out _).mono ?_
  rintro e w1 ⟨rfl, b1⟩
  have X1 := Lib.hid (HX.out.keep b1)
  clear b1 HX
  obtain ⟨-, c0, c1, c2, c3, -, -, -, -, -⟩ := X1.out
  go_wp2_with fail
  refine (C1.out _).mono ?_
  rintro e w1' ⟨rfl, rfl⟩
  have hs1 : w.heap.size + 1 ≤ w1.heap.size := World.block_lt_of_cell? w1 _ c0
  have eB : ∀ x : Nat, x ≤ 4096 → i0.bytes * x ≤ 281474976710656 := by intro x hx; rw [hz2]; omega
  go_wp2_with (at_make; refine wpList_make_own _ rfl _ _ 22 rfl (w.heap.size + 1) 4 i0 (.bool false) 1 Tryd.underlying22 hi0 hz0 hz1 .i64 .i64 _ (wd * ht) rfl rfl EA.out (eB _ hA) (by unfold maxLen; omega) hs1 ?_; intro w2 hown hg; have X2 := Lib.hid (X1.out.keep ((Below.refl _ _).grown hg (Nat.le_refl _) (by simp))); have HO := Lib.hid hown; clear hown hg c0 c1 c2 c3; obtain ⟨-, c0, c1, c2, c3, -, -, -, -, -⟩ := X2.out)
  clear C0 C1 X1 eB hi0 hz0 hz1 hz2 a0 a1 EA c0 c1 c2 c3
  go_loopw [6, 27] (fun v t wr => ∃ j : Nat, j ≤ ht ∧ t = .int .i64 (j : Int) ∧ wr.ownsRow (w.heap.size + 1) 4 1 v (wd * j) (bl g (wd * j)) ∧ Bx w w.heap.size wr (.int .i64 (wd : Int)) (.int .i64 (ht : Int)) (.int .i64 T) (.slice A n k)) (fun _ t _ => ht - (intOf t).toNat)
  case atStart => exact ⟨0, by omega, rfl, by simpa [bl] using HO.out, X2.out⟩
  case round =>
    obtain ⟨j, hj, rfl, hown, hX⟩ := hrel
    clear HO X2
    rename World => W1
    have HO := Lib.hid hown
    have X2 := Lib.hid hX
    clear hown hX
    obtain ⟨-, c0, c1, c2, c3, -, -, -, -, -⟩ := X2.out
    by_cases hlt : j < ht
    · go_wp2
      clear c0 c1 c2 c3
      go_loopw [6, 32] (fun v t wr => ∃ i : Nat, i ≤ wd ∧ t = .int .i64 (i : Int) ∧ wr.ownsRow (w.heap.size + 1) 4 1 v (wd * j + i) (bl g (wd * j + i)) ∧ Bx w w.heap.size wr (.int .i64 (wd : Int)) (.int .i64 (ht : Int)) (.int .i64 T) (.slice A n k)) (fun _ t _ => wd - (intOf t).toNat)
      case atStart => exact ⟨0, by omega, rfl, HO.out, X2.out⟩
      case round =>
        obtain ⟨i, hi, rfl, hown, hX⟩ := hrel
        clear HO X2
        have X3 := Lib.hid hX
        have HO := Lib.hid hown
        clear hown hX
        obtain ⟨-, c0, c1, c2, c3, -, -, -, -, -⟩ := X3.out
        by_cases hi2 : i < wd
        · have hrow : wd * j + i ≤ 4096 := Nat.le_trans (row_bd hlt hi) hA
          go_wp2_with fail
          refine (C2.out i j _ hi2 hlt (HB.out.keep X3.out.below)).mono ?_
          rintro e w3 ⟨rfl, b3⟩
          have X4 := Lib.hid (X3.out.keep b3)
          have HO4 := Lib.hid (HO.out.kept (w' := w3) (row := none) ⟨b3.os, b3.tape, b3.output, b3.size, fun k hk _ => b3.block k hk⟩ (by cases Value.ownBlock _ <;> simp))
          clear b3 X3 HO c0 c1 c2 c3
          have hs3 : w.heap.size + 1 ≤ w3.heap.size := World.block_lt_of_cell? w3 _ X4.out.c0
          go_wp2_with (at_builtin; refine append_b rfl (.tmp 43) (.tmp 45) rfl (w.heap.size + 1) (wd * j + i) g _ w3 rfl HO4.out rfl (by omega) hs3 ?_; intro v' w5 hown' hb')
          go_roundw
          case rel => exact ⟨i + 1, by omega, by go_num, hown', X4.out.keepB hb' (by omega) (by omega)⟩
          case measure => simp [intOf]; omega
        · have e : wd = i := by omega
          subst e
          clear c0 c1 c2 c3
          go_wp2
          go_roundw
          case rel => exact ⟨j + 1, by omega, by go_num, by rw [Nat.mul_add, Nat.mul_one]; exact HO.out, X3.out⟩
          case measure => simp [intOf]; omega
    · have e : ht = j := by omega
      subst e
      obtain ⟨A', K, rfl, k1, k2, hV⟩ := bv_own hN HO.out
      have HV := Lib.hid hV
      clear hV c0 c1 c2 c3 HO
      go_wp2
      go_ret2
      exact ⟨A', K, rfl, k1, k2, HV.out, X2.out.below⟩


end Go.Proofs.YtcipedijjemghaaDoor
