/- Contracts of package ray, ninth part: Seen. -/
import Derived.Test.YtljedkceicahaaaRy9
namespace Go.Proofs.Ytljedkceicahaaa
open Go.RowKit Go.Shelf
set_option linter.unusedVariables false

/-- Is the cell (c, d) near, and is it seen? -/
def nrAt (a b r c d : Int) : Bool := decide ((c - a) * (c - a) + (d - b) * (d - b) ≤ r * r)
def snAt (p : Nat → Nat) (W a b high r c d : Int) : Bool := nrAt a b r c d && seesB p W a b c d (cLo p W a b + high) (cLo p W c d + 0)
def sn (p : Nat → Nat) (wd : Nat) (a b high r : Int) (k : Nat) : Bool := snAt p (wd : Int) a b high r ((k % wd : Nat) : Int) ((k / wd : Nat) : Int)
theorem sn_at (p : Nat → Nat) (wd : Nat) (a b high r : Int) {i j : Nat} (hi : i < wd) : sn p wd a b high r (wd * j + i) = snAt p (wd : Int) a b high r (i : Int) (j : Int) := by
  unfold sn
  have e1 : (wd * j + i) % wd = i := by rw [Nat.mul_add_mod, Nat.mod_eq_of_lt hi]
  have e2 : (wd * j + i) / wd = j := by rw [Nat.mul_add_div (by omega), Nat.div_eq_of_lt hi]; omega
  rw [e1, e2]
/-- A height and a radius that are let by. -/
def Hr (high r : Int) : Prop := 0 ≤ high ∧ high ≤ 255 ∧ 0 ≤ r ∧ r ≤ 64
instance (x y : Int) : Decidable (Hr x y) := by unfold Hr; exact inferInstance

theorem one_upto {m x : Int} (h0 : 0 ≤ x) (h1 : x ≤ m) : Upto m (fun _ => x) 1 := fun _ _ => ⟨h0, h1⟩
theorem one_not {m x : Int} (h : ¬ (0 ≤ x ∧ x ≤ m)) : ¬ Upto m (fun _ => x) 1 := fun g => h (g 0 (by decide))
theorem P2.keepB {W W' : World} {g B : Nat} {x y : Int} (h : P2 W g x y) (hb : Below B W W') (hg : g < B) : P2 W' g x y := h.block (hb.block g hg)

theorem append_bx {ops : Array Oper} {rest : List Oper} {o : Oper} {a : Act} {Q : Exit → Act → World → Prop} (hgd : o.guard = none) (s x : Operand)
    (ho : o.op = .call { callee := .builtin .append, args := #[s, x], argTypes := #[47, 47] })
    (base k : Nat) (g : Nat → Bool) (v : Value) (w : World) (y : Bool) (hy : g k = y) (hs : a.eval s = v) (hown : w.ownsRow base 4 1 v k (bl g k))
    (hx : a.eval x = .slice (some ⟨w.heap.size, 0, none⟩) 1 1) (hk : k ≤ 1000000) (hbase : base ≤ w.heap.size)
    (h : ∀ v' w', w'.ownsRow base 4 1 v' (k + 1) (bl g (k + 1)) → Below base w w' → wpList Try.prog ops Q rest (a.put o.dst v') w') :
    wpList Try.prog ops Q (o :: rest) a (w.alloc (.cells #[.bool y] 4)) := by
  subst hy
  exact append_b hgd s x ho base k g v w hs hown hx hk hbase h

theorem M1.new (w : World) (m0 m1 m2 m3 : Value) (a b : Int) :
    Bx w w.heap.size ((w.alloc (.cells #[m0, m1, m2, m3] 24)).alloc (.cells #[.int .i64 a, .int .i64 b] 36)) m0 m1 m2 m3 ∧ P2 ((w.alloc (.cells #[m0, m1, m2, m3] 24)).alloc (.cells #[.int .i64 a, .int .i64 b] 36)) (w.heap.size + 1) a b := by
  refine ⟨(Bx.new w m0 m1 m2 m3 _).keep ((Below.refl _ _).alloc (Nat.le_refl _) _), ?_⟩
  have h := P2.new (w.alloc (.cells #[m0, m1, m2, m3] 24)) a b
  rw [size_alloc] at h
  exact h

set_option maxHeartbeats 400000 in
theorem Seen_arg (W H T a b high r : Int) (D : Option Addr) (n cp : Nat) (w : World) (hh : ¬ Hr high r) :
    Calls Try.prog 22 #[.agg #[.int .i64 W, .int .i64 H, .int .i64 T, .slice D n cp], .agg #[.int .i64 a, .int .i64 b], .int .i64 high, .int .i64 r] w
      (Ret (.tuple #[.slice none 0 0, .int .i64 1]) w) := by
  have HX := Lib.hid (M1.new w (.int .i64 W) (.int .i64 H) (.int .i64 T) (.slice D n cp) a b).1
  have HY := Lib.hid (HX.out.keep ((Below.refl _ _).alloc (Nat.le_refl _) (.cells #[.int .i64 high] 3)))
  by_cases h1 : 0 ≤ high ∧ high ≤ 255
  · have hr : ¬ (0 ≤ r ∧ r ≤ 64) := fun g => hh ⟨h1.1, h1.2, g.1, g.2⟩
    have U := Lib.hid (fun (u : World) (g : Nat) h0 => upTo_yes 255 (fun _ => high) g 1 1 u (by decide) (one_cell h0) (one_upto h1.1 h1.2))
    have U2 := Lib.hid (fun (u : World) (g : Nat) h0 => upTo_no 64 (fun _ => r) g 1 1 u (by decide) (one_cell h0) (one_not hr))
    clear hh h1 hr
    go_enter Try.func22, Try.ntmps22
    go_wp2_with fail
    refine (U.out _ _ ?h0).mono ?_
    case h0 => rw [cell_new _ _ _ _ _ (by simp)]; rfl
    rintro e w1 ⟨rfl, rfl⟩
    go_wp2_with fail
    refine (U2.out _ _ ?h0).mono ?_
    case h0 => rw [cell_new _ _ _ _ _ (by simp)]; rfl
    rintro e w1 ⟨rfl, rfl⟩
    go_wp2
    go_ret2
    exact Ret.mk rfl (HY.out.keep ((Below.refl _ _).alloc (Nat.le_refl _) _)).below
  · have U := Lib.hid (fun (u : World) (g : Nat) h0 => upTo_no 255 (fun _ => high) g 1 1 u (by decide) (one_cell h0) (one_not h1))
    clear hh h1
    go_enter Try.func22, Try.ntmps22
    go_wp2_with fail
    refine (U.out _ _ ?h0).mono ?_
    case h0 => rw [cell_new _ _ _ _ _ (by simp)]; rfl
    rintro e w1 ⟨rfl, rfl⟩
    go_wp2
    go_ret2
    exact Ret.mk rfl HY.out.below

set_option maxHeartbeats 400000 in
theorem Seen_err (W H T a b high r k : Int) (D : Option Addr) (n cp : Nat) (w : World) (hh : Hr high r) (hk : (k != 0) = true)
    (C : Hid (∀ (u : World) (g : Nat), u.cell? ⟨g, 0, none⟩ = some (.int .i64 a) → u.cell? ⟨g, 1, none⟩ = some (.int .i64 b) → Calls Try.prog 29 #[.agg #[.int .i64 W, .int .i64 H, .int .i64 T, .slice D n cp], .slice (some ⟨g, 0, none⟩) 1 1] u (Ret (.int .i64 k) u))) :
    Calls Try.prog 22 #[.agg #[.int .i64 W, .int .i64 H, .int .i64 T, .slice D n cp], .agg #[.int .i64 a, .int .i64 b], .int .i64 high, .int .i64 r] w
      (Ret (.tuple #[.slice none 0 0, .int .i64 k]) w) := by
  obtain ⟨HX, HP⟩ := M1.new w (.int .i64 W) (.int .i64 H) (.int .i64 T) (.slice D n cp) a b
  obtain ⟨V, hV⟩ : ∃ V, (((w.alloc (.cells #[.int .i64 W, .int .i64 H, .int .i64 T, .slice D n cp] 24)).alloc (.cells #[.int .i64 a, .int .i64 b] 36)).alloc (.cells #[.int .i64 high] 3)).alloc (.cells #[.int .i64 r] 3) = V := ⟨_, rfl⟩
  have X1 := (HX.keep ((Below.refl _ _).alloc (Nat.le_refl _) (.cells #[.int .i64 high] 3))).keep ((Below.refl _ _).alloc (Nat.le_refl _) (.cells #[.int .i64 r] 3))
  have P1 := (HP.keep ((Below.refl _ _).alloc (Nat.le_refl _) (.cells #[.int .i64 high] 3))).keep ((Below.refl _ _).alloc (Nat.le_refl _) (.cells #[.int .i64 r] 3))
  rw [hV] at X1 P1
  have X := Lib.hid X1
  have m0 := X1.c0
  have m1 := X1.c1
  have m2 := X1.c2
  have m3 := X1.c3
  have m4 := P1.c0
  have m5 := P1.c1
  have HV := Lib.hid hV
  have U := Lib.hid (fun (u : World) (g : Nat) h0 => upTo_yes 255 (fun _ => high) g 1 1 u (by decide) (one_cell h0) (one_upto hh.1 hh.2.1))
  have U2 := Lib.hid (fun (u : World) (g : Nat) h0 => upTo_yes 64 (fun _ => r) g 1 1 u (by decide) (one_cell h0) (one_upto hh.2.2.1 hh.2.2.2))
  clear hh hV X1 P1 HX HP
  go_enter Try.func22, Try.ntmps22
  go_wp2_with fail
  refine (U.out _ _ ?h0).mono ?_
  case h0 => rw [cell_new _ _ _ _ _ (by simp)]; rfl
  rintro e w1 ⟨rfl, rfl⟩
  go_wp2_with fail
  refine (U2.out _ _ ?h0).mono ?_
  case h0 => rw [cell_new _ _ _ _ _ (by simp)]; rfl
  rintro e w1 ⟨rfl, rfl⟩
  rw [HV.out]
  go_wp2_with fail
  refine (C.out _ _ ?h0 ?h1).mono ?_
  case h0 => rw [cell_new _ _ _ _ _ (by simp)]; rfl
  case h1 => rw [cell_new _ _ _ _ _ (by simp)]; rfl
  rintro e w2 ⟨rfl, b2⟩
  have B2 := Lib.hid (X.out.keep (below_box b2)).below
  clear b2
  go_wp2
  go_ret2
  exact Ret.mk rfl B2.out

set_option maxHeartbeats 4000000 in
theorem Seen_in (wd ht : Nat) (T a b high r : Int) (D : Option Addr) (n cp : Nat) (p : Nat → Nat) (w : World) (hn : n ≤ maxLen) (hb : Bs w D n p) (hp : ∀ i, p i < 256) (hv : Val wd ht T n) (hf : InC wd ht a b) (hh : Hr high r) :
    Calls Try.prog 22 #[.agg #[.int .i64 (wd : Int), .int .i64 (ht : Int), .int .i64 T, .slice D n cp], .agg #[.int .i64 a, .int .i64 b], .int .i64 high, .int .i64 r] w
      (RetGrid (wd * ht) (sn p wd a b high r) w) := by
  obtain ⟨hW1, hW2, hH1, hH2, hT, hT2⟩ := hv.s
  obtain ⟨a0, a1, b0, b1⟩ := id hf
  obtain ⟨g0, g1, r0, r1⟩ := id hh
  obtain ⟨HX, HP⟩ := M1.new w (.int .i64 (wd : Int)) (.int .i64 (ht : Int)) (.int .i64 T) (.slice D n cp) a b
  obtain ⟨V, hV⟩ : ∃ V, (((w.alloc (.cells #[.int .i64 (wd : Int), .int .i64 (ht : Int), .int .i64 T, .slice D n cp] 24)).alloc (.cells #[.int .i64 a, .int .i64 b] 36)).alloc (.cells #[.int .i64 high] 3)).alloc (.cells #[.int .i64 r] 3) = V := ⟨_, rfl⟩
  have X1 := (HX.keep ((Below.refl _ _).alloc (Nat.le_refl _) (.cells #[.int .i64 high] 3))).keep ((Below.refl _ _).alloc (Nat.le_refl _) (.cells #[.int .i64 r] 3))
  have P1 := (HP.keep ((Below.refl _ _).alloc (Nat.le_refl _) (.cells #[.int .i64 high] 3))).keep ((Below.refl _ _).alloc (Nat.le_refl _) (.cells #[.int .i64 r] 3))
  rw [hV] at X1 P1
  have X := Lib.hid X1
  have P := Lib.hid P1
  have m0 := X1.c0
  have m1 := X1.c1
  have m2 := X1.c2
  have m3 := X1.c3
  have m4 := P1.c0
  have m5 := P1.c1
  have HV := Lib.hid hV
  have U := Lib.hid (fun (u : World) (g : Nat) h0 => upTo_yes 255 (fun _ => high) g 1 1 u (by decide) (one_cell h0) (one_upto hh.1 hh.2.1))
  have U2 := Lib.hid (fun (u : World) (g : Nat) h0 => upTo_yes 64 (fun _ => r) g 1 1 u (by decide) (one_cell h0) (one_upto hh.2.2.1 hh.2.2.2))
  have C := Lib.hid (fun (u : World) (g : Nat) h0 h1 => check_one wd ht T a b D n cp g u hn hv 0 ⟨fun _ => rfl, fun h => absurd hf h⟩ h0 h1)
  have CN : Hid (∀ (i j : Nat) (u : World), i < wd → j < ht → Calls Try.prog 34 #[.agg #[.int .i64 a, .int .i64 b], .agg #[.int .i64 (i : Int), .int .i64 (j : Int)], .int .i64 r] u (Ret (.bool (nrAt a b r i j)) u)) := by
    intro i j u hi hj
    exact near_any a b i j r u a0 (by omega) b0 (by omega) (by omega) (by omega) (by omega) (by omega) r0 r1
  have CS : Hid (∀ (i j : Nat) (u : World), i < wd → j < ht → Bs u D n p → nrAt a b r i j = true → Calls Try.prog 33 #[.agg #[.int .i64 (wd : Int), .int .i64 (ht : Int), .int .i64 T, .slice D n cp], .agg #[.int .i64 a, .int .i64 b], .agg #[.int .i64 (i : Int), .int .i64 (j : Int)], .int .i64 high, .int .i64 0] u (Ret (.bool (sn p wd a b high r (wd * j + i))) u)) := by
    intro i j u hi hj hu hnr
    rw [sn_at p wd a b high r hi]
    unfold snAt
    rw [hnr, Bool.true_and]
    exact sees_any wd ht T a b i j high 0 D n cp p u hu hp hv hf ⟨by omega, by omega, by omega, by omega⟩ g0 g1 (by omega) (by omega)
  have CF : Hid (∀ (i j : Nat), i < wd → nrAt a b r i j = false → sn p wd a b high r (wd * j + i) = false) := by
    intro i j hi hnr
    rw [sn_at p wd a b high r hi]
    unfold snAt
    rw [hnr, Bool.false_and]
  have HB := Lib.hid hb
  have hA : wd * ht ≤ 4096 := land_bd (by omega) (by omega)
  have EA : Hid ((wd : Int) * (ht : Int) = ((wd * ht : Nat) : Int)) := (Int.natCast_mul _ _).symm
  have e0 : 0 ≤ (wd : Int) * (ht : Int) := by rw [EA.out]; omega
  have e1 : (wd : Int) * (ht : Int) ≤ 4096 := by rw [EA.out]; omega
  have hN : 0 < wd * ht := Nat.mul_pos (by omega) (by omega)
  obtain ⟨i0, hi0, hz0, hz1, hz2⟩ := info_parts Try.infoT
  clear hh hV X1 P1 HX HP hf hb hp hv hn
  generalize sn p wd a b high r = g at *
  go_enter Try.func22, Try.ntmps22
  go_wp2_with fail
  refine (U.out _ _ ?h0).mono ?_
  case h0 => rw [cell_new _ _ _ _ _ (by simp)]; rfl
  rintro e w1 ⟨rfl, rfl⟩
  go_wp2_with fail
  refine (U2.out _ _ ?h0).mono ?_
  case h0 => rw [cell_new _ _ _ _ _ (by simp)]; rfl
  rintro e w1 ⟨rfl, rfl⟩
  rw [HV.out]
  go_wp2_with fail
  refine (C.out _ _ ?h0 ?h1).mono ?_
  case h0 => rw [cell_new _ _ _ _ _ (by simp)]; rfl
  case h1 => rw [cell_new _ _ _ _ _ (by simp)]; rfl
  rintro e w1 ⟨rfl, b2⟩
  have X1 := Lib.hid (X.out.keep (below_box b2))
  have P1 := Lib.hid (P.out.keep (below_box b2))
  clear b2 X P HV m0 m1 m2 m3 m4 m5 U U2 C
  obtain ⟨-, c0, c1, c2, c3, -, -, -, -, -⟩ := X1.out
  have hs1 : w.heap.size + 2 ≤ w1.heap.size := P1.out.lt
  have eB : ∀ x : Nat, x ≤ 4096 → i0.bytes * x ≤ 281474976710656 := by intro x hx; rw [hz2]; omega
  go_wp2_with (at_make; refine wpList_make_own _ rfl _ _ 47 rfl (w.heap.size + 2) 4 i0 (.bool false) 1 Try.underlying47 hi0 hz0 hz1 .i64 .i64 _ (wd * ht) rfl rfl EA.out (eB _ hA) (by unfold maxLen; omega) hs1 ?_; intro w2 hown hg; have X2 := Lib.hid (X1.out.keep ((Below.refl _ _).grown hg (Nat.le_refl _) (by simp))); have P2' := Lib.hid (P1.out.keep ((Below.refl _ _).grown hg (Nat.le_refl _) (by simp))); have HO := Lib.hid hown; clear hown hg c0 c1 c2 c3; obtain ⟨-, c0, c1, c2, c3, -, -, -, -, -⟩ := X2.out)
  clear X1 P1 eB hi0 hz0 hz1 hz2 e0 e1 EA c0 c1 c2 c3
  go_loopw [11, 40] (fun v t wr => ∃ j : Nat, j ≤ ht ∧ t = .int .i64 (j : Int) ∧ wr.ownsRow (w.heap.size + 2) 4 1 v (wd * j) (bl g (wd * j)) ∧ Bx w w.heap.size wr (.int .i64 (wd : Int)) (.int .i64 (ht : Int)) (.int .i64 T) (.slice D n cp) ∧ P2 wr (w.heap.size + 1) a b) (fun _ t _ => ht - (intOf t).toNat)
  case atStart => exact ⟨0, by omega, rfl, by simpa [bl] using HO.out, X2.out, P2'.out⟩
  case round =>
    obtain ⟨j, hj, rfl, hown, hX, hP⟩ := hrel
    clear HO X2 P2'
    rename World => W1
    have HO := Lib.hid hown
    have X2 := Lib.hid hX
    have Q2 := Lib.hid hP
    clear hown hX hP
    obtain ⟨-, c0, c1, c2, c3, -, -, -, -, -⟩ := X2.out
    by_cases hlt : j < ht
    · go_wp2
      clear c0 c1 c2 c3
      go_loopw [11, 45] (fun v t wr => ∃ i : Nat, i ≤ wd ∧ t = .int .i64 (i : Int) ∧ wr.ownsRow (w.heap.size + 2) 4 1 v (wd * j + i) (bl g (wd * j + i)) ∧ Bx w w.heap.size wr (.int .i64 (wd : Int)) (.int .i64 (ht : Int)) (.int .i64 T) (.slice D n cp) ∧ P2 wr (w.heap.size + 1) a b) (fun _ t _ => wd - (intOf t).toNat)
      case atStart => exact ⟨0, by omega, rfl, HO.out, X2.out, Q2.out⟩
      case round =>
        obtain ⟨i, hi, rfl, hown, hX, hP⟩ := hrel
        clear HO X2 Q2
        rename World => W3
        by_cases hi2 : i < wd
        · have hrow : wd * j + i ≤ 4096 := Nat.le_trans (row_bd hlt hi) hA
          obtain ⟨Y, hY⟩ : ∃ Y, W3.alloc (.cells #[.int .i64 (i : Int), .int .i64 (j : Int)] 36) = Y := ⟨_, rfl⟩
          have bY : Below W3.heap.size W3 Y := by rw [← hY]; exact (Below.refl _ _).alloc (Nat.le_refl _) _
          have N1 : Hid (P2 Y W3.heap.size i j) := by rw [← hY]; exact P2.new W3 _ _
          have X3 := Lib.hid (hX.keep bY)
          have Q3 := Lib.hid (hP.keep bY)
          have HO := Lib.hid (hown.alloc (.cells #[.int .i64 (i : Int), .int .i64 (j : Int)] 36))
          rw [hY] at HO
          have HY := Lib.hid hY
          have c4 := Q3.out.c0
          have c5 := Q3.out.c1
          have c6 := N1.out.c0
          have c7 := N1.out.c1
          rw [← hY] at c4 c5 c6 c7
          clear hown hX hP bY hY
          go_wp2_with fail
          rw [HY.out]
          refine (CN.out i j _ hi2 hlt).mono ?_
          rintro e w3 ⟨rfl, b3⟩
          have X4 := Lib.hid (X3.out.keep b3)
          have Q4 := Lib.hid (Q3.out.keep b3)
          have N4 := Lib.hid (N1.out.keep b3)
          have HO4 := Lib.hid (HO.out.kept (w' := w3) (row := none) ⟨b3.os, b3.tape, b3.output, b3.size, fun k hk _ => b3.block k hk⟩ (by cases Value.ownBlock _ <;> simp))
          clear b3 X3 Q3 N1 HO HY c4 c5 c6 c7
          cases hnr : nrAt a b r i j with
          | true =>
            obtain ⟨-, c0, c1, c2, c3, -, -, -, -, -⟩ := X4.out
            have c4 := Q4.out.c0
            have c5 := Q4.out.c1
            have c6 := N4.out.c0
            have c7 := N4.out.c1
            go_wp2_with fail
            refine (CS.out i j _ hi2 hlt (HB.out.keep X4.out.below) hnr).mono ?_
            rintro e w4 ⟨rfl, b4⟩
            have X5 := Lib.hid (X4.out.keep b4)
            have Q5 := Lib.hid (Q4.out.keep b4)
            have HO5 := Lib.hid (HO4.out.kept (w' := w4) (row := none) ⟨b4.os, b4.tape, b4.output, b4.size, fun k hk _ => b4.block k hk⟩ (by cases Value.ownBlock _ <;> simp))
            clear b4 X4 Q4 N4 HO4 c0 c1 c2 c3 c4 c5 c6 c7
            have hs3 : w.heap.size + 2 ≤ w4.heap.size := Q5.out.lt
            go_wp2_with (at_builtin; refine append_bx rfl (.tmp 51) (.tmp 63) rfl (w.heap.size + 2) (wd * j + i) g _ w4 _ rfl rfl HO5.out rfl (by omega) hs3 ?_; intro v' w5 hown' hb')
            go_roundw
            case rel => exact ⟨i + 1, by omega, by go_num, hown', X5.out.keepB hb' (by omega) (by omega), Q5.out.keepB hb' (by omega)⟩
            case measure => simp [intOf]; omega
          | false =>
            have hg := CF.out i j hi2 hnr
            have HG := Lib.hid hg
            clear hg
            have hs3 : w.heap.size + 2 ≤ w3.heap.size := Q4.out.lt
            go_wp2_with (at_builtin; refine append_bx rfl (.tmp 51) (.tmp 63) rfl (w.heap.size + 2) (wd * j + i) g _ w3 _ HG.out rfl HO4.out rfl (by omega) hs3 ?_; intro v' w5 hown' hb')
            go_roundw
            case rel => exact ⟨i + 1, by omega, by go_num, hown', X4.out.keepB hb' (by omega) (by omega), Q4.out.keepB hb' (by omega)⟩
            case measure => simp [intOf]; omega
        · have e : wd = i := by omega
          subst e
          have HO := Lib.hid hown
          have X3 := Lib.hid hX
          have Q3 := Lib.hid hP
          clear hown hX hP
          go_wp2
          go_roundw
          case rel => exact ⟨j + 1, by omega, by go_num, by rw [Nat.mul_add, Nat.mul_one]; exact HO.out, X3.out, Q3.out⟩
          case measure => simp [intOf]; omega
    · have e : ht = j := by omega
      subst e
      obtain ⟨A', K, rfl, k1, k2, hV⟩ := bv_own hN HO.out
      have HV := Lib.hid hV
      clear hV c0 c1 c2 c3 HO
      go_wp2
      go_ret2
      exact ⟨A', K, rfl, k1, k2, HV.out, X2.out.below⟩

end Go.Proofs.Ytljedkceicahaaa
