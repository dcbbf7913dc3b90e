/- The walk of the law RayHigher. -/
import Derived.Test.YtljedkceicahaaaLRayWay
namespace Go.Proofs.Ytljedkceicahaaa
open Go.RowKit Go.Shelf
set_option linter.unusedVariables false

theorem rb_mono {p : Nat → Nat} {W a b c d A B A' B' : Int} {q : Nat} (hA : A ≤ A') (hB : B ≤ B') (hq : q ≤ lng a b c d) (h : rb p W a b c d A B q = false) : rb p W a b c d A' B' q = false := by
  unfold rb at h ⊢
  refine decide_eq_false ?_
  have h' := of_decide_eq_false h
  have p1 : A * ((lng a b c d : Int) - q) ≤ A' * ((lng a b c d : Int) - q) := Int.mul_le_mul_of_nonneg_right hA (by omega)
  have p2 : B * (q : Int) ≤ B' * (q : Int) := Int.mul_le_mul_of_nonneg_right hB (by omega)
  omega
theorem sees_mono {p : Nat → Nat} {W a b c d A B A' B' : Int} (hA : A ≤ A') (hB : B ≤ B') (h : seesB p W a b c d A B = true) : seesB p W a b c d A' B' = true := by
  refine sees_yes fun q h0 h1 => rb_mono hA hB (by omega) ?_
  cases e : rb p W a b c d A B q with
  | false => rfl
  | true => rw [sees_no h0 h1 e] at h; cases h
theorem sees_near {p : Nat → Nat} {W a b c d A B : Int} (hl : lng a b c d ≤ 1) : seesB p W a b c d A B = true := sees_yes fun q h0 h1 => absurd h1 (by omega)

/-- The Way's box, the map's, and both cells. -/
structure Wt (w Y : World) (g0 g6 g7 : Nat) (W H T : Int) (A : Option Addr) (n N c : Nat) (p : Nat → Nat) (i j k l g o : Int) : Prop where
  s : Ws w Y g0 W H T A n N c p i j k l g o
  p6 : P2 Y g6 i j
  p7 : P2 Y g7 k l
theorem Wt.keep {w Y Z : World} {g0 g6 g7 : Nat} {W H T : Int} {A : Option Addr} {n N c : Nat} {p : Nat → Nat} {i j k l g o : Int} (h : Wt w Y g0 g6 g7 W H T A n N c p i j k l g o) (hb : Below Y.heap.size Y Z) : Wt w Z g0 g6 g7 W H T A n N c p i j k l g o := ⟨h.s.keep hb, h.p6.keep hb, h.p7.keep hb⟩
theorem Wt.ij {w V : World} {g0 : Nat} {W H T : Int} {A : Option Addr} {n N c : Nat} {p : Nat → Nat} {i j k l g o : Int} (h : ∀ Z, Below V.heap.size V Z → Ws w Z g0 W H T A n N c p i j k l g o) :
    Wt w ((V.alloc (.cells #[.int .i64 i, .int .i64 j] 36)).alloc (.cells #[.int .i64 k, .int .i64 l] 36)).drew g0 V.heap.size (V.heap.size + 1) W H T A n N c p i j k l g o :=
  ⟨h _ (((Below.refl _ _).alloc (Nat.le_refl _) _).alloc (by simp) _).drew, ((P2.new V i j).keep ((Below.refl _ _).alloc (Nat.le_refl _) _)).keep (Below.refl _ _).drew, by have h := (P2.new (V.alloc (.cells #[.int .i64 i, .int .i64 j] 36)) k l).keep (Below.refl _ _).drew; rw [size_alloc] at h; exact h⟩
theorem Wt.kl {w V : World} {g0 : Nat} {W H T : Int} {A : Option Addr} {n N c : Nat} {p : Nat → Nat} {i j k l g o : Int} (h : ∀ Z, Below V.heap.size V Z → Ws w Z g0 W H T A n N c p i j k l g o) :
    Wt w ((V.alloc (.cells #[.int .i64 k, .int .i64 l] 36)).alloc (.cells #[.int .i64 i, .int .i64 j] 36)).drew g0 (V.heap.size + 1) V.heap.size W H T A n N c p i j k l g o :=
  ⟨h _ (((Below.refl _ _).alloc (Nat.le_refl _) _).alloc (by simp) _).drew, by have h := (P2.new (V.alloc (.cells #[.int .i64 k, .int .i64 l] 36)) i j).keep (Below.refl _ _).drew; rw [size_alloc] at h; exact h, ((P2.new V k l).keep ((Below.refl _ _).alloc (Nat.le_refl _) _)).keep (Below.refl _ _).drew⟩

set_option maxRecDepth 100000 in
set_option maxHeartbeats 4000000 in
theorem walk_RayHigher (W H T : Int) (A : Option Addr) (n c : Nat) (p : Nat → Nat) (i j k l g o : Int) (more : Int) (w : World) (hb : Bs w A n p) (hp : ∀ i, p i < 256) (hn : n ≤ c) (hc : c ≤ maxLen)
    (wi : (Lit.int .i64 i).wf = true) (wj : (Lit.int .i64 j).wf = true) (wk : (Lit.int .i64 k).wf = true) (wl : (Lit.int .i64 l).wf = true) (wg : (Lit.int .i64 g).wf = true) (wo : (Lit.int .i64 o).wf = true) (wm : (Lit.int .i64 more).wf = true) :
    Calls Try.prog 8 #[.agg #[.int .i64 W, .int .i64 H, .int .i64 T, .slice A n c, .int .i64 i, .int .i64 j, .int .i64 k, .int .i64 l, .int .i64 g, .int .i64 o], .int .i64 more] w (Ret (.bool true) w) := by
  have HF : Hid (∀ u, Below w.heap.size w u → Calls Try.prog 14 #[.agg #[.int .i64 W, .int .i64 H, .int .i64 T, .slice A n c]] u (Ret (.agg #[.int .i64 W, .int .i64 H, .int .i64 T, .slice A (fewN n) c]) u)) :=
    fun u hu => few8_any W H T A n c p u (hb.keep hu) hn hc
  have hN := (fewN_le n).2
  have hM : fewN n ≤ maxLen := by unfold maxLen; omega
  have HS := Lib.hid (fun (X : World) => Ws.first (w := w) (X := X) (W := W) (H := H) (T := T) (c := c) (i := i) (j := j) (k := k) (l := l) (g := g) (o := o) hb (fewN_le n).1)
  have Y0 := Lib.hid (B10.new w (.int .i64 W) (.int .i64 H) (.int .i64 T) (.slice A n c) (.int .i64 i) (.int .i64 j) (.int .i64 k) (.int .i64 l) (.int .i64 g) (.int .i64 o) 26)
  clear hb
  generalize fewN n = N at *
  have RC := Lib.hid (fun u => refCheck_any W H T A N c u hM)
  have HE : (Val W H T N ∧ InC W H i j ∧ InC W H k l ∧ Hs g o) ∨ ∃ ee : Int, ee ≠ 0 ∧ Hid (∀ u, Calls Try.prog 20 #[.agg #[.int .i64 W, .int .i64 H, .int .i64 T, .slice A N c], .agg #[.int .i64 i, .int .i64 j], .agg #[.int .i64 k, .int .i64 l], .int .i64 g, .int .i64 o] u (Ret (.tuple #[.bool false, .int .i64 ee]) u)) := by
    by_cases hh : Hs g o
    · by_cases hv : Val W H T N
      · by_cases hi : InC W H i j ∧ InC W H k l
        · exact .inl ⟨hv, hi.1, hi.2, hh⟩
        · exact .inr ⟨4, by decide, fun u => Sees_err W H T i j k l g o 4 A N c u hh rfl (fun v gg h0 h1 h2 h3 => check_two W H T i j k l A N c gg v hM hv 4 ⟨fun h => absurd h hi, fun _ => rfl⟩ h0 h1 h2 h3)⟩
      · exact .inr ⟨1, by decide, fun u => Sees_err W H T i j k l g o 1 A N c u hh rfl (fun v gg _ _ _ _ => rcheck_bad W H T A (some ⟨gg, 0, none⟩) N c 2 2 v hM hv)⟩
    · exact .inr ⟨1, by decide, fun u => Sees_arg W H T i j k l g o A N c u hh⟩
  clear RC
  go_enter Try.func8, Try.ntmps8
  go_wp2_with fail
  refine (HF.out _ Y0.out.below).mono ?_
  rintro e w1 ⟨rfl, b1⟩
  have Y1 := Lib.hid (Y0.out.keep b1)
  have S1 := Lib.hid (HS.out _ Y1.out)
  clear b1 Y0 HF HS
  obtain ⟨V1, hV1⟩ : ∃ V1, w1.alloc (.cells #[.int .i64 W, .int .i64 H, .int .i64 T, .slice A N c] 24) = V1 := ⟨_, rfl⟩
  rw [hV1] at S1
  obtain ⟨⟨m0, m1, m2, m3, m4, m5, m6, m7, m8, m9, -⟩, ⟨-, c0, c1, c2, c3, -, -, -, -, -⟩, -⟩ := S1.out
  rw [← hV1] at m0 m1 m2 m3 m4 m5 m6 m7 m8 m9 c0 c1 c2 c3
  have HV1 := Lib.hid hV1
  clear hV1 Y1
  go_wp2_with fail
  have hV := HV1.out
  rw [hV] at m0 m1 m2 m3 m4 m5 m6 m7 m8 m9 c0 c1 c2 c3
  rw [hV]
  clear hV
  have S1b := Lib.hid (fun Z (hZ : Below V1.heap.size V1 Z) => S1.out.keep hZ)
  have lw : w.heap.size < V1.heap.size := cell_lt m0
  have lw1 : w1.heap.size < V1.heap.size := cell_lt c0
  go_cut [6, 7] from 18 to 27 (fun s6 s7 wx => ∃ g6 g7, s6 = .pointer (some ⟨g6, 0, none⟩) ∧ s7 = .pointer (some ⟨g7, 0, none⟩) ∧ Wt w wx w1.heap.size g6 g7 W H T A n N c p i j k l g o)
  case first =>
    go_region
    all_goals (go_wp2_with fail; go_meet)
    all_goals refine ⟨_, _, rfl, rfl, ?_⟩
    all_goals first | exact Wt.ij S1b.out | exact Wt.kl S1b.out
  case rest =>
    obtain ⟨g6, g7, rfl, rfl, hS⟩ := hcut
    rename World => wx
    have S2 := Lib.hid hS
    clear hS m0 m1 m2 m3 m4 m5 m6 m7 m8 m9 c0 c1 c2 c3 S1 S1b HV1 lw lw1
    obtain ⟨⟨⟨m0, m1, m2, m3, m4, m5, m6, m7, m8, m9, -⟩, ⟨-, c0, c1, c2, c3, -, -, -, -, -⟩, -⟩, r6, r7⟩ := S2.out; have d0 := r6.c0; have d1 := r6.c1; have d2 := r7.c0; have d3 := r7.c1; clear r6 r7
    rcases HE with ⟨hv, hi, hk, hh⟩ | ⟨ee, hee, CE⟩
    · have CS := Lib.hid (fun u hb => Sees_in W H T i j k l g o A N c p u hM hb hp hv hi hk hh)
      obtain ⟨hW1, hW2, hH1, hH2, -, -⟩ := hv.s
      obtain ⟨i0, i1, j0, j1⟩ := id hi
      obtain ⟨k0, k1, l0, l1⟩ := id hk
      obtain ⟨x0, x1, x2, x3⟩ := id hh
      by_cases hm : 0 ≤ more ∧ more ≤ 255 - g ∧ more ≤ 255 - o
      · obtain ⟨z0, z1, z2⟩ := hm
        have z3 : ¬ more < 0 := by omega
        have z4 : ¬ 255 - g < more := by omega
        have z5 : ¬ 255 - o < more := by omega
        have CA := Lib.hid (fun u hb => Sees_in W H T i j k l (g + more) o A N c p u hM hb hp hv hi hk ⟨by omega, by omega, x2, x3⟩)
        have CB := Lib.hid (fun u hb => Sees_in W H T i j k l g (o + more) A N c p u hM hb hp hv hi hk ⟨x0, x1, by omega, by omega⟩)
        have CG := Lib.hid (fun u => long_any i j k l u i0 (by omega) j0 (by omega) k0 (by omega) l0 (by omega))
        have EA := Lib.hid (sees_mono (p := p) (W := W) (a := i) (b := j) (c := k) (d := l) (A := cLo p W i j + g) (B := cLo p W k l + o) (A' := cLo p W i j + (g + more)) (B' := cLo p W k l + o) (by omega) (by omega))
        have EB := Lib.hid (sees_mono (p := p) (W := W) (a := i) (b := j) (c := k) (d := l) (A := cLo p W i j + g) (B := cLo p W k l + o) (A' := cLo p W i j + g) (B' := cLo p W k l + (o + more)) (by omega) (by omega))
        have EN := Lib.hid (sees_near (p := p) (W := W) (a := i) (b := j) (c := k) (d := l) (A := cLo p W i j + g) (B := cLo p W k l + o))
        generalize seesB p W i j k l (cLo p W i j + g) (cLo p W k l + o) = sv at *
        generalize seesB p W i j k l (cLo p W i j + (g + more)) (cLo p W k l + o) = sa at *
        generalize seesB p W i j k l (cLo p W i j + g) (cLo p W k l + (o + more)) = sb at *
        generalize lng i j k l = L at *
        clear hv hi hk hh hp hW1 hW2 hH1 hH2 i0 i1 j0 j1 k0 k1 l0 l1
        cases sv with
        | true =>
          have ea : sa = true := EA.out rfl
          have eb : sb = true := EB.out rfl
          subst ea eb
          clear EA EB EN
          go_wp2_with fail
          refine (CS.out _ S2.out.s.s.bs).mono ?_
          rintro e w3 ⟨rfl, b2⟩
          have S3 := Lib.hid (S2.out.keep b2)
          clear b2 S2 m0 m1 m2 m3 m4 m5 m6 m7 m8 m9 c0 c1 c2 c3 d0 d1 d2 d3
          obtain ⟨⟨⟨m0, m1, m2, m3, m4, m5, m6, m7, m8, m9, -⟩, ⟨-, c0, c1, c2, c3, -, -, -, -, -⟩, -⟩, r6, r7⟩ := S3.out; have d0 := r6.c0; have d1 := r6.c1; have d2 := r7.c0; have d3 := r7.c1; clear r6 r7
          go_wp2_with fail
          refine (CA.out _ S3.out.s.s.bs).mono ?_
          rintro e w4 ⟨rfl, b2⟩
          have S4 := Lib.hid (S3.out.keep b2)
          clear b2 S3 m0 m1 m2 m3 m4 m5 m6 m7 m8 m9 c0 c1 c2 c3 d0 d1 d2 d3
          obtain ⟨⟨⟨m0, m1, m2, m3, m4, m5, m6, m7, m8, m9, -⟩, ⟨-, c0, c1, c2, c3, -, -, -, -, -⟩, -⟩, r6, r7⟩ := S4.out; have d0 := r6.c0; have d1 := r6.c1; have d2 := r7.c0; have d3 := r7.c1; clear r6 r7
          go_wp2_with fail
          refine (CB.out _ S4.out.s.s.bs).mono ?_
          rintro e w5 ⟨rfl, b2⟩
          have S5 := Lib.hid (S4.out.keep b2)
          clear b2 S4 m0 m1 m2 m3 m4 m5 m6 m7 m8 m9 c0 c1 c2 c3 d0 d1 d2 d3
          obtain ⟨⟨⟨m0, m1, m2, m3, m4, m5, m6, m7, m8, m9, -⟩, ⟨-, c0, c1, c2, c3, -, -, -, -, -⟩, -⟩, r6, r7⟩ := S5.out; have d0 := r6.c0; have d1 := r6.c1; have d2 := r7.c0; have d3 := r7.c1; clear r6 r7
          go_wp2_with fail
          refine (CG.out _).mono ?_
          rintro e w' ⟨rfl, rfl⟩
          by_cases hnr : (L : Int) ≤ 1
          · skip
            go_wp2_with fail
            refine (awake_any _).mono ?_
            rintro e w9 ⟨rfl, b2⟩
            have S9 := Lib.hid (S5.out.keep b2).s.b.below
            clear b2 S5 m0 m1 m2 m3 m4 m5 m6 m7 m8 m9 c0 c1 c2 c3 d0 d1 d2 d3
            go_wp2
            go_ret
            exact Ret.mk (by simp) S9.out
          · skip
            go_wp2_with fail
            refine (awake_any _).mono ?_
            rintro e w9 ⟨rfl, b2⟩
            have S9 := Lib.hid (S5.out.keep b2).s.b.below
            clear b2 S5 m0 m1 m2 m3 m4 m5 m6 m7 m8 m9 c0 c1 c2 c3 d0 d1 d2 d3
            go_wp2
            go_ret
            exact Ret.mk (by simp) S9.out
        | false =>
          have hnr : ¬ (L : Int) ≤ 1 := fun h => by have := EN.out (by omega); cases this
          clear EA EB EN
          go_wp2_with fail
          refine (CS.out _ S2.out.s.s.bs).mono ?_
          rintro e w3 ⟨rfl, b2⟩
          have S3 := Lib.hid (S2.out.keep b2)
          clear b2 S2 m0 m1 m2 m3 m4 m5 m6 m7 m8 m9 c0 c1 c2 c3 d0 d1 d2 d3
          obtain ⟨⟨⟨m0, m1, m2, m3, m4, m5, m6, m7, m8, m9, -⟩, ⟨-, c0, c1, c2, c3, -, -, -, -, -⟩, -⟩, r6, r7⟩ := S3.out; have d0 := r6.c0; have d1 := r6.c1; have d2 := r7.c0; have d3 := r7.c1; clear r6 r7
          go_wp2_with fail
          refine (CA.out _ S3.out.s.s.bs).mono ?_
          rintro e w4 ⟨rfl, b2⟩
          have S4 := Lib.hid (S3.out.keep b2)
          clear b2 S3 m0 m1 m2 m3 m4 m5 m6 m7 m8 m9 c0 c1 c2 c3 d0 d1 d2 d3
          obtain ⟨⟨⟨m0, m1, m2, m3, m4, m5, m6, m7, m8, m9, -⟩, ⟨-, c0, c1, c2, c3, -, -, -, -, -⟩, -⟩, r6, r7⟩ := S4.out; have d0 := r6.c0; have d1 := r6.c1; have d2 := r7.c0; have d3 := r7.c1; clear r6 r7
          go_wp2_with fail
          refine (CB.out _ S4.out.s.s.bs).mono ?_
          rintro e w5 ⟨rfl, b2⟩
          have S5 := Lib.hid (S4.out.keep b2)
          clear b2 S4 m0 m1 m2 m3 m4 m5 m6 m7 m8 m9 c0 c1 c2 c3 d0 d1 d2 d3
          obtain ⟨⟨⟨m0, m1, m2, m3, m4, m5, m6, m7, m8, m9, -⟩, ⟨-, c0, c1, c2, c3, -, -, -, -, -⟩, -⟩, r6, r7⟩ := S5.out; have d0 := r6.c0; have d1 := r6.c1; have d2 := r7.c0; have d3 := r7.c1; clear r6 r7
          go_wp2_with fail
          refine (CG.out _).mono ?_
          rintro e w' ⟨rfl, rfl⟩
          go_wp2_with fail
          refine (awake_any _).mono ?_
          rintro e w9 ⟨rfl, b2⟩
          have S9 := Lib.hid (S5.out.keep b2).s.b.below
          clear b2 S5 m0 m1 m2 m3 m4 m5 m6 m7 m8 m9 c0 c1 c2 c3 d0 d1 d2 d3
          go_wp2
          go_ret
          exact Ret.mk (by simp) S9.out
      · have hcase : more < 0 ∨ (¬ more < 0 ∧ 255 - g < more) ∨ (¬ more < 0 ∧ ¬ 255 - g < more ∧ 255 - o < more) := by omega
        clear hm hv hi hk hh hp hW1 hW2 hH1 hH2 i0 i1 j0 j1 k0 k1 l0 l1
        generalize seesB p W i j k l (cLo p W i j + g) (cLo p W k l + o) = sv at *
        rcases hcase with z1 | ⟨z1, z2⟩ | ⟨z1, z2, z3⟩
        all_goals
          go_wp2_with fail
          refine (CS.out _ S2.out.s.s.bs).mono ?_
          rintro e w3 ⟨rfl, b2⟩
          have S3 := Lib.hid (S2.out.keep b2)
          clear b2 S2 m0 m1 m2 m3 m4 m5 m6 m7 m8 m9 c0 c1 c2 c3 d0 d1 d2 d3
          obtain ⟨⟨⟨m0, m1, m2, m3, m4, m5, m6, m7, m8, m9, -⟩, ⟨-, c0, c1, c2, c3, -, -, -, -, -⟩, -⟩, r6, r7⟩ := S3.out; have d0 := r6.c0; have d1 := r6.c1; have d2 := r7.c0; have d3 := r7.c1; clear r6 r7
          go_wp2_with fail
          refine (awake_any _).mono ?_
          rintro e w9 ⟨rfl, b2⟩
          have S9 := Lib.hid (S3.out.keep b2).s.b.below
          clear b2 S3 m0 m1 m2 m3 m4 m5 m6 m7 m8 m9 c0 c1 c2 c3 d0 d1 d2 d3
          go_wp2
          go_ret
          exact Ret.mk (by simp) S9.out
    · have he1 : (ee != 0) = true := by simp; omega
      have he2 : (ee == 0) = false := by simp; omega
      clear hp
      go_wp2_with fail
      refine (CE.out _).mono ?_
      rintro e w3 ⟨rfl, b2⟩
      have S3 := Lib.hid (S2.out.keep b2)
      clear b2 S2 m0 m1 m2 m3 m4 m5 m6 m7 m8 m9 c0 c1 c2 c3 d0 d1 d2 d3
      obtain ⟨⟨⟨m0, m1, m2, m3, m4, m5, m6, m7, m8, m9, -⟩, ⟨-, c0, c1, c2, c3, -, -, -, -, -⟩, -⟩, r6, r7⟩ := S3.out; have d0 := r6.c0; have d1 := r6.c1; have d2 := r7.c0; have d3 := r7.c1; clear r6 r7
      go_wp2_with fail
      refine (awake_any _).mono ?_
      rintro e w9 ⟨rfl, b2⟩
      have S9 := Lib.hid (S3.out.keep b2).s.b.below
      clear b2 S3 m0 m1 m2 m3 m4 m5 m6 m7 m8 m9 c0 c1 c2 c3 d0 d1 d2 d3
      go_wp2
      go_ret
      exact Ret.mk (by simp) S9.out

end Go.Proofs.Ytljedkceicahaaa
