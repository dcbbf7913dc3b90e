/- Contracts of package ray, sixth part: blocker and its closure. -/
import Derived.Test.YtljedkceicahaaaRy3
import Derived.Test.YtljedkceicahaaaRy5
namespace Go.Proofs.Ytljedkceicahaaa
open Go.RowKit Go.Shelf
set_option linter.unusedVariables false
attribute [local go_sem] eq_two

/-- The boxes that the closure reads: from, to, the map, n, both heights. -/
structure Bk (W : World) (gf gt gm gn ga gb : Nat) (a b c d : Int) (wd ht tt : Value) (sl : Value) (A B : Int) : Prop where
  pf : P2 W gf a b
  pt : P2 W gt c d
  m0 : W.cell? ⟨gm, 0, none⟩ = some wd
  m1 : W.cell? ⟨gm, 1, none⟩ = some ht
  m2 : W.cell? ⟨gm, 2, none⟩ = some tt
  m3 : W.cell? ⟨gm, 3, none⟩ = some sl
  hn : Boxed W gn 3 (.int .i64 (lng a b c d : Int))
  ha : Boxed W ga 3 (.int .i64 A)
  hb : Boxed W gb 3 (.int .i64 B)
theorem Bk.keep {W W' : World} {gf gt gm gn ga gb : Nat} {a b c d : Int} {wd ht tt sl : Value} {A B : Int} (h : Bk W gf gt gm gn ga gb a b c d wd ht tt sl A B) (hb : Below W.heap.size W W') : Bk W' gf gt gm gn ga gb a b c d wd ht tt sl A B :=
  ⟨h.pf.keep hb, h.pt.keep hb, kc hb h.m0, kc hb h.m1, kc hb h.m2, kc hb h.m3, box_keepB h.hn hb h.hn.lt, box_keepB h.ha hb h.ha.lt, box_keepB h.hb hb h.hb.lt⟩

/-- Cell (x, y) at place q blocks. -/
def blk (p : Nat → Nat) (W a b c d A B x y : Int) (q : Nat) : Bool := !(x == a && y == b) && !(x == c && y == d) && decide (A * ((lng a b c d : Int) - q) + B * q < cHi p W x y * (lng a b c d : Int))

set_option maxHeartbeats 2000000 in
theorem block_any (W H T a b c d A B x y : Int) (q gf gt gm gn ga gb : Nat) (D : Option Addr) (n cp : Nat) (p : Nat → Nat) (w : World) (hb : Bs w D n p) (hp : ∀ i, p i < 256) (hv : Val W H T n)
    (x0 : 0 ≤ x) (x1 : x < W) (y0 : 0 ≤ y) (y1 : y < H) (hN : lng a b c d ≤ 63) (hq : q ≤ lng a b c d) (A0 : 0 ≤ A) (A1 : A ≤ 510) (B0 : 0 ≤ B) (B1 : B ≤ 510)
    (hk : Bk w gf gt gm gn ga gb a b c d (.int .i64 W) (.int .i64 H) (.int .i64 T) (.slice D n cp) A B) :
    Calls Try.prog 41 #[.int .i64 (q : Int), .agg #[.int .i64 x, .int .i64 y], .pointer (some ⟨gf, 0, none⟩), .pointer (some ⟨gt, 0, none⟩), .pointer (some ⟨gm, 0, none⟩), .pointer (some ⟨gn, 0, none⟩), .pointer (some ⟨ga, 0, none⟩), .pointer (some ⟨gb, 0, none⟩)] w (Ret (.bool (blk p W a b c d A B x y q)) w) := by
  obtain ⟨h0, h1⟩ := cHi_bd hp W x y
  have C := Lib.hid (fun u hb => top8_any W H T x y D n cp p u hb hp hv x0 x1 y0 y1)
  have HB := Lib.hid hb
  have HK := Lib.hid hk
  have bel : Below w.heap.size w (w.alloc (.cells #[.int .i64 x, .int .i64 y] 36)) := (Below.refl _ _).alloc (Nat.le_refl _) _
  have K2 := Lib.hid (hk.keep bel)
  have EB : Hid (blk p W a b c d A B x y q = (!(x == a && y == b) && !(x == c && y == d) && decide (A * ((lng a b c d : Int) - q) + B * q < cHi p W x y * (lng a b c d : Int)))) := rfl
  generalize blk p W a b c d A B x y q = bb at *
  obtain ⟨N, eN⟩ : ∃ N, lng a b c d = N := ⟨_, rfl⟩
  have k1 := K2.out.pf.c0
  have k2 := K2.out.pf.c1
  have k3 := K2.out.pt.c0
  have k4 := K2.out.pt.c1
  have k5 := K2.out.m0
  have k6 := K2.out.m1
  have k7 := K2.out.m2
  have k8 := K2.out.m3
  have k9 := K2.out.hn.cell
  have l0 := K2.out.ha.cell
  have l1 := K2.out.hb.cell
  rw [eN] at k9 hN hq EB
  clear hk hb hv hp eN K2
  have e1 : 0 ≤ A * ((N : Int) - q) ∧ A * ((N : Int) - q) ≤ 510 * 63 := prod_bd A0 A1 (by omega) (by omega)
  have e2 : 0 ≤ B * (q : Int) ∧ B * (q : Int) ≤ 510 * 63 := prod_bd B0 B1 (by omega) (by omega)
  have e3 : 0 ≤ cHi p W x y * (N : Int) ∧ cHi p W x y * (N : Int) ≤ 255 * 63 := prod_bd h0 h1 (by omega) (by omega)
  obtain ⟨e4, e5⟩ := e1
  obtain ⟨e6, e7⟩ := e2
  obtain ⟨e8, e9⟩ := e3
  obtain ⟨M, eM⟩ : ∃ M, cHi p W x y = M := ⟨_, rfl⟩
  rw [eM] at C EB e8 e9 h0 h1
  clear eM
  obtain ⟨V, hV⟩ : ∃ V, w.alloc (.cells #[.int .i64 x, .int .i64 y] 36) = V := ⟨_, rfl⟩
  have v0 : V.cell? ⟨w.heap.size, 0, none⟩ = some (.int .i64 x) := by rw [← hV, cell_new _ _ _ _ _ rfl]; rfl
  have v1 : V.cell? ⟨w.heap.size, 1, none⟩ = some (.int .i64 y) := by rw [← hV, cell_new _ _ _ _ _ rfl]; rfl
  rw [hV] at k1 k2 k3 k4 k5 k6 k7 k8 k9 l0 l1 bel
  have HBel := Lib.hid bel
  have HB2 := Lib.hid (HB.out.keep bel)
  clear bel HB
  cases t1 : (x == a && y == b) with
  | true =>
    have E : Hid (bb = false) := by show _ = _; rw [EB.out, t1]; rfl
    clear EB
    go_enter Try.func41, Try.ntmps41
    go_wp2
    go_quiet (fail)
    go_wp2
    go_ret
    exact Ret.mk (congrArg Value.bool E.out.symm) (bl_drewN HBel.out _)
  | false =>
    cases t2 : (x == c && y == d) with
    | true =>
      have E : Hid (bb = false) := by show _ = _; rw [EB.out, t1, t2]; rfl
      clear EB
      go_enter Try.func41, Try.ntmps41
      go_wp2
      go_quiet (fail)
      go_wp2
      go_ret
      exact Ret.mk (congrArg Value.bool E.out.symm) (bl_drewN HBel.out _)
    | false =>
      have E : Hid (decide (A * ((N : Int) - q) + B * q < M * (N : Int)) = bb) := by show _ = _; rw [EB.out, t1, t2]; simp
      have E2 : Hid (decide (IntKind.i64.wrap (IntKind.i64.wrap (A * IntKind.i64.wrap ((N : Int) - (q : Int))) + IntKind.i64.wrap (B * (q : Int))) < IntKind.i64.wrap (M * (N : Int))) = bb) := by
        show _ = _
        rw [IntWalk.i64_in ((N : Int) - q) (by omega), IntWalk.i64_in (A * ((N : Int) - q)) (by omega), IntWalk.i64_in (B * (q : Int)) (by omega), IntWalk.i64_in (A * ((N : Int) - q) + B * (q : Int)) (by omega), IntWalk.i64_in (M * (N : Int)) (by omega)]
        exact E.out
      clear EB E
      go_enter Try.func41, Try.ntmps41
      go_wp2
      go_region_held3 (fun w' => w'.cell? ⟨w.heap.size, 0, none⟩ = some (.int .i64 x) ∧ w'.cell? ⟨w.heap.size, 1, none⟩ = some (.int .i64 y) ∧ w'.cell? ⟨gf, 0, none⟩ = some (.int .i64 a) ∧ w'.cell? ⟨gf, 1, none⟩ = some (.int .i64 b) ∧ w'.cell? ⟨gt, 0, none⟩ = some (.int .i64 c) ∧ w'.cell? ⟨gt, 1, none⟩ = some (.int .i64 d) ∧ w'.cell? ⟨gm, 0, none⟩ = some (.int .i64 W) ∧ w'.cell? ⟨gm, 1, none⟩ = some (.int .i64 H) ∧ w'.cell? ⟨gm, 2, none⟩ = some (.int .i64 T) ∧ w'.cell? ⟨gm, 3, none⟩ = some (.slice D n cp) ∧ w'.cell? ⟨gn, 0, none⟩ = some (.int .i64 (N : Int)) ∧ w'.cell? ⟨ga, 0, none⟩ = some (.int .i64 A) ∧ w'.cell? ⟨gb, 0, none⟩ = some (.int .i64 B))
        (go_keep)
        ((go_at_call 30; refine (C.out V.drew (HB2.out.keep (Below.refl _ _).drew)).mono ?_; rintro e w' ⟨rfl, b'⟩; have B' := Lib.hid (HBel.out.trans (((Below.refl _ V).drew.trans b').mono HBel.out.size)); have q0 := kc (W := V.drew) b' v0; have q1 := kc (W := V.drew) b' v1; have q2 := kc (W := V.drew) b' k1; have q3 := kc (W := V.drew) b' k2; have q4 := kc (W := V.drew) b' k3; have q5 := kc (W := V.drew) b' k4; have q6 := kc (W := V.drew) b' k5; have q7 := kc (W := V.drew) b' k6; have q8 := kc (W := V.drew) b' k7; have q9 := kc (W := V.drew) b' k8; have q10 := kc (W := V.drew) b' k9; have q11 := kc (W := V.drew) b' l0; have q12 := kc (W := V.drew) b' l1; clear b'))
      go_wp2
      go_ret
      exact Ret.mk (congrArg Value.bool E2.out) B'.out

/-- The five boxes of blocker's entry. -/
theorem five8 (w : World) (m0 m1 m2 m3 : Value) (a b c d A B : Int) (V : World)
    (hV : ((((w.alloc (.cells #[m0, m1, m2, m3] 24)).alloc (.cells #[.int .i64 a, .int .i64 b] 36)).alloc (.cells #[.int .i64 c, .int .i64 d] 36)).alloc (.cells #[.int .i64 A] 3)).alloc (.cells #[.int .i64 B] 3) = V) :
    Bx w w.heap.size V m0 m1 m2 m3 ∧ P2 V (w.heap.size + 1) a b ∧ P2 V (w.heap.size + 2) c d ∧ Boxed V (w.heap.size + 3) 3 (.int .i64 A) ∧ Boxed V (w.heap.size + 4) 3 (.int .i64 B) := by
  subst hV
  obtain ⟨V1, h1⟩ : ∃ V1, w.alloc (.cells #[m0, m1, m2, m3] 24) = V1 := ⟨_, rfl⟩
  have s1 : V1.heap.size = w.heap.size + 1 := by rw [← h1]; simp
  have x1 : Bx w w.heap.size V1 m0 m1 m2 m3 := by rw [← h1]; exact Bx.new w m0 m1 m2 m3 _
  rw [h1]
  obtain ⟨V2, h2⟩ : ∃ V2, V1.alloc (.cells #[.int .i64 a, .int .i64 b] 36) = V2 := ⟨_, rfl⟩
  have s2 : V2.heap.size = w.heap.size + 2 := by rw [← h2]; simp; omega
  have b2 : Below V1.heap.size V1 V2 := by rw [← h2]; exact (Below.refl _ _).alloc (Nat.le_refl _) _
  have p2 : P2 V2 (w.heap.size + 1) a b := by rw [← h2, ← s1]; exact P2.new V1 a b
  rw [h2]
  obtain ⟨V3, h3⟩ : ∃ V3, V2.alloc (.cells #[.int .i64 c, .int .i64 d] 36) = V3 := ⟨_, rfl⟩
  have s3 : V3.heap.size = w.heap.size + 3 := by rw [← h3]; simp; omega
  have b3 : Below V2.heap.size V2 V3 := by rw [← h3]; exact (Below.refl _ _).alloc (Nat.le_refl _) _
  have p3 : P2 V3 (w.heap.size + 2) c d := by rw [← h3, ← s2]; exact P2.new V2 c d
  rw [h3]
  obtain ⟨V4, h4⟩ : ∃ V4, V3.alloc (.cells #[.int .i64 A] 3) = V4 := ⟨_, rfl⟩
  have s4 : V4.heap.size = w.heap.size + 4 := by rw [← h4]; simp; omega
  have b4 : Below V3.heap.size V3 V4 := by rw [← h4]; exact (Below.refl _ _).alloc (Nat.le_refl _) _
  have p4 : Boxed V4 (w.heap.size + 3) 3 (.int .i64 A) := by rw [← h4, ← s3]; exact Boxed.new V3 _ _
  rw [h4]
  have b5 : Below V4.heap.size V4 (V4.alloc (.cells #[.int .i64 B] 3)) := (Below.refl _ _).alloc (Nat.le_refl _) _
  have p5 : Boxed (V4.alloc (.cells #[.int .i64 B] 3)) (w.heap.size + 4) 3 (.int .i64 B) := by rw [← s4]; exact Boxed.new V4 _ _
  exact ⟨(((x1.keep b2).keep b3).keep b4).keep b5, ((p2.keep b3).keep b4).keep b5, (p3.keep b4).keep b5, box_keepB p4 b5 p4.lt, p5⟩

/-- blocker hands back a closure. -/
def RetBk (a b c d A B : Int) (m0 m1 m2 m3 : Value) (w : World) (e : Ending) (w' : World) : Prop :=
  ∃ gf gt gm gn ga gb, e = .returned (.func (.func 41) #[] #[.pointer (some ⟨gf, 0, none⟩), .pointer (some ⟨gt, 0, none⟩), .pointer (some ⟨gm, 0, none⟩), .pointer (some ⟨gn, 0, none⟩), .pointer (some ⟨ga, 0, none⟩), .pointer (some ⟨gb, 0, none⟩)]) ∧
    Bk w' gf gt gm gn ga gb a b c d m0 m1 m2 m3 A B ∧ Below w.heap.size w w'

set_option maxHeartbeats 400000 in
theorem blocker_any (W H T a b c d A B : Int) (D : Option Addr) (n cp : Nat) (w : World) (a0 : 0 ≤ a) (a1 : a ≤ 63) (b0 : 0 ≤ b) (b1 : b ≤ 63) (c0 : 0 ≤ c) (c1 : c ≤ 63) (d0 : 0 ≤ d) (d1 : d ≤ 63) :
    Calls Try.prog 39 #[.agg #[.int .i64 W, .int .i64 H, .int .i64 T, .slice D n cp], .agg #[.int .i64 a, .int .i64 b], .agg #[.int .i64 c, .int .i64 d], .int .i64 A, .int .i64 B] w
      (RetBk a b c d A B (.int .i64 W) (.int .i64 H) (.int .i64 T) (.slice D n cp) w) := by
  have C := Lib.hid (fun u => steps_any a b c d u a0 a1 b0 b1 c0 c1 d0 d1)
  obtain ⟨V, hV⟩ : ∃ V, ((((w.alloc (.cells #[.int .i64 W, .int .i64 H, .int .i64 T, .slice D n cp] 24)).alloc (.cells #[.int .i64 a, .int .i64 b] 36)).alloc (.cells #[.int .i64 c, .int .i64 d] 36)).alloc (.cells #[.int .i64 A] 3)).alloc (.cells #[.int .i64 B] 3) = V := ⟨_, rfl⟩
  obtain ⟨f1, f2, f3, f4, f5⟩ := five8 w _ _ _ _ a b c d A B V hV
  have F1 := Lib.hid f1
  have F2 := Lib.hid f2
  have F3 := Lib.hid f3
  have F4 := Lib.hid f4
  have F5 := Lib.hid f5
  have q0 := f2.c0
  have q1 := f2.c1
  have q2 := f3.c0
  have q3 := f3.c1
  clear f1 f2 f3 f4 f5 a0 a1 b0 b1 c0 c1 d0 d1
  go_enter Try.func39, Try.ntmps39
  go_wp2_with fail
  refine (C.out _).mono ?_
  rintro e w1 ⟨rfl, b1⟩
  have bN : Below w1.heap.size w1 (w1.alloc (.cells #[.int .i64 (lng a b c d : Int)] 3)) := (Below.refl _ _).alloc (Nat.le_refl _) _
  have G : Hid (Bk (w1.alloc (.cells #[.int .i64 (lng a b c d : Int)] 3)) (w.heap.size + 1) (w.heap.size + 2) w.heap.size w1.heap.size (w.heap.size + 3) (w.heap.size + 4) a b c d (.int .i64 W) (.int .i64 H) (.int .i64 T) (.slice D n cp) A B) :=
    ⟨(F2.out.keep b1).keep bN, (F3.out.keep b1).keep bN, ((F1.out.keep b1).keep bN).c0, ((F1.out.keep b1).keep bN).c1, ((F1.out.keep b1).keep bN).c2, ((F1.out.keep b1).keep bN).c3, Boxed.new w1 _ _,
      box_keepB (box_keepB F4.out b1 F4.out.lt) bN (box_keepB F4.out b1 F4.out.lt).lt, box_keepB (box_keepB F5.out b1 F5.out.lt) bN (box_keepB F5.out b1 F5.out.lt).lt⟩
  have HB := Lib.hid ((F1.out.keep b1).keep bN).below
  clear b1 bN F1 F2 F3 F4 F5 q0 q1 q2 q3
  go_wp2
  go_ret
  exact ⟨_, _, _, _, _, _, rfl, G.out, HB.out⟩

end Go.Proofs.Ytljedkceicahaaa
