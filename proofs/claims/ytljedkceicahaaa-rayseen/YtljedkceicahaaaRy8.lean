/- Contracts of package ray, seventh part: sees. -/
import Derived.Test.YtljedkceicahaaaRy4
import Derived.Test.YtljedkceicahaaaRy7
import Derived.Laws.EntriesVeiled
namespace Go.Proofs.Ytljedkceicahaaa
open Go.RowKit Go.Shelf
set_option linter.unusedVariables false
attribute [local go_sem] Oper.semAt_some eq_two

/-- Nothing blocks. -/
def seesB (p : Nat → Nat) (W a b c d A B : Int) : Bool := decide (∀ q, q < lng a b c d + 1 → blk p W a b c d A B (cq a c (lng a b c d) q) (cq b d (lng a b c d) q) q = false)

theorem Bx.far {w X : World} {g k : Nat} {a b c d : Value} (h : Bx w g X a b c d) (hk : g < k) (hw : w.heap.size ≤ k) (v : Value) : Bx w g (X.setCell ⟨k, 0, none⟩ v) a b c d :=
  ⟨h.ge, cell_far h.c0 (.inl (by omega)), cell_far h.c1 (.inl (by omega)), cell_far h.c2 (.inl (by omega)), cell_far h.c3 (.inl (by omega)), by rw [World.frozen?_setCell]; exact h.f0, by rw [World.frozen?_setCell]; exact h.f1, by rw [World.frozen?_setCell]; exact h.f2, by rw [World.frozen?_setCell]; exact h.f3, h.below.setCell (p := ⟨k, 0, none⟩) hw v⟩
/-- sees' own boxes: the map, both cells, the result. -/
structure Se (w V : World) (m0 m1 m2 m3 : Value) (a b c d : Int) (r : Bool) : Prop where
  bx : Bx w w.heap.size V m0 m1 m2 m3
  pf : P2 V (w.heap.size + 1) a b
  pt : P2 V (w.heap.size + 2) c d
  rs : Boxed V (w.heap.size + 3) 4 (.bool r)
theorem Se.keep {w V V' : World} {m0 m1 m2 m3 : Value} {a b c d : Int} {r : Bool} (h : Se w V m0 m1 m2 m3 a b c d r) (hb : Below V.heap.size V V') : Se w V' m0 m1 m2 m3 a b c d r :=
  ⟨h.bx.keep hb, h.pf.keep hb, h.pt.keep hb, box_keepB h.rs hb h.rs.lt⟩
theorem Se.new (w : World) (m0 m1 m2 m3 : Value) (a b c d : Int) (V : World)
    (hV : (((w.alloc (.cells #[m0, m1, m2, m3] 24)).alloc (.cells #[.int .i64 a, .int .i64 b] 36)).alloc (.cells #[.int .i64 c, .int .i64 d] 36)).alloc (.cells #[.bool false] 4) = V) :
    Se w V m0 m1 m2 m3 a b c d false := by
  subst hV
  obtain ⟨V1, h1⟩ : ∃ V1, w.alloc (.cells #[m0, m1, m2, m3] 24) = V1 := ⟨_, rfl⟩
  have s1 : V1.heap.size = w.heap.size + 1 := by rw [← h1]; simp
  have x1 : Bx w w.heap.size V1 m0 m1 m2 m3 := by rw [← h1]; exact Bx.new w m0 m1 m2 m3 _
  rw [h1]
  obtain ⟨V2, h2⟩ : ∃ V2, V1.alloc (.cells #[.int .i64 a, .int .i64 b] 36) = V2 := ⟨_, rfl⟩
  have s2 : V2.heap.size = w.heap.size + 2 := by rw [← h2]; simp; omega
  have b2 : Below V1.heap.size V1 V2 := by rw [← h2]; exact (Below.refl _ _).alloc (Nat.le_refl _) _
  have p2 : P2 V2 (w.heap.size + 1) a b := by rw [← h2, ← s1]; exact P2.new V1 a b
  rw [h2]
  obtain ⟨V3, h3⟩ : ∃ V3, V2.alloc (.cells #[.int .i64 c, .int .i64 d] 36) = V3 := ⟨_, rfl⟩
  have s3 : V3.heap.size = w.heap.size + 3 := by rw [← h3]; simp; omega
  have b3 : Below V2.heap.size V2 V3 := by rw [← h3]; exact (Below.refl _ _).alloc (Nat.le_refl _) _
  have p3 : P2 V3 (w.heap.size + 2) c d := by rw [← h3, ← s2]; exact P2.new V2 c d
  rw [h3]
  have b4 : Below V3.heap.size V3 (V3.alloc (.cells #[.bool false] 4)) := (Below.refl _ _).alloc (Nat.le_refl _) _
  have p4 : Boxed (V3.alloc (.cells #[.bool false] 4)) (w.heap.size + 3) 4 (.bool false) := by rw [← s3]; exact Boxed.new V3 _ _
  exact ⟨((x1.keep b2).keep b3).keep b4, (p2.keep b3).keep b4, p3.keep b4, p4⟩

theorem Se.put {w X : World} {m0 m1 m2 m3 : Value} {a b c d : Int} {r : Bool} (h : Se w X m0 m1 m2 m3 a b c d r) {g : Nat} (hg : w.heap.size + 3 < g) (v : Value) : Se w (X.setCell ⟨g, 0, none⟩ v) m0 m1 m2 m3 a b c d r :=
  ⟨h.bx.far (by omega) (by omega) v, h.pf.far (by omega) v, h.pt.far (by omega) v, box_far h.rs (by omega)⟩
theorem Se.cells {w X : World} {m0 m1 m2 m3 : Value} {a b c d : Int} {r : Bool} (h : Se w X m0 m1 m2 m3 a b c d r) :
    X.cell? ⟨w.heap.size, 0, none⟩ = some m0 ∧ X.cell? ⟨w.heap.size, 1, none⟩ = some m1 ∧ X.cell? ⟨w.heap.size, 2, none⟩ = some m2 ∧ X.cell? ⟨w.heap.size, 3, none⟩ = some m3 ∧ X.cell? ⟨w.heap.size + 1, 0, none⟩ = some (.int .i64 a) ∧ X.cell? ⟨w.heap.size + 1, 1, none⟩ = some (.int .i64 b) ∧ X.cell? ⟨w.heap.size + 2, 0, none⟩ = some (.int .i64 c) ∧ X.cell? ⟨w.heap.size + 2, 1, none⟩ = some (.int .i64 d) :=
  ⟨h.bx.c0, h.bx.c1, h.bx.c2, h.bx.c3, h.pf.c0, h.pf.c1, h.pt.c0, h.pt.c1⟩
theorem cell_of_box {X : World} {g : Nat} {t : TypeId} {u : Value} (h : Boxed X g t u) (i : Nat) : X.cell? ⟨g, i + 1, none⟩ = none := by
  simp [World.cell?, show X.heap[g]? = _ from h]
/-- A store into the closure's own box leaves the closure's cells. -/
theorem Bk.put {X : World} {gf gt gm gn ga gb g : Nat} {a b c d : Int} {wd ht tt : Int} {sl : Value} {A B : Int} (h : Bk X gf gt gm gn ga gb a b c d (.int .i64 wd) (.int .i64 ht) (.int .i64 tt) sl A B)
    (hb : Boxed X g 64 .nilFunc) (v : Value) : Bk (X.setCell ⟨g, 0, none⟩ v) gf gt gm gn ga gb a b c d (.int .i64 wd) (.int .i64 ht) (.int .i64 tt) sl A B := by
  have e2 : ∀ {k : Nat} {x y : Int}, P2 X k x y → g ≠ k := fun hk e => by
    subst e; have := (show X.heap[g]? = _ from hb).symm.trans hk; simp at this
  have e1 : ∀ {k : Nat} {x : Int}, Boxed X k 3 (.int .i64 x) → g ≠ k := fun hk e => by
    subst e; have := (show X.heap[g]? = _ from hb).symm.trans hk; simp at this
  have e0 : g ≠ gm := fun e => by
    subst e; have := h.m0; rw [hb.cell] at this; cases this
  exact ⟨h.pf.far (e2 h.pf) v, h.pt.far (e2 h.pt) v, cell_far h.m0 (.inl e0), cell_far h.m1 (.inl e0), cell_far h.m2 (.inl e0), cell_far h.m3 (.inl e0), box_far h.hn (e1 h.hn), box_far h.ha (e1 h.ha), box_far h.hb (e1 h.hb)⟩

theorem same_cell {W W' : World} {g : Nat} (e : W'.heap[g]? = W.heap[g]?) (i : Nat) : W'.cell? ⟨g, i, none⟩ = W.cell? ⟨g, i, none⟩ := by simp [World.cell?, e]
theorem same_frozen {W W' : World} {g : Nat} (e : W'.heap[g]? = W.heap[g]?) (i : Nat) : W'.frozen? ⟨g, i, none⟩ = W.frozen? ⟨g, i, none⟩ := by simp [World.frozen?, e]
theorem cell_lt {W : World} {g i : Nat} {v : Value} (h : W.cell? ⟨g, i, none⟩ = some v) : g < W.heap.size := by
  rcases Nat.lt_or_ge g W.heap.size with h' | h'
  · exact h'
  · simp [World.cell?, h'] at h
/-- Whatever happens from block R on leaves the closure's cells. -/
theorem Bk.grown {W W' : World} {row : Option Nat} {gf gt gm gn ga gb : Nat} {a b c d : Int} {wd ht tt sl : Value} {A B : Int} (h : Bk W gf gt gm gn ga gb a b c d wd ht tt sl A B) (hg : W.grownBy W' row) {R : Nat} (hr : ∀ r, row = some r → R ≤ r)
    (l1 : gf < R) (l2 : gt < R) (l3 : gm < R) (l4 : gn < R) (l5 : ga < R) (l6 : gb < R) : Bk W' gf gt gm gn ga gb a b c d wd ht tt sl A B := by
  have hB : ∀ k, k < R → k < W.heap.size → W'.heap[k]? = W.heap[k]? := fun k hk hs => hg.block k hs (fun e => by have := hr k e.symm; omega)
  have em := hB gm l3 (cell_lt h.m0)
  exact ⟨h.pf.block (hB gf l1 h.pf.lt), h.pt.block (hB gt l2 h.pt.lt), (same_cell em 0).trans h.m0, (same_cell em 1).trans h.m1, (same_cell em 2).trans h.m2, (same_cell em 3).trans h.m3,
    (hB gn l4 h.hn.lt).trans h.hn, (hB ga l5 h.ha.lt).trans h.ha, (hB gb l6 h.hb.lt).trans h.hb⟩
theorem Se.grown {w V V' : World} {row : Option Nat} {m0 m1 m2 m3 : Value} {a b c d : Int} {r : Bool} (h : Se w V m0 m1 m2 m3 a b c d r) (hg : V.grownBy V' row) (hr : ∀ k, row = some k → w.heap.size + 4 ≤ k) : Se w V' m0 m1 m2 m3 a b c d r := by
  have hB : ∀ k, k < w.heap.size + 4 → k < V.heap.size → V'.heap[k]? = V.heap[k]? := fun k hk hs => hg.block k hs (fun e => by have := hr k e.symm; omega)
  have em := hB w.heap.size (by omega) (cell_lt h.bx.c0)
  exact ⟨⟨h.bx.ge, (same_cell em 0).trans h.bx.c0, (same_cell em 1).trans h.bx.c1, (same_cell em 2).trans h.bx.c2, (same_cell em 3).trans h.bx.c3, (same_frozen em 0).trans h.bx.f0, (same_frozen em 1).trans h.bx.f1, (same_frozen em 2).trans h.bx.f2, (same_frozen em 3).trans h.bx.f3,
    h.bx.below.trans ((Below.refl _ _).grown hg h.bx.below.size (fun k e => by have := hr k e; omega))⟩, h.pf.block (hB _ (by omega) h.pf.lt), h.pt.block (hB _ (by omega) h.pt.lt), (hB _ (by omega) h.rs.lt).trans h.rs⟩
theorem Se.res {w V : World} {m0 m1 m2 m3 : Value} {a b c d : Int} {r : Bool} (h : Se w V m0 m1 m2 m3 a b c d r) (x : Bool) : Boxed (V.setCell ⟨w.heap.size + 3, 0, none⟩ (.bool x)) (w.heap.size + 3) 4 (.bool x) ∧ Below w.heap.size w (V.setCell ⟨w.heap.size + 3, 0, none⟩ (.bool x)) :=
  ⟨h.rs.set _, h.bx.below.setCell (p := ⟨w.heap.size + 3, 0, none⟩) (by simp) _⟩
theorem results_cell_bool {fn : Func} {p : Tmp} (h : fn.results = #[.cell p 4]) (tmps : Array Value) (w : World) (g : Nat) (b : Bool) (hp : tmps.getD p undef = .pointer (some ⟨g, 0, none⟩)) (hc : w.cell? ⟨g, 0, none⟩ = some (.bool b)) :
    (results fn tmps).run Try.prog w = .ok (.bool b) w := by
  have hp' : tmps[p]?.getD undef = .pointer (some ⟨g, 0, none⟩) := by simpa using hp
  simp [results, h, hp', asAddr, go_sem, hc]

set_option maxRecDepth 100000 in
set_option maxHeartbeats 4000000 in
theorem sees_any (W H T a b c d high low : Int) (D : Option Addr) (n cp : Nat) (p : Nat → Nat) (w : World) (hb : Bs w D n p) (hp : ∀ i, p i < 256) (hv : Val W H T n) (hf : InC W H a b) (ht : InC W H c d) (h0 : 0 ≤ high) (h1 : high ≤ 255) (l0 : 0 ≤ low) (l1 : low ≤ 255) :
    Calls Try.prog 33 #[.agg #[.int .i64 W, .int .i64 H, .int .i64 T, .slice D n cp], .agg #[.int .i64 a, .int .i64 b], .agg #[.int .i64 c, .int .i64 d], .int .i64 high, .int .i64 low] w
      (Ret (.bool (seesB p W a b c d (cLo p W a b + high) (cLo p W c d + low))) w) := by
  obtain ⟨hW1, hW2, hH1, hH2, -, -⟩ := hv.s
  obtain ⟨a0, a1, b0, b1⟩ := hf
  obtain ⟨c0, c1, d0, d1⟩ := ht
  obtain ⟨f0, f1⟩ := cLo_bd hp W a b
  obtain ⟨f2, f3⟩ := cLo_bd hp W c d
  have F1 := Lib.hid (fun u hb => floor8_any W H T a b D n cp p u hb hp hv a0 a1 b0 b1)
  have F2 := Lib.hid (fun u hb => floor8_any W H T c d D n cp p u hb hp hv c0 c1 d0 d1)
  have HB := Lib.hid hb
  have Ln := Lib.hid (fun u => line_any a b c d u a0 (by omega) b0 (by omega) c0 (by omega) d0 (by omega))
  obtain ⟨L1, eL1⟩ : ∃ L1, cLo p W a b = L1 := ⟨_, rfl⟩
  obtain ⟨L2, eL2⟩ : ∃ L2, cLo p W c d = L2 := ⟨_, rfl⟩
  rw [eL1] at F1 f0 f1 ⊢
  rw [eL2] at F2 f2 f3 ⊢
  clear eL1 eL2 hb
  have Bl : Hid (∀ u, Calls Try.prog 39 #[.agg #[.int .i64 W, .int .i64 H, .int .i64 T, .slice D n cp], .agg #[.int .i64 a, .int .i64 b], .agg #[.int .i64 c, .int .i64 d], .int .i64 (IntKind.i64.wrap (L1 + high)), .int .i64 (IntKind.i64.wrap (L2 + low))] u
      (RetBk a b c d (L1 + high) (L2 + low) (.int .i64 W) (.int .i64 H) (.int .i64 T) (.slice D n cp) u)) := by
    show ∀ u, _
    rw [IntWalk.i64_in (L1 + high) (by omega), IntWalk.i64_in (L2 + low) (by omega)]
    exact fun u => blocker_any W H T a b c d (L1 + high) (L2 + low) D n cp u a0 (by omega) b0 (by omega) c0 (by omega) d0 (by omega)
  obtain ⟨V, hV⟩ : ∃ V, (((w.alloc (.cells #[.int .i64 W, .int .i64 H, .int .i64 T, .slice D n cp] 24)).alloc (.cells #[.int .i64 a, .int .i64 b] 36)).alloc (.cells #[.int .i64 c, .int .i64 d] 36)).alloc (.cells #[.bool false] 4) = V := ⟨_, rfl⟩
  have SE := Lib.hid (Se.new w _ _ _ _ a b c d V hV)
  have HV := Lib.hid hV
  clear hV
  refine (callsIn_wide (n := 3)).1 ?_
  refine callsIn_of_wp_marks Try.func33 rfl trivial ?_ rfl
  simp only [Try.ntmps33, List.size_toArray, List.length_cons, List.length_nil, Nat.reduceAdd, Nat.reduceSub, Array.replicate_succ, Array.replicate_zero, List.push_toArray, List.append_toArray, List.nil_append, List.cons_append]
  refine wpIn_wide.2 ?_
  go_wp2
  rw [HV.out]
  have q0 := SE.out.bx.c0
  have q1 := SE.out.bx.c1
  have q2 := SE.out.bx.c2
  have q3 := SE.out.bx.c3
  have q4 := SE.out.pf.c0
  have q5 := SE.out.pf.c1
  have q6 := SE.out.pt.c0
  have q7 := SE.out.pt.c1
  go_cut [11] from 14 to 27 (fun s11 wx => ∃ g11 gf gt gm gn ga gb, s11 = .pointer (some ⟨g11, 0, none⟩) ∧ Boxed wx g11 64 (.func (.func 41) #[] #[.pointer (some ⟨gf, 0, none⟩), .pointer (some ⟨gt, 0, none⟩), .pointer (some ⟨gm, 0, none⟩), .pointer (some ⟨gn, 0, none⟩), .pointer (some ⟨ga, 0, none⟩), .pointer (some ⟨gb, 0, none⟩)]) ∧
    Bk wx gf gt gm gn ga gb a b c d (.int .i64 W) (.int .i64 H) (.int .i64 T) (.slice D n cp) (L1 + high) (L2 + low) ∧ Se w wx (.int .i64 W) (.int .i64 H) (.int .i64 T) (.slice D n cp) a b c d false)
  case first =>
    go_region_held3 (fun w' => w'.cell? ⟨w.heap.size, 0, none⟩ = some (.int .i64 W) ∧ w'.cell? ⟨w.heap.size, 1, none⟩ = some (.int .i64 H) ∧ w'.cell? ⟨w.heap.size, 2, none⟩ = some (.int .i64 T) ∧ w'.cell? ⟨w.heap.size, 3, none⟩ = some (.slice D n cp) ∧ w'.cell? ⟨w.heap.size + 1, 0, none⟩ = some (.int .i64 a) ∧ w'.cell? ⟨w.heap.size + 1, 1, none⟩ = some (.int .i64 b) ∧ w'.cell? ⟨w.heap.size + 2, 0, none⟩ = some (.int .i64 c) ∧ w'.cell? ⟨w.heap.size + 2, 1, none⟩ = some (.int .i64 d))
      (first | go_keep | exact (SS.out _).cells)
      (first
        | (go_at_call 31; ((with_reducible refine (F1.out V.drew (HB.out.keep SE.out.bx.below.drew)).mono ?_)); rintro e wa ⟨rfl, ba⟩; have SA := Lib.hid (SE.out.keep ((Below.refl _ V).drew.trans ba)); clear ba; have rSA0 := SA.out.bx.c0; have rSA1 := SA.out.bx.c1; have rSA2 := SA.out.bx.c2; have rSA3 := SA.out.bx.c3; have rSA4 := SA.out.pf.c0; have rSA5 := SA.out.pf.c1; have rSA6 := SA.out.pt.c0; have rSA7 := SA.out.pt.c1)
        | (go_at_call 31; ((with_reducible refine (F1.out (V.alloc (.cells #[.nilFunc] 64)).drew (HB.out.keep (SE.out.bx.below.alloc SE.out.bx.below.size _).drew)).mono ?_)); rintro e wx ⟨rfl, ba⟩; have bz := ((Below.refl _ V).alloc (Nat.le_refl _) (.cells #[.nilFunc] 64)).drew; have SX := Lib.hid (SE.out.keep (bz.trans (ba.mono bz.size))); have NX := Lib.hid (box_keepB (show Boxed (V.alloc (.cells #[.nilFunc] 64)).drew V.heap.size _ _ from Boxed.new V _ _) ba (by simp)); have GG := Lib.hid SE.out.rs.lt; clear ba bz; have rSX0 := SX.out.bx.c0; have rSX1 := SX.out.bx.c1; have rSX2 := SX.out.bx.c2; have rSX3 := SX.out.bx.c3; have rSX4 := SX.out.pf.c0; have rSX5 := SX.out.pf.c1; have rSX6 := SX.out.pt.c0; have rSX7 := SX.out.pt.c1)
        | (go_at_call 31; ((with_reducible refine (F1.out wa (HB.out.keep SA.out.bx.below)).mono ?_)); rintro e wb ⟨rfl, bb⟩; have SB := Lib.hid (SA.out.keep bb); clear bb; have rSB0 := SB.out.bx.c0; have rSB1 := SB.out.bx.c1; have rSB2 := SB.out.bx.c2; have rSB3 := SB.out.bx.c3; have rSB4 := SB.out.pf.c0; have rSB5 := SB.out.pf.c1; have rSB6 := SB.out.pt.c0; have rSB7 := SB.out.pt.c1)
        | (go_at_call 31; ((with_reducible refine (F1.out wx (HB.out.keep SX.out.bx.below)).mono ?_)); rintro e wy ⟨rfl, bb⟩; have SY := Lib.hid (SX.out.keep bb); have NY := Lib.hid (box_keepB NX.out bb NX.out.lt); clear bb; have rSY0 := SY.out.bx.c0; have rSY1 := SY.out.bx.c1; have rSY2 := SY.out.bx.c2; have rSY3 := SY.out.bx.c3; have rSY4 := SY.out.pf.c0; have rSY5 := SY.out.pf.c1; have rSY6 := SY.out.pt.c0; have rSY7 := SY.out.pt.c1)
        | (go_at_call 31; ((with_reducible refine (F1.out (wa.alloc (.cells #[.nilFunc] 64)) (HB.out.keep (SA.out.bx.below.alloc SA.out.bx.below.size _))).mono ?_)); rintro e wy ⟨rfl, bb⟩; have bz := (Below.refl _ wa).alloc (Nat.le_refl _) (.cells #[.nilFunc] 64); have SY := Lib.hid (SA.out.keep (bz.trans (bb.mono bz.size))); have NY := Lib.hid (box_keepB (Boxed.new wa 64 .nilFunc) bb (by simp)); have GG := Lib.hid SA.out.rs.lt; clear bb bz; have rSY0 := SY.out.bx.c0; have rSY1 := SY.out.bx.c1; have rSY2 := SY.out.bx.c2; have rSY3 := SY.out.bx.c3; have rSY4 := SY.out.pf.c0; have rSY5 := SY.out.pf.c1; have rSY6 := SY.out.pt.c0; have rSY7 := SY.out.pt.c1)
        | (go_at_call 31; ((with_reducible refine (F2.out V.drew (HB.out.keep SE.out.bx.below.drew)).mono ?_)); rintro e wa ⟨rfl, ba⟩; have SA := Lib.hid (SE.out.keep ((Below.refl _ V).drew.trans ba)); clear ba; have rSA0 := SA.out.bx.c0; have rSA1 := SA.out.bx.c1; have rSA2 := SA.out.bx.c2; have rSA3 := SA.out.bx.c3; have rSA4 := SA.out.pf.c0; have rSA5 := SA.out.pf.c1; have rSA6 := SA.out.pt.c0; have rSA7 := SA.out.pt.c1)
        | (go_at_call 31; ((with_reducible refine (F2.out (V.alloc (.cells #[.nilFunc] 64)).drew (HB.out.keep (SE.out.bx.below.alloc SE.out.bx.below.size _).drew)).mono ?_)); rintro e wx ⟨rfl, ba⟩; have bz := ((Below.refl _ V).alloc (Nat.le_refl _) (.cells #[.nilFunc] 64)).drew; have SX := Lib.hid (SE.out.keep (bz.trans (ba.mono bz.size))); have NX := Lib.hid (box_keepB (show Boxed (V.alloc (.cells #[.nilFunc] 64)).drew V.heap.size _ _ from Boxed.new V _ _) ba (by simp)); have GG := Lib.hid SE.out.rs.lt; clear ba bz; have rSX0 := SX.out.bx.c0; have rSX1 := SX.out.bx.c1; have rSX2 := SX.out.bx.c2; have rSX3 := SX.out.bx.c3; have rSX4 := SX.out.pf.c0; have rSX5 := SX.out.pf.c1; have rSX6 := SX.out.pt.c0; have rSX7 := SX.out.pt.c1)
        | (go_at_call 31; ((with_reducible refine (F2.out wa (HB.out.keep SA.out.bx.below)).mono ?_)); rintro e wb ⟨rfl, bb⟩; have SB := Lib.hid (SA.out.keep bb); clear bb; have rSB0 := SB.out.bx.c0; have rSB1 := SB.out.bx.c1; have rSB2 := SB.out.bx.c2; have rSB3 := SB.out.bx.c3; have rSB4 := SB.out.pf.c0; have rSB5 := SB.out.pf.c1; have rSB6 := SB.out.pt.c0; have rSB7 := SB.out.pt.c1)
        | (go_at_call 31; ((with_reducible refine (F2.out wx (HB.out.keep SX.out.bx.below)).mono ?_)); rintro e wy ⟨rfl, bb⟩; have SY := Lib.hid (SX.out.keep bb); have NY := Lib.hid (box_keepB NX.out bb NX.out.lt); clear bb; have rSY0 := SY.out.bx.c0; have rSY1 := SY.out.bx.c1; have rSY2 := SY.out.bx.c2; have rSY3 := SY.out.bx.c3; have rSY4 := SY.out.pf.c0; have rSY5 := SY.out.pf.c1; have rSY6 := SY.out.pt.c0; have rSY7 := SY.out.pt.c1)
        | (go_at_call 31; ((with_reducible refine (F2.out (wa.alloc (.cells #[.nilFunc] 64)) (HB.out.keep (SA.out.bx.below.alloc SA.out.bx.below.size _))).mono ?_)); rintro e wy ⟨rfl, bb⟩; have bz := (Below.refl _ wa).alloc (Nat.le_refl _) (.cells #[.nilFunc] 64); have SY := Lib.hid (SA.out.keep (bz.trans (bb.mono bz.size))); have NY := Lib.hid (box_keepB (Boxed.new wa 64 .nilFunc) bb (by simp)); have GG := Lib.hid SA.out.rs.lt; clear bb bz; have rSY0 := SY.out.bx.c0; have rSY1 := SY.out.bx.c1; have rSY2 := SY.out.bx.c2; have rSY3 := SY.out.bx.c3; have rSY4 := SY.out.pf.c0; have rSY5 := SY.out.pf.c1; have rSY6 := SY.out.pt.c0; have rSY7 := SY.out.pt.c1)
        | (go_at_call 39; ((with_reducible refine (Bl.out wb).mono ?_)); rintro e wc ⟨gf, gt, gm, gn, ga, gb, rfl, hBk, bc⟩; have SC := Lib.hid (SB.out.keep bc); have KC := Lib.hid hBk; clear bc hBk; have rSC0 := SC.out.bx.c0; have rSC1 := SC.out.bx.c1; have rSC2 := SC.out.bx.c2; have rSC3 := SC.out.bx.c3; have rSC4 := SC.out.pf.c0; have rSC5 := SC.out.pf.c1; have rSC6 := SC.out.pt.c0; have rSC7 := SC.out.pt.c1; have SS := Lib.hid (fun v => SC.out.keep ((Below.refl _ wc).alloc (Nat.le_refl _) (.cells #[v] 64))); have FF := Lib.hid (fun v => KC.out.keep ((Below.refl _ wc).alloc (Nat.le_refl _) (.cells #[v] 64))); have NN := Lib.hid (fun v => Boxed.new wc 64 v); have fz := (Boxed.new wc 64 .nilFunc).frozen; have cz := (Boxed.new wc 64 .nilFunc).cell)
        | (go_at_call 39; ((with_reducible refine (Bl.out wy).mono ?_)); rintro e wz ⟨gf, gt, gm, gn, ga, gb, rfl, hBk, bc⟩; have SZ := Lib.hid (SY.out.keep bc); have KZ := Lib.hid hBk; have NZ := Lib.hid (box_keepB NY.out bc NY.out.lt); clear bc hBk; have rSZ0 := SZ.out.bx.c0; have rSZ1 := SZ.out.bx.c1; have rSZ2 := SZ.out.bx.c2; have rSZ3 := SZ.out.bx.c3; have rSZ4 := SZ.out.pf.c0; have rSZ5 := SZ.out.pf.c1; have rSZ6 := SZ.out.pt.c0; have rSZ7 := SZ.out.pt.c1; have SS := Lib.hid (fun v => SZ.out.put GG.out v); have FF := Lib.hid (fun v => KZ.out.put NZ.out v); have NN := Lib.hid (fun v => NZ.out.set v); have fz := NZ.out.frozen; have cz := NZ.out.cell)
        | (go_at_call 39; ((with_reducible refine (Bl.out (wb.alloc (.cells #[.nilFunc] 64))).mono ?_)); rintro e wz ⟨gf, gt, gm, gn, ga, gb, rfl, hBk, bc⟩; have bz := (Below.refl _ wb).alloc (Nat.le_refl _) (.cells #[.nilFunc] 64); have SZ := Lib.hid (SB.out.keep (bz.trans (bc.mono bz.size))); have KZ := Lib.hid hBk; have NZ := Lib.hid (box_keepB (Boxed.new wb 64 .nilFunc) bc (by simp)); have GG := Lib.hid SB.out.rs.lt; clear bc bz hBk; have rSZ0 := SZ.out.bx.c0; have rSZ1 := SZ.out.bx.c1; have rSZ2 := SZ.out.bx.c2; have rSZ3 := SZ.out.bx.c3; have rSZ4 := SZ.out.pf.c0; have rSZ5 := SZ.out.pf.c1; have rSZ6 := SZ.out.pt.c0; have rSZ7 := SZ.out.pt.c1; have SS := Lib.hid (fun v => SZ.out.put GG.out v); have FF := Lib.hid (fun v => KZ.out.put NZ.out v); have NN := Lib.hid (fun v => NZ.out.set v); have fz := NZ.out.frozen; have cz := NZ.out.cell))
    all_goals (go_wp2_with fail; go_meet)
    all_goals exact ⟨_, _, _, _, _, _, _, rfl, NN.out _, FF.out _, SS.out _⟩
  case rest =>
    obtain ⟨g11, gf, gt, gm, gn, ga, gb, rfl, hN, hBk, hSe⟩ := hcut
    rename World => wx
    have NX := Lib.hid hN
    have KX := Lib.hid hBk
    have SX := Lib.hid hSe
    have t0 := hSe.pf.c0
    have t1 := hSe.pf.c1
    have t2 := hSe.pt.c0
    have t3 := hSe.pt.c1
    clear hN hBk hSe q0 q1 q2 q3 q4 q5 q6 q7 F1 F2 Bl SE HV
    rename_i K hK
    refine hK _ _ ?_
    clear hK K
    refine (wpIn_wide (n := 3)).1 ?_
    gi_wp2_with fail
    refine ⟨trivial, ?_⟩
    refine (callsIn_wide.2 (Ln.out wx)).mono ?_
    rintro e w5 ⟨gl, rfl, hLb, b5⟩
    have HLb := Lib.hid hLb
    have N5 := Lib.hid (box_keepB NX.out b5 NX.out.lt)
    have K5 := Lib.hid (KX.out.keep b5)
    have S5 := Lib.hid (SX.out.keep b5)
    clear hLb b5 NX KX SX t0 t1 t2 t3 Ln
    have l11 := N5.out.lt
    have l12 := K5.out.pf.lt
    have l13 := K5.out.pt.lt
    have l14 := cell_lt K5.out.m0
    have l15 := K5.out.hn.lt
    have l16 := K5.out.ha.lt
    have l17 := K5.out.hb.lt
    have l18 := S5.out.rs.lt
    have hn3 : 1 ≤ 3 := by omega
    have hL63 : lng a b c d ≤ 63 := lng_bd a0 (by omega) b0 (by omega) c0 (by omega) d0 (by omega)
    gi_wp2
    refine range8 rfl hn3 (gf := 35) (lb := #[.pointer (some ⟨wx.heap.size, 0, none⟩), .pointer (some ⟨gl, 0, none⟩), .pointer (some ⟨wx.heap.size + 1, 0, none⟩)]) rfl trivial (enters_of Try.func35 (by kernel_rfl) rfl)
      (line_seq (3 - 1) wx.heap.size gl a b c d w5 (by decide) a0 (by omega) b0 (by omega) c0 (by omega) d0 (by omega) HLb.out) (Below.refl _ _) (fun _ => rfl)
      (fun q W5 => (∀ Q, Q < q → blk p W a b c d (L1 + high) (L2 + low) (cq a c (lng a b c d) Q) (cq b d (lng a b c d) Q) Q = false) ∧ Boxed W5 g11 64 (.func (.func 41) #[] #[.pointer (some ⟨gf, 0, none⟩), .pointer (some ⟨gt, 0, none⟩), .pointer (some ⟨gm, 0, none⟩), .pointer (some ⟨gn, 0, none⟩), .pointer (some ⟨ga, 0, none⟩), .pointer (some ⟨gb, 0, none⟩)]) ∧ Bk W5 gf gt gm gn ga gb a b c d (.int .i64 W) (.int .i64 H) (.int .i64 T) (.slice D n cp) (L1 + high) (L2 + low) ∧ Se w W5 (.int .i64 W) (.int .i64 H) (.int .i64 T) (.slice D n cp) a b c d false)
      (fun Q W5 => blk p W a b c d (L1 + high) (L2 + low) (cq a c (lng a b c d) Q) (cq b d (lng a b c d) Q) Q = true ∧ Boxed W5 (w.heap.size + 3) 4 (.bool false) ∧ Below w.heap.size w W5) ?own ?ownx ⟨fun _ h => absurd h (Nat.not_lt_zero _), N5.out, K5.out, S5.out⟩
      (fun q a' W5 => ∃ g13, P2 W5 g13 (cq a c (lng a b c d) q) (cq b d (lng a b c d) q) ∧ a' = { tmps := #[(.agg #[.int .i64 W, .int .i64 H, .int .i64 T, .slice D n cp]), (.agg #[.int .i64 a, .int .i64 b]), (.agg #[.int .i64 c, .int .i64 d]), (.int .i64 high), (.int .i64 low), (.pointer (some ⟨w.heap.size, 0, none⟩)), (.pointer (some ⟨w.heap.size + 1, 0, none⟩)), (.pointer (some ⟨w.heap.size + 1 + 1, 0, none⟩)), undef, undef, (.pointer (some ⟨w.heap.size + 1 + 1 + 1, 0, none⟩)), (.pointer (some ⟨g11, 0, none⟩)), (.int .i64 (q : Int)), (.pointer (some ⟨g13, 0, none⟩)), u14, u15, u16, u17, u18, u19, u20, u21, u22, u23, u24, u25, u26, u27, (.agg #[.int .i64 a, .int .i64 b]), (.agg #[.int .i64 c, .int .i64 d]), (.func (.func 35) #[] #[.pointer (some ⟨wx.heap.size, 0, none⟩), .pointer (some ⟨gl, 0, none⟩), .pointer (some ⟨wx.heap.size + 1, 0, none⟩)]), (.int .i64 (q : Int)), (.agg #[.int .i64 (cq a c (lng a b c d) q), .int .i64 (cq b d (lng a b c d) q)]), undef, undef, undef, undef], defers := [] }) ?ax ?assign ?body ?done ?stop
    case own =>
      rintro q X Y row ⟨i1, i2, i3, i4⟩ hg hr
      exact ⟨i1, i2.kept hg (fun e => by have := hr _ e.symm; omega), i3.grown hg hr l12 l13 l14 l15 l16 l17, i4.grown hg (fun k e => by have := hr k e; omega)⟩
    case ownx =>
      rintro q X Y row ⟨i1, i2, i3⟩ hg hr
      exact ⟨i1, i2.kept hg (fun e => by have := hr _ e.symm; omega), i3.trans ((Below.refl _ _).grown hg i3.size (fun k e => by have := hr k e; omega))⟩
    case ax =>
      rintro q a' - X Y row ⟨g13, hp, e⟩ hg hr
      exact ⟨g13, hp.block (hg.block g13 hp.lt (fun e' => by obtain ⟨_, o, ho, hc⟩ := hr g13 e'.symm; rw [show X.heap[g13]? = _ from hp] at ho; cases ho; cases hc)), e⟩
    case assign =>
      rintro l q X K hq ⟨i1, i2, i3, i4⟩ hK
      have I1 := Lib.hid i1
      have I2 := Lib.hid i2
      have I3 := Lib.hid i3
      have I4 := Lib.hid i4
      have HK := Lib.hid hK
      clear i1 i2 i3 i4 hK
      unfold lenc
      gi_wp2
      exact HK.out _ _ ((KeepsOthers.alloc X _).from _) (Kq.below ((Below.refl _ _).alloc (Nat.le_refl _) _)) ⟨I1.out, I2.out.alloc _, I3.out.keep ((Below.refl _ _).alloc (Nat.le_refl _) _), I4.out.keep ((Below.refl _ _).alloc (Nat.le_refl _) _)⟩ ⟨X.heap.size, P2.new X _ _, rfl⟩
    case body =>
      rintro l q a' X hq ⟨i1, i2, i3, i4⟩ ⟨g13, hP, rfl⟩
      obtain ⟨x, ex⟩ : ∃ x, cq a c (lng a b c d) q = x := ⟨_, rfl⟩
      obtain ⟨y, ey⟩ : ∃ y, cq b d (lng a b c d) q = y := ⟨_, rfl⟩
      obtain ⟨hx1, hx2⟩ := q_within (lng_len a b c d).1 (q := q) (by omega) 0 (W - 1) a0 (by omega) c0 (by omega)
      obtain ⟨hy1, hy2⟩ := q_within (lng_len a b c d).2 (q := q) (by omega) 0 (H - 1) b0 (by omega) d0 (by omega)
      rw [ex] at hP hx1 hx2
      rw [ey] at hP hy1 hy2
      have Cb := Lib.hid (block_any W H T a b c d (L1 + high) (L2 + low) x y q gf gt gm gn ga gb D n cp p X (HB.out.keep i4.bx.below) hp hv hx1 (by omega) hy1 (by omega) hL63 (by omega) (by omega) (by omega) (by omega) (by omega) i3)
      have t0 := i2.cell
      have t1 := hP.c0
      have t2 := hP.c1
      have HS := Lib.hid i4
      have HI : Hid (blk p W a b c d (L1 + high) (L2 + low) (cq a c (lng a b c d) q) (cq b d (lng a b c d) q) q = false → ∀ Q, Q < q + 1 → blk p W a b c d (L1 + high) (L2 + low) (cq a c (lng a b c d) Q) (cq b d (lng a b c d) Q) Q = false) := by
        intro h Q hQ
        rcases Nat.lt_or_ge Q q with h' | h'
        · exact i1 Q h'
        · obtain rfl : Q = q := by omega
          exact h
      have I2 := Lib.hid i2
      have I3 := Lib.hid i3
      have HT : Hid (blk p W a b c d (L1 + high) (L2 + low) x y q = blk p W a b c d (L1 + high) (L2 + low) (cq a c (lng a b c d) q) (cq b d (lng a b c d) q) q) := by rw [ex, ey]; rfl
      rw [ex, ey]
      clear i1 i2 i3 i4 hP
      gi_wp2_with fail
      refine ⟨trivial, ?_⟩
      refine (CallsIn.inRound l (callsIn_wide.2 Cb.out)).mono ?_
      rintro e X2 ⟨rfl, b2⟩
      have S2 := Lib.hid (HS.out.keep b2)
      have J2 := Lib.hid (box_keepB I2.out b2 I2.out.lt)
      have J3 := Lib.hid (I3.out.keep b2)
      have B2 := Lib.hid b2
      have c3 : X2.cell? ⟨w.heap.size + 1 + 1 + 1, 0, none⟩ = _ := S2.out.rs.cell
      have c4 : X2.frozen? ⟨w.heap.size + 1 + 1 + 1, 0, none⟩ = _ := S2.out.rs.frozen
      clear b2 t0 t1 t2 HS I2 I3 Cb
      cases hb : blk p W a b c d (L1 + high) (L2 + low) x y q with
      | true =>
        gi_wp2
        exact ⟨((KeepsOthers.of_grownBy (row := none) (below_grownBy B2.out) (fun j o e => by cases e)).trans (KeepsOthers.setCell _ _ _)).from _, HT.out.symm.trans hb, S2.out.res false⟩
      | false =>
        gi_wp2
        exact ⟨(KeepsOthers.of_grownBy (row := none) (below_grownBy B2.out) (fun j o e => by cases e)).from _, Kq.below B2.out, HI.out (HT.out.symm.trans hb), J2.out, J3.out, S2.out⟩
    case done =>
      rintro Dm X hD ⟨i1, i2, i3, i4⟩ hK
      have hlt := i4.rs.lt
      have H1 : Hid (seesB p W a b c d (L1 + high) (L2 + low) = true) := by unfold seesB; exact decide_eq_true i1
      have H2 := Lib.hid (i4.res true)
      have c3 : X.cell? ⟨w.heap.size + 1 + 1 + 1, 0, none⟩ = _ := i4.rs.cell
      have c4 : X.frozen? ⟨w.heap.size + 1 + 1 + 1, 0, none⟩ = _ := i4.rs.frozen
      have HK : Hid ((X.setCell ⟨w.heap.size + 3, 0, none⟩ (.bool true)).heap[Dm]? = some (.deferred (some []))) := (heap_setCell_other _ _ _ _ (by simp; omega)).trans hK
      clear i1 i2 i3 i4 hK
      gi_wp2
      refine ⟨by simp, .inl ⟨Dm, _, rfl, run_takeDeferred HK.out, ?_⟩⟩
      have hgP := grownBy_putObj' (X.setCell ⟨w.heap.size + 3, 0, none⟩ (.bool true)) Dm (.deferred none)
      have hB2 := H2.out.1.kept hgP (fun e => by injection e with e; omega)
      refine ⟨_, results_cell_bool rfl _ _ (w.heap.size + 3) true rfl hB2.cell, ?_⟩
      exact Ret.mk (congrArg Value.bool H1.out.symm) (H2.out.2.trans ((Below.refl _ _).grown hgP H2.out.2.size (fun r e => by cases e; omega)))
    case stop =>
      rintro Dm q X hD hq ⟨i1, i2, i3⟩ hK
      have H1 : Hid (seesB p W a b c d (L1 + high) (L2 + low) = false) := by
        unfold seesB; exact decide_eq_false (fun h => by have := h q hq; rw [i1] at this; cases this)
      have H2 := Lib.hid i2
      have H3 := Lib.hid i3
      have HK := Lib.hid hK
      clear i1 i2 i3 hK
      gi_wp2
      refine ⟨by simp, .inl ⟨Dm, _, rfl, run_takeDeferred HK.out, ?_⟩⟩
      have hgP := grownBy_putObj' X Dm (.deferred none)
      have hB2 := H2.out.kept hgP (fun e => by injection e with e; omega)
      refine ⟨_, results_cell_bool rfl _ _ (w.heap.size + 3) false rfl hB2.cell, ?_⟩
      exact Ret.mk (congrArg Value.bool H1.out.symm) (H3.out.trans ((Below.refl _ _).grown hgP H3.out.size (fun r e => by cases e; omega)))

end Go.Proofs.Ytljedkceicahaaa
