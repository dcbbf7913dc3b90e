/- Contracts of package ray, fourth part: line, and the iterator that it hands back. -/
import Derived.Test.YtljedkceicahaaaRy1
import Derived.Deep.RegionHeld3
import Derived.Test.YtljedkceicahaaaStill8
namespace Go.Proofs.Ytljedkceicahaaa
open Go.RowKit Go.Shelf
set_option linter.unusedVariables false
attribute [local go_sem] Oper.semAt_some

/-- '==' on two arrays of two. -/
theorem eq_two (a b c d : Int) (w : World) : (Op.equalIn 10000 36 (.agg #[.int .i64 a, .int .i64 b]) (.agg #[.int .i64 c, .int .i64 d])).run Try.prog w = .ok (a == c && b == d) w := by
  have u3 := Try.underlying3
  have a3 := Try.isAgg3
  have z3 := Try.sizeOf3
  rw [show (10000 : Nat) = 9999 + 1 from rfl, Op.equalIn]
  simp only [Sem.run_bind, run_underlying Try.underlying36, Result.andThen_ok]
  simp only [Std.Legacy.Range.forIn_eq_forIn_range', Std.Legacy.Range.size, Nat.sub_zero, Nat.add_sub_cancel, Nat.div_one, List.range'_succ, List.range'_zero, List.forIn_cons, List.forIn_nil]
  go_simp
  by_cases h1 : a = c <;> by_cases h2 : b = d <;> simp [h1, h2]
attribute [local go_sem] eq_two

/-- Block g holds two numbers, and may be written. -/
def P2 (W : World) (g : Nat) (x y : Int) : Prop := W.heap[g]? = some (.cells #[.int .i64 x, .int .i64 y] 36 (0, 0))
theorem P2.lt {W : World} {g : Nat} {x y : Int} (h : P2 W g x y) : g < W.heap.size := (Array.getElem?_eq_some_iff.1 h).1
theorem P2.c0 {W : World} {g : Nat} {x y : Int} (h : P2 W g x y) : W.cell? ⟨g, 0, none⟩ = some (.int .i64 x) := by
  rw [cell_of_row W g 0 _ 36 (0, 0) h]; rfl
theorem P2.c1 {W : World} {g : Nat} {x y : Int} (h : P2 W g x y) : W.cell? ⟨g, 1, none⟩ = some (.int .i64 y) := by
  rw [cell_of_row W g 1 _ 36 (0, 0) h]; rfl
theorem P2.f {W : World} {g : Nat} {x y : Int} (h : P2 W g x y) (i : Nat) : W.frozen? ⟨g, i, none⟩ = false := frozen_of_row W g i _ 36 h
theorem P2.new (W : World) (x y : Int) : P2 (W.alloc (.cells #[.int .i64 x, .int .i64 y] 36)) W.heap.size x y := World.alloc_heap_new W _
theorem P2.block {W W' : World} {g : Nat} {x y : Int} (h : P2 W g x y) (e : W'.heap[g]? = W.heap[g]?) : P2 W' g x y := e.trans h
theorem P2.keep {W W' : World} {g : Nat} {x y : Int} (h : P2 W g x y) (hb : Below W.heap.size W W') : P2 W' g x y := h.block (hb.block g h.lt)
theorem P2.kq {W W' : World} {g B : Nat} {x y : Int} (h : P2 W g x y) (k : Kq B W W') (hg : B ≤ g) : P2 W' g x y := k g _ hg h rfl
theorem P2.far {W : World} {g b i : Nat} {x y : Int} (h : P2 W g x y) (hne : b ≠ g) (v : Value) : P2 (W.setCell ⟨b, i, none⟩ v) g x y := h.block (heap_setCell_other _ _ _ _ (fun e => hne e.symm))
theorem P2.s0 {W : World} {g : Nat} {x y : Int} (h : P2 W g x y) (v : Int) : P2 (W.setCell ⟨g, 0, none⟩ (.int .i64 v)) g v y := by
  unfold P2; rw [heap_setCell_same W g 0 _ 36 _ h]; rfl
theorem P2.s1 {W : World} {g : Nat} {x y : Int} (h : P2 W g x y) (v : Int) : P2 (W.setCell ⟨g, 1, none⟩ (.int .i64 v)) g x v := by
  unfold P2; rw [heap_setCell_same W g 1 _ 36 _ h]; rfl

/-- The boxes that the iterator reads. -/
structure Lb (W : World) (lo gn : Nat) (a b c d : Int) : Prop where
  g0 : lo ≤ gn
  hf : P2 W lo a b
  ht : P2 W (lo + 1) c d
  hn : Boxed W gn 3 (.int .i64 (lng a b c d : Int))
theorem Lb.kq {W W' : World} {lo gn : Nat} {a b c d : Int} (h : Lb W lo gn a b c d) (k : Kq lo W W') : Lb W' lo gn a b c d :=
  ⟨h.g0, h.hf.kq k (Nat.le_refl _), h.ht.kq k (by omega), k gn _ h.g0 h.hn rfl⟩
theorem Lb.far {W : World} {lo gn g i : Nat} {a b c d : Int} (h : Lb W lo gn a b c d) (h1 : g ≠ lo) (h2 : g ≠ lo + 1) (h3 : g ≠ gn) (v : Value) : Lb (W.setCell ⟨g, i, none⟩ v) lo gn a b c d :=
  ⟨h.g0, h.hf.far h1 v, h.ht.far h2 v, box_far h.hn h3⟩

/-- line hands back an iterator. -/
def RetLine (a b c d : Int) (w : World) (e : Ending) (w' : World) : Prop :=
  ∃ gn, e = .returned (.func (.func 35) #[] #[.pointer (some ⟨w.heap.size, 0, none⟩), .pointer (some ⟨gn, 0, none⟩), .pointer (some ⟨w.heap.size + 1, 0, none⟩)]) ∧ Lb w' w.heap.size gn a b c d ∧ Below w.heap.size w w'

set_option maxHeartbeats 400000 in
theorem line_any (a b c d : Int) (w : World) (a0 : 0 ≤ a) (a1 : a ≤ 63) (b0 : 0 ≤ b) (b1 : b ≤ 63) (c0 : 0 ≤ c) (c1 : c ≤ 63) (d0 : 0 ≤ d) (d1 : d ≤ 63) :
    Calls Try.prog 26 #[.agg #[.int .i64 a, .int .i64 b], .agg #[.int .i64 c, .int .i64 d]] w (RetLine a b c d w) := by
  have C := Lib.hid (fun u => steps_any a b c d u a0 a1 b0 b1 c0 c1 d0 d1)
  have Q1 := Lib.hid ((P2.new w a b).keep ((Below.refl _ _).alloc (Nat.le_refl _) (.cells #[.int .i64 c, .int .i64 d] 36)))
  have Q2 : Hid (P2 ((w.alloc (.cells #[.int .i64 a, .int .i64 b] 36)).alloc (.cells #[.int .i64 c, .int .i64 d] 36)) (w.heap.size + 1) c d) := by
    have h := P2.new (w.alloc (.cells #[.int .i64 a, .int .i64 b] 36)) c d
    rw [World.size_alloc] at h
    exact h
  go_enter Try.func26, Try.ntmps26
  go_wp2_with fail
  refine (C.out _).mono ?_
  rintro e w1 ⟨rfl, b1⟩
  have R1 := Lib.hid (Q1.out.keep b1)
  have R2 := Lib.hid (Q2.out.keep b1)
  have B1 := Lib.hid (below_box (below_box b1))
  clear b1 Q1 Q2 C
  go_wp2
  go_ret
  exact ⟨w1.heap.size, rfl, ⟨B1.out.size, R1.out.keep ((Below.refl _ _).alloc (Nat.le_refl _) _), R2.out.keep ((Below.refl _ _).alloc (Nat.le_refl _) _), Boxed.new w1 _ _⟩, B1.out.alloc B1.out.size _⟩

theorem calls_still {f : FuncId} {args : Array Value} {w : World} {v : Value} (h : Calls Try.prog f args w fun e w' => e = .returned v ∧ w = w') : Calls Try.prog f args w fun e w' => e = .returned v ∧ w' = w :=
  h.mono fun _ _ g => ⟨g.1, g.2.symm⟩
/-- What the q-th call of yield is handed. -/
def lenc (a b c d : Int) (q : Nat) : Array Value := #[.int .i64 (q : Int), .agg #[.int .i64 (cq a c (lng a b c d) q), .int .i64 (cq b d (lng a b c d) q)]]

theorem two_p2 (W : World) (x y u v : Int) : P2 ((W.alloc (.cells #[.int .i64 x, .int .i64 y] 36)).alloc (.cells #[.int .i64 u, .int .i64 v] 36)).drew W.heap.size x y ∧
    P2 ((W.alloc (.cells #[.int .i64 x, .int .i64 y] 36)).alloc (.cells #[.int .i64 u, .int .i64 v] 36)).drew (W.heap.size + 1) u v ∧
    Below W.heap.size W ((W.alloc (.cells #[.int .i64 x, .int .i64 y] 36)).alloc (.cells #[.int .i64 u, .int .i64 v] 36)).drew := by
  refine ⟨(P2.new W x y).keep ((Below.refl _ _).alloc (Nat.le_refl _) _).drew, ?_, (((Below.refl _ W).alloc (Nat.le_refl _) _).alloc (by simp) _).drew⟩
  have h := P2.new (W.alloc (.cells #[.int .i64 x, .int .i64 y] 36)) u v
  rw [World.size_alloc] at h
  exact h
/-- The iterator's memory between two steps. -/
structure St5 (J : Nat → World → Prop) (X : World) (q lo gn ga gr : Nat) (a b c d x y r s : Int) : Prop where
  j : J q X
  pa : P2 X ga x y
  pr : P2 X gr r s
  lb : Lb X lo gn a b c d
theorem St5.put0 {J : Nat → World → Prop} {X : World} {q lo gn ga gr B : Nat} {a b c d x y r s : Int} (h : St5 J X q lo gn ga gr a b c d x y r s) (hA : Abw B J) (h1 : B ≤ ga) (h2 : B ≤ gr) (hne : ga ≠ gr) (l0 : lo + 1 < B) (l1 : gn < B) (u v : Int) :
    St5 J ((X.drew.setCell ⟨ga, 0, none⟩ (.int .i64 u)).setCell ⟨gr, 0, none⟩ (.int .i64 v)) q lo gn ga gr a b c d u y v s := by
  have d1 : J q X.drew := hA q X X.drew none h.j (below_grownBy (Below.refl _ _).drew) (fun r e => by cases e)
  have d2 := hA q _ _ (some ga) d1 (grownBy_set X.drew ga 0 (.int .i64 u)) (fun r e => by cases e; exact h1)
  have d3 := hA q _ _ (some gr) d2 (grownBy_set _ gr 0 (.int .i64 v)) (fun r e => by cases e; exact h2)
  have pa : P2 X.drew ga x y := h.pa
  have pr : P2 X.drew gr r s := h.pr
  have lb : Lb X.drew lo gn a b c d := ⟨h.lb.g0, h.lb.hf, h.lb.ht, h.lb.hn⟩
  exact ⟨d3, (pa.s0 u).far (fun e => hne e.symm) _, (pr.far hne _).s0 v, (lb.far (by omega) (by omega) (by omega) _).far (by omega) (by omega) (by omega) _⟩
theorem St5.put1 {J : Nat → World → Prop} {X : World} {q lo gn ga gr B : Nat} {a b c d x y r s : Int} (h : St5 J X q lo gn ga gr a b c d x y r s) (hA : Abw B J) (h1 : B ≤ ga) (h2 : B ≤ gr) (hne : ga ≠ gr) (l0 : lo + 1 < B) (l1 : gn < B) (u v : Int) :
    St5 J ((X.drew.setCell ⟨ga, 1, none⟩ (.int .i64 u)).setCell ⟨gr, 1, none⟩ (.int .i64 v)) q lo gn ga gr a b c d x u r v := by
  have d1 : J q X.drew := hA q X X.drew none h.j (below_grownBy (Below.refl _ _).drew) (fun r e => by cases e)
  have d2 := hA q _ _ (some ga) d1 (grownBy_set X.drew ga 1 (.int .i64 u)) (fun r e => by cases e; exact h1)
  have d3 := hA q _ _ (some gr) d2 (grownBy_set _ gr 1 (.int .i64 v)) (fun r e => by cases e; exact h2)
  have pa : P2 X.drew ga x y := h.pa
  have pr : P2 X.drew gr r s := h.pr
  have lb : Lb X.drew lo gn a b c d := ⟨h.lb.g0, h.lb.hf, h.lb.ht, h.lb.hn⟩
  exact ⟨d3, (pa.s1 u).far (fun e => hne e.symm) _, (pr.far hne _).s1 v, (lb.far (by omega) (by omega) (by omega) _).far (by omega) (by omega) (by omega) _⟩
/-- Behind the iterator's entry. -/
structure Lo5 (V W : World) (lo gn ga gr : Nat) (a b c d : Int) : Prop where
  hs : V.heap.size ≤ ga
  ht : V.heap.size ≤ gr
  hne : ga ≠ gr
  hb : Lb W lo gn a b c d
  l1 : lo + 1 < V.heap.size
  l2 : gn < V.heap.size

set_option maxRecDepth 100000 in
set_option maxHeartbeats 4000000 in
theorem line_seq (n lo gn : Nat) (a b c d : Int) (w : World) (hn : 1 ≤ n) (a0 : 0 ≤ a) (a1 : a ≤ 63) (b0 : 0 ≤ b) (b1 : b ≤ 63) (c0 : 0 ≤ c) (c1 : c ≤ 63) (d0 : 0 ≤ d) (d1 : d ≤ 63) (hL : Lb w lo gn a b c d) :
    Seq8 Fence.wide n Try.prog 35 #[.pointer (some ⟨lo, 0, none⟩), .pointer (some ⟨gn, 0, none⟩), .pointer (some ⟨lo + 1, 0, none⟩)] (lenc a b c d) lo (lng a b c d + 1) w := by
  intro l J Jx W hW hA hY h0
  have HA := Lib.hid hA
  have HY := Lib.hid hY
  have HJ := Lib.hid h0
  have hl1 := hL.ht.lt
  have hl2 := hL.hn.lt
  have HL : Hid (Lb W lo gn a b c d) := hL.kq (Kq.below hW)
  have hs := hW.size
  have hl3 := hL.g0
  clear hA hY h0 hL hW
  obtain ⟨N, eN⟩ : ∃ N, lng a b c d = N := ⟨_, rfl⟩
  have EN := Lib.hid eN
  have hN : N ≤ 63 := by rw [← eN]; exact lng_bd a0 a1 b0 b1 c0 c1 d0 d1
  have k1 := HL.out.hf.c0
  have k2 := HL.out.hf.c1
  have k3 := HL.out.hn.cell
  rw [eN] at k3
  clear eN
  have hd1 : 1 ≤ n - 1 + 1 := by omega
  refine callsIn_of_wp Try.func35 rfl trivial ?_ rfl
  simp only [Try.ntmps35, List.size_toArray, List.length_cons, List.length_nil, Nat.reduceAdd, Nat.reduceSub, Array.replicate_succ, Array.replicate_zero, List.push_toArray, List.append_toArray, List.nil_append, List.cons_append]
  refine wpIn_wide.2 ?_
  go_wp2
  go_cut [5, 6] (fun s5 s6 wx => ∃ ga gr, s5 = .pointer (some ⟨ga, 0, none⟩) ∧ s6 = .pointer (some ⟨gr, 0, none⟩) ∧ Lo5 W wx lo gn ga gr a b c d ∧ P2 wx ga a b ∧ P2 wx gr (N : Int) (N : Int) ∧ J 0 wx)
  case first =>
    have q1 := fun o => kc ((Below.refl _ W).alloc (Nat.le_refl _) o) k1
    have q2 := fun o => kc ((Below.refl _ W).alloc (Nat.le_refl _) o) k2
    have q3 := fun o => kc ((Below.refl _ W).alloc (Nat.le_refl _) o) k3
    have t1 := fun o o' => kc ((Below.refl _ (W.alloc o)).alloc (Nat.le_refl _) o') (q1 o)
    have t2 := fun o o' => kc ((Below.refl _ (W.alloc o)).alloc (Nat.le_refl _) o') (q2 o)
    have t3 := fun o o' => kc ((Below.refl _ (W.alloc o)).alloc (Nat.le_refl _) o') (q3 o)
    go_region
    all_goals (go_wp2_with fail; go_meet)
    · obtain ⟨p1, p2, p3⟩ := two_p2 W a b (N : Int) (N : Int)
      exact ⟨_, _, rfl, rfl, ⟨Nat.le_refl _, by omega, by omega, HL.out.kq (Kq.below p3), by omega, by omega⟩, p1, p2, HA.out 0 W _ none HJ.out (below_grownBy p3) (fun r e => by cases e)⟩
    · obtain ⟨p1, p2, p3⟩ := two_p2 W (N : Int) (N : Int) a b
      exact ⟨_, _, rfl, rfl, ⟨by omega, Nat.le_refl _, by omega, HL.out.kq (Kq.below p3), by omega, by omega⟩, p2, p1, HA.out 0 W _ none HJ.out (below_grownBy p3) (fun r e => by cases e)⟩
  case rest =>
    obtain ⟨ga, gr, rfl, rfl, hLo, hPa, hPr, hJ⟩ := hcut
    obtain ⟨z1, z2, hne, z3, -, -⟩ := hLo
    clear HL HJ k1 k2 k3
    have HLb := Lib.hid z3
    have HPa := Lib.hid hPa
    have HPr := Lib.hid hPr
    have HJ := Lib.hid hJ
    clear z3 hPa hPr hJ
    go_wp2
    refine (wpIn_wide (n := n)).1 ?_
    rename World => W0
    gi_loopw [7] (fun s7 wr => ∃ q : Nat, q ≤ N ∧ s7 = .int .i64 (q : Int) ∧ J q wr ∧ P2 wr ga (cq a c N q) (cq b d N q) ∧ P2 wr gr (rq a c N q) (rq b d N q) ∧ Lb wr lo gn a b c d) (fun s7 _ => N + 1 - (intOf s7).toNat)
    case atStart =>
      refine ⟨0, by omega, rfl, HJ.out, ?_, ?_, HLb.out⟩
      · rw [(q_zero a c N).1, (q_zero b d N).1]; exact HPa.out
      · rw [(q_zero a c N).2, (q_zero b d N).2]; exact HPr.out
    case round =>
      obtain ⟨q, hq, rfl, hJ, hPa, hPr, hLb⟩ := hrel
      clear HJ HPa HPr HLb
      have HPa := Lib.hid hPa
      have HPr := Lib.hid hPr
      have HLb := Lib.hid hLb
      have hy := HY.out q wr (by rw [EN.out]; omega) hJ
      unfold lenc at hy
      rw [EN.out] at hy
      obtain ⟨x, ex⟩ : ∃ x, cq a c N q = x := ⟨_, rfl⟩
      obtain ⟨y, ey⟩ : ∃ y, cq b d N q = y := ⟨_, rfl⟩
      have EX := Lib.hid ex
      have EY := Lib.hid ey
      rw [ex, ey] at hy hPa HPa
      have j0 := hPa.c0
      have j1 := hPa.c1
      clear ex ey hPa hPr hLb hJ
      obtain ⟨fn1, tm1, as1, bo1, hy1, hR1⟩ := hy
      gi_wp2
      refine hR1.mono ?_
      rintro e W1 (⟨rfl, hJ1, hk1⟩ | ⟨rfl, hX1⟩)
      · have QA := Lib.hid (HPa.out.kq hk1 (by omega))
        have QR := Lib.hid (HPr.out.kq hk1 (by omega))
        have QL := Lib.hid (HLb.out.kq hk1)
        have QJ := Lib.hid hJ1
        clear hJ1 hk1 hy1 hR1 j0 j1 HPa HPr HLb
        have j0 := QA.out.c0
        have j1 := QA.out.c1
        have i0 := QL.out.ht.c0
        have i1 := QL.out.ht.c1
        by_cases hlast : q = N
        · have hcd := (cell_last (a := a) (b := b) (c := c) (d := d) (q := q) (by rw [EN.out]; omega)).2 (by rw [EN.out]; exact hlast)
          rw [EN.out, EX.out, EY.out] at hcd
          obtain ⟨e1, e2⟩ := hcd
          rw [← e1] at i0
          rw [← e2] at i1
          have HJN : Hid (J (N + 1) W1) := by rw [← hlast]; exact QJ.out
          clear e1 e2 hlast
          have hb : (x == x && y == y) = true := by simp
          gi_wp2
          go_end0
          exact ⟨⟨_, rfl⟩, .inl (by rw [EN.out]; exact HJN.out)⟩
        · have hcd : ¬ (x = c ∧ y = d) := fun h => hlast (by have := (cell_last (a := a) (b := b) (c := c) (d := d) (q := q) (by rw [EN.out]; omega)).1 (by rw [EN.out, EX.out, EY.out]; exact h); rw [EN.out] at this; exact this)
          have hb : (x == c && y == d) = false := by
            rcases Decidable.em (x = c) with h | h
            · have : ¬ y = d := fun h2 => hcd ⟨h, h2⟩
              simp [this]
            · simp [h]
          clear hcd
          have hN0 : 0 < N := by omega
          obtain ⟨L1, L2⟩ := lng_len a b c d
          rw [EN.out] at L1 L2
          obtain ⟨s1, s2⟩ := q_succ hN0 L1 q
          obtain ⟨s3, s4⟩ := q_succ hN0 L2 q
          obtain ⟨r0, r1⟩ := rq_bd a c hN0 q
          obtain ⟨r2, r3⟩ := rq_bd b d hN0 q
          obtain ⟨x0, x1⟩ := q_within L1 hq 0 63 a0 a1 c0 c1
          obtain ⟨y0, y1⟩ := q_within L2 hq 0 63 b0 b1 d0 d1
          rw [EX.out] at s1 x0 x1
          rw [EY.out] at s3 y0 y1
          obtain ⟨r, er⟩ : ∃ r, rq a c N q = r := ⟨_, rfl⟩
          obtain ⟨s, es⟩ : ∃ s, rq b d N q = s := ⟨_, rfl⟩
          rw [er] at r0 r1 s1 s2
          rw [es] at r2 r3 s3 s4
          rw [er, es] at QR
          have C1 := Lib.hid (fun u => carry_any x (r + 2 * (c - a)) (2 * N) u (by omega) (by omega) (by omega) (by omega) (by omega) (by omega))
          have C2 := Lib.hid (fun u => carry_any y (s + 2 * (d - b)) (2 * N) u (by omega) (by omega) (by omega) (by omega) (by omega) (by omega))
          rw [← s1, ← s2] at C1
          rw [← s3, ← s4] at C2
          have HS := Lib.hid (St5.mk (J := J) (q := q + 1) QJ.out QA.out QR.out QL.out)
          obtain ⟨x', ex'⟩ : ∃ x', cq a c N (q + 1) = x' := ⟨_, rfl⟩
          obtain ⟨y', ey'⟩ : ∃ y', cq b d N (q + 1) = y' := ⟨_, rfl⟩
          obtain ⟨r', er'⟩ : ∃ r', rq a c N (q + 1) = r' := ⟨_, rfl⟩
          obtain ⟨s', es'⟩ : ∃ s', rq b d N (q + 1) = s' := ⟨_, rfl⟩
          rw [ex', er'] at C1
          rw [ey', es'] at C2
          have EX' := Lib.hid ex'
          have EY' := Lib.hid ey'
          have ER' := Lib.hid er'
          have ES' := Lib.hid es'
          clear s1 s2 s3 s4 ex' ey' er' es' er es L1 L2 QJ QA QR QL EX EY
          gi_wp2
          clear hb j0 j1 i0 i1
          gi_loopw [24] (fun s24 wr2 => (s24 = .int .i64 0 ∧ St5 J wr2 (q + 1) lo gn ga gr a b c d x y r s) ∨ (s24 = .int .i64 1 ∧ St5 J wr2 (q + 1) lo gn ga gr a b c d x' y r' s) ∨ (s24 = .int .i64 2 ∧ St5 J wr2 (q + 1) lo gn ga gr a b c d x' y' r' s')) (fun s24 _ => 2 - (intOf s24).toNat)
          case atStart => exact .inl ⟨rfl, HS.out⟩
          case round =>
            clear HS
            rcases hrel with ⟨rfl, h5⟩ | ⟨rfl, h5⟩ | ⟨rfl, h5⟩
            · have j0 := h5.pa.c0
              have j1 := h5.pr.c0
              have i0 := h5.lb.hf.c0
              have i1 := h5.lb.ht.c0
              have i2 := h5.lb.hn.cell
              have f0 := h5.pa.f 0
              have f1 := h5.pr.f 0
              rw [EN.out] at i2
              have P5 := Lib.hid (h5.put0 HA.out z1 z2 hne (by omega) (by omega) x' r')
              clear h5
              gi_wp2
              refine wpIn_wide.2 ?_
              refine wp_region_any (by kernel_rfl) ?_
              change wpAny _ _ _ _ _ _ _ (World.drew _)
              refine wpAny_take (i := 0) (v := .int .i64 0) rfl (by kernel_rfl) (by kernel_rfl) (by kernel_rfl) (fun _ _ _ h => h) (Or.inl ⟨by rfl, fun w => by go_simp⟩) ?_
              go_simp
              refine wpAny_take (i := 1) (v := .int .i64 0) rfl (by kernel_rfl) (by kernel_rfl) (by kernel_rfl) (fun _ _ _ h => h) (Or.inl ⟨by rfl, fun w => by go_simp⟩) ?_
              go_simp
              have y0 : wr.drew.cell? ⟨ga, 0, none⟩ = some (.int .i64 x) := j0
              have y1 : wr.drew.cell? ⟨gr, 0, none⟩ = some (.int .i64 r) := j1
              have y2 : wr.drew.cell? ⟨lo, 0, none⟩ = some (.int .i64 a) := i0
              have y3 : wr.drew.cell? ⟨lo + 1, 0, none⟩ = some (.int .i64 c) := i1
              have y4 : wr.drew.cell? ⟨gn, 0, none⟩ = some (.int .i64 (N : Int)) := i2
              have g0 : wr.drew.frozen? ⟨ga, 0, none⟩ = false := f0
              have g1 : wr.drew.frozen? ⟨gr, 0, none⟩ = false := f1
              clear j0 j1 i0 i1 i2 f0 f1
              generalize wr.drew = Y at *
              refine wpAny_headL 2 19 6 #[true, true, true, true, true, true, true, true, true, true, true, true, true, true, true, true, true, true, true, true, true, false, false, false, false, false, false] (by kernel_rfl) (by kernel_rfl) (by kernel_rfl) (by kernel_rfl) ?_
              simp only [List.take_succ_cons, List.take_zero, List.drop_succ_cons, List.drop_zero]
              repeat still_step
              rw [IntWalk.i64_in (c - a) (by omega), IntWalk.i64_in (2 * (c - a)) (by omega), IntWalk.i64_in (r + 2 * (c - a)) (by omega), IntWalk.i64_in (2 * (N : Int)) (by omega)]
              still_call (calls_still (C1.out Y))
              repeat still_step
              refine wpStill_nil ?_
              refine wpAny_take (i := 21) (v := .int .i64 x') rfl (by kernel_rfl) (by kernel_rfl) (by kernel_rfl) (fun _ _ _ h => h) (Or.inl ⟨by rfl, fun w => by go_simp⟩) ?_
              go_simp
              refine wpAny_take (i := 22) (v := .int .i64 r') rfl (by kernel_rfl) (by kernel_rfl) (by kernel_rfl) (fun _ _ _ h => h) (Or.inl ⟨by rfl, fun w => by go_simp⟩) ?_
              go_simp
              refine wpAny_take (i := 23) (v := .pointer (some ⟨ga, 0, none⟩)) rfl (by kernel_rfl) (by kernel_rfl) (by kernel_rfl) (fun _ _ _ h => h) (Or.inl ⟨by rfl, fun w => by go_simp⟩) ?_
              go_simp
              refine wpAny_ready (rs := [24]) (by kernel_rfl) (by simp) ?_
              refine AllReady.cons rfl (fun K hK => ?_) AllReady.nil
              go_simp
              refine hK _ _ ?_
              clear hK K
              have y5 := cell_far (v := .int .i64 x') (c := ga) (j := 0) y1 (.inl hne)
              go_simp
              refine wpAny_take (i := 25) (v := .pointer (some ⟨gr, 0, none⟩)) rfl (by kernel_rfl) (by kernel_rfl) (by kernel_rfl) (fun _ _ _ h => h) (Or.inl ⟨by rfl, fun w => by go_simp⟩) ?_
              go_simp
              refine wpAny_ready (rs := [26]) (by kernel_rfl) (by simp) ?_
              refine AllReady.cons rfl (fun K hK => ?_) AllReady.nil
              go_simp
              refine hK _ _ ?_
              clear hK K
              refine wpAny_done (by kernel_rfl) ?_ _
              gi_wp2
              go_roundw
              case rel => exact (.inr (.inl ⟨rfl, P5.out⟩))
              case measure => simp [intOf]
            · have j0 := h5.pa.c1
              have j1 := h5.pr.c1
              have i0 := h5.lb.hf.c1
              have i1 := h5.lb.ht.c1
              have i2 := h5.lb.hn.cell
              have f0 := h5.pa.f 1
              have f1 := h5.pr.f 1
              rw [EN.out] at i2
              have P5 := Lib.hid (h5.put1 HA.out z1 z2 hne (by omega) (by omega) y' s')
              clear h5
              gi_wp2
              refine wpIn_wide.2 ?_
              refine wp_region_any (by kernel_rfl) ?_
              change wpAny _ _ _ _ _ _ _ (World.drew _)
              refine wpAny_take (i := 0) (v := .int .i64 1) rfl (by kernel_rfl) (by kernel_rfl) (by kernel_rfl) (fun _ _ _ h => h) (Or.inl ⟨by rfl, fun w => by go_simp⟩) ?_
              go_simp
              refine wpAny_take (i := 1) (v := .int .i64 1) rfl (by kernel_rfl) (by kernel_rfl) (by kernel_rfl) (fun _ _ _ h => h) (Or.inl ⟨by rfl, fun w => by go_simp⟩) ?_
              go_simp
              have y0 : wr.drew.cell? ⟨ga, 1, none⟩ = some (.int .i64 y) := j0
              have y1 : wr.drew.cell? ⟨gr, 1, none⟩ = some (.int .i64 s) := j1
              have y2 : wr.drew.cell? ⟨lo, 1, none⟩ = some (.int .i64 b) := i0
              have y3 : wr.drew.cell? ⟨lo + 1, 1, none⟩ = some (.int .i64 d) := i1
              have y4 : wr.drew.cell? ⟨gn, 0, none⟩ = some (.int .i64 (N : Int)) := i2
              have g0 : wr.drew.frozen? ⟨ga, 1, none⟩ = false := f0
              have g1 : wr.drew.frozen? ⟨gr, 1, none⟩ = false := f1
              clear j0 j1 i0 i1 i2 f0 f1
              generalize wr.drew = Y at *
              refine wpAny_headL 2 19 6 #[true, true, true, true, true, true, true, true, true, true, true, true, true, true, true, true, true, true, true, true, true, false, false, false, false, false, false] (by kernel_rfl) (by kernel_rfl) (by kernel_rfl) (by kernel_rfl) ?_
              simp only [List.take_succ_cons, List.take_zero, List.drop_succ_cons, List.drop_zero]
              repeat still_step
              rw [IntWalk.i64_in (d - b) (by omega), IntWalk.i64_in (2 * (d - b)) (by omega), IntWalk.i64_in (s + 2 * (d - b)) (by omega), IntWalk.i64_in (2 * (N : Int)) (by omega)]
              still_call (calls_still (C2.out Y))
              repeat still_step
              refine wpStill_nil ?_
              refine wpAny_take (i := 21) (v := .int .i64 y') rfl (by kernel_rfl) (by kernel_rfl) (by kernel_rfl) (fun _ _ _ h => h) (Or.inl ⟨by rfl, fun w => by go_simp⟩) ?_
              go_simp
              refine wpAny_take (i := 22) (v := .int .i64 s') rfl (by kernel_rfl) (by kernel_rfl) (by kernel_rfl) (fun _ _ _ h => h) (Or.inl ⟨by rfl, fun w => by go_simp⟩) ?_
              go_simp
              refine wpAny_take (i := 23) (v := .pointer (some ⟨ga, 1, none⟩)) rfl (by kernel_rfl) (by kernel_rfl) (by kernel_rfl) (fun _ _ _ h => h) (Or.inl ⟨by rfl, fun w => by go_simp⟩) ?_
              go_simp
              refine wpAny_ready (rs := [24]) (by kernel_rfl) (by simp) ?_
              refine AllReady.cons rfl (fun K hK => ?_) AllReady.nil
              go_simp
              refine hK _ _ ?_
              clear hK K
              have y5 := cell_far (v := .int .i64 y') (c := ga) (j := 1) y1 (.inl hne)
              go_simp
              refine wpAny_take (i := 25) (v := .pointer (some ⟨gr, 1, none⟩)) rfl (by kernel_rfl) (by kernel_rfl) (by kernel_rfl) (fun _ _ _ h => h) (Or.inl ⟨by rfl, fun w => by go_simp⟩) ?_
              go_simp
              refine wpAny_ready (rs := [26]) (by kernel_rfl) (by simp) ?_
              refine AllReady.cons rfl (fun K hK => ?_) AllReady.nil
              go_simp
              refine hK _ _ ?_
              clear hK K
              refine wpAny_done (by kernel_rfl) ?_ _
              gi_wp2
              go_roundw
              case rel => exact (.inr (.inr ⟨rfl, P5.out⟩))
              case measure => simp [intOf]
            · have H5 := Lib.hid h5
              clear h5
              gi_wp2
              go_roundw
              case rel =>
                refine ⟨q + 1, by omega, by go_num, H5.out.j, ?_, ?_, H5.out.lb⟩
                · rw [EX'.out, EY'.out]; exact H5.out.pa
                · rw [ER'.out, ES'.out]; exact H5.out.pr
              case measure => simp [intOf]; omega
      · gi_wp2
        go_end0
        exact ⟨⟨_, rfl⟩, .inr ⟨q, by rw [EN.out]; omega, hX1⟩⟩

end Go.Proofs.Ytljedkceicahaaa
