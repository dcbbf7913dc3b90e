/- Contracts of package ray, fifth part: Line. -/
import Derived.Test.YtljedkceicahaaaRy3
import Derived.Test.YtljedkceicahaaaRy5
namespace Go.Proofs.Ytljedkceicahaaa
open Go.RowKit Go.Shelf
set_option linter.unusedVariables false
attribute [local go_sem] Oper.semAt_some eq_two

theorem four_cells {u : World} {g : Nat} {i j k l : Int} (h : u.heap[g]? = some (.cells #[.int .i64 i, .int .i64 j, .int .i64 k, .int .i64 l] 3 (0, 0))) :
    ∀ x, x < 4 → u.cell? ⟨g, x, none⟩ = some (.int .i64 (four i j k l x)) := by
  intro x hx
  rw [cell_of_row u g x _ 3 (0, 0) h]
  match x, hx with
  | 0, _ => rfl
  | 1, _ => rfl
  | 2, _ => rfl
  | 3, _ => rfl
/-- The four are cells of the greatest map. -/
def In4 (i j k l : Int) : Prop := 0 ≤ i ∧ i ≤ 63 ∧ 0 ≤ j ∧ j ≤ 63 ∧ 0 ≤ k ∧ k ≤ 63 ∧ 0 ≤ l ∧ l ≤ 63
theorem in4_upto {i j k l : Int} : Upto 63 (four i j k l) 4 ↔ In4 i j k l := by
  constructor
  · intro h
    have h0 := h 0 (by decide)
    have h1 := h 1 (by decide)
    have h2 := h 2 (by decide)
    have h3 := h 3 (by decide)
    simp only [four] at h0 h1 h2 h3
    unfold In4; omega
  · intro h x hx
    unfold In4 at h
    match x, hx with
    | 0, _ => simp only [four]; omega
    | 1, _ => simp only [four]; omega
    | 2, _ => simp only [four]; omega
    | 3, _ => simp only [four]; omega

set_option maxHeartbeats 400000 in
theorem Line_out (i j k l : Int) (w : World) (h : ¬ In4 i j k l) :
    Calls Try.prog 9 #[.int .i64 i, .int .i64 j, .int .i64 k, .int .i64 l] w (Ret (.tuple #[.slice none 0 0, .int .i64 4]) w) := by
  have U := Lib.hid (fun u hc => upTo_no 63 (four i j k l) w.heap.size 4 4 u (by decide) hc (fun g => h (in4_upto.1 g)))
  clear h
  go_enter Try.func9, Try.ntmps9
  go_wp2_with fail
  refine (U.out _ (four_cells (World.alloc_heap_new w _))).mono ?_
  rintro e w1 ⟨rfl, rfl⟩
  go_wp2
  go_ret2
  exact Ret.mk rfl ((Below.refl _ _).alloc (Nat.le_refl _) _)

/-- The first k cells of a line, number by number. -/
def cvs (a b c d : Int) : Nat → List Value
  | 0 => []
  | k + 1 => cvs a b c d k ++ [.int .i64 (cq a c (lng a b c d) k), .int .i64 (cq b d (lng a b c d) k)]
theorem cvs_len (a b c d : Int) : ∀ k, (cvs a b c d k).length = k * 2
  | 0 => rfl
  | k + 1 => by rw [cvs, List.length_append, cvs_len a b c d k]; simp; omega
theorem cvs_at (a b c d : Int) : ∀ (k i : Nat), i < k → (cvs a b c d k)[i * 2]? = some (.int .i64 (cq a c (lng a b c d) i)) ∧ (cvs a b c d k)[i * 2 + 1]? = some (.int .i64 (cq b d (lng a b c d) i))
  | 0, i, h => absurd h (by omega)
  | k + 1, i, h => by
    rw [cvs]
    rcases Nat.lt_or_ge i k with hl | hl
    · have := cvs_at a b c d k i hl
      rw [List.getElem?_append_left (by rw [cvs_len]; omega), List.getElem?_append_left (by rw [cvs_len]; omega)]
      exact this
    · have e : i = k := by omega
      subst e
      rw [List.getElem?_append_right (by rw [cvs_len]; omega), List.getElem?_append_right (by rw [cvs_len]; omega), cvs_len]
      simp
theorem Try.infoA : (Try.prog.info? 36).map (fun i => (i.zero, i.size, i.bytes)) = some (some (.agg #[.int .i64 0, .int .i64 0]), 2, 16) := by kernel_rfl

/-- A line comes back. -/
def RetLn (a b c d : Int) (w : World) (e : Ending) (w' : World) : Prop :=
  ∃ g K, e = .returned (.tuple #[.slice (some ⟨g, 0, none⟩) (lng a b c d + 1) K, .int .i64 0]) ∧ lng a b c d + 1 ≤ K ∧ K ≤ maxLen ∧
    (∀ i, i ≤ lng a b c d → w'.cell? ⟨g, i * 2, none⟩ = some (.int .i64 (cq a c (lng a b c d) i)) ∧ w'.cell? ⟨g, i * 2 + 1, none⟩ = some (.int .i64 (cq b d (lng a b c d) i))) ∧ Below w.heap.size w w'

theorem two_new (W : World) (x y : Int) : ∀ (j : Nat) (u : Value), [Value.int .i64 x, .int .i64 y][j]? = some u → (W.alloc (.cells #[.int .i64 x, .int .i64 y] 36)).cell? (Addr.add ⟨W.heap.size, 0, none⟩ j) = some u := by
  intro j u hj
  match j, hj with
  | 0, hj => simp at hj; subst hj; simp [Addr.add]
  | 1, hj => simp at hj; subst hj; simp [Addr.add]
theorem two_one (x y : Int) : ∀ u ∈ [Value.int .i64 x, .int .i64 y], u.oneCell' = true := by
  intro u hu
  simp at hu
  rcases hu with rfl | rfl <;> rfl

set_option maxRecDepth 100000 in
set_option maxHeartbeats 4000000 in
theorem Line_in (a b c d : Int) (w : World) (h : In4 a b c d) :
    Calls Try.prog 9 #[.int .i64 a, .int .i64 b, .int .i64 c, .int .i64 d] w (RetLn a b c d w) := by
  have U := Lib.hid (fun u hc => upTo_yes 63 (four a b c d) w.heap.size 4 4 u (by decide) hc (in4_upto.2 h))
  obtain ⟨a0, a1, b0, b1, c0, c1, d0, d1⟩ := h
  have C := Lib.hid (fun u => steps_any a b c d u a0 a1 b0 b1 c0 c1 d0 d1)
  have Ln := Lib.hid (fun u => line_any a b c d u a0 a1 b0 b1 c0 c1 d0 d1)
  have hN := lng_bd a0 a1 b0 b1 c0 c1 d0 d1
  obtain ⟨i0, hi, hz0, hz1, hz2⟩ := info_parts Try.infoA
  obtain ⟨N, eN⟩ : ∃ N, lng a b c d = N := ⟨_, rfl⟩
  rw [eN] at C hN
  have EN := Lib.hid eN
  clear eN
  have hn3 : 1 ≤ 3 := by decide
  refine (callsIn_wide (n := 3)).1 ?_
  refine callsIn_of_wp_marks Try.func9 rfl trivial ?_ rfl
  simp only [Try.ntmps9, List.size_toArray, List.length_cons, List.length_nil, Nat.reduceAdd, Nat.reduceSub, Array.replicate_succ, Array.replicate_zero, List.push_toArray, List.append_toArray, List.nil_append, List.cons_append]
  gi_wp2_with fail
  refine ⟨trivial, ?_⟩
  refine (callsIn_wide.2 (U.out _ (four_cells (World.alloc_heap_new w _)))).mono ?_
  rintro e w1 ⟨rfl, rfl⟩
  obtain ⟨V0, hV0⟩ : ∃ V0, w.alloc (.cells #[.int .i64 a, .int .i64 b, .int .i64 c, .int .i64 d] 3) = V0 := ⟨_, rfl⟩
  have s0 : V0.heap.size = w.heap.size + 1 := by rw [← hV0]; simp
  have e0 : Below w.heap.size w V0 := by rw [← hV0]; exact (Below.refl _ _).alloc (Nat.le_refl _) _
  obtain ⟨V1, hV1⟩ : ∃ V1, V0.alloc (.cells #[.int .i64 a, .int .i64 b] 36) = V1 := ⟨_, rfl⟩
  have s1 : V1.heap.size = w.heap.size + 1 + 1 := by rw [← hV1]; simp; omega
  have e1 : Below V0.heap.size V0 V1 := by rw [← hV1]; exact (Below.refl _ _).alloc (Nat.le_refl _) _
  have p1 : P2 V1 (w.heap.size + 1) a b := by rw [← hV1, ← s0]; exact P2.new V0 a b
  obtain ⟨V2, hV2⟩ : ∃ V2, V1.alloc (.cells #[.int .i64 c, .int .i64 d] 36) = V2 := ⟨_, rfl⟩
  have e2 : Below V1.heap.size V1 V2 := by rw [← hV2]; exact (Below.refl _ _).alloc (Nat.le_refl _) _
  have p2 : P2 V2 (w.heap.size + 1 + 1) c d := by rw [← hV2, ← s1]; exact P2.new V1 c d
  have P1 := Lib.hid (p1.keep e2)
  have P3 := Lib.hid p2
  have HB : Hid (Below w.heap.size w V2) := (e0.trans (e1.mono e0.size)).trans (e2.mono (by rw [s1]; omega))
  have HV0 := Lib.hid hV0
  have HV1 := Lib.hid hV1
  have HV2 := Lib.hid hV2
  clear p1 p2 e0 e1 e2 s0 s1 U hV0 hV1 hV2
  gi_wp2_with fail
  rw [HV0.out, HV1.out, HV2.out]
  clear HV0 HV1 HV2
  refine ⟨trivial, ?_⟩
  refine (callsIn_wide.2 (C.out V2)).mono ?_
  rintro e w2 ⟨rfl, b2⟩
  have P1' := Lib.hid (P1.out.keep b2)
  have P3' := Lib.hid (P3.out.keep b2)
  have HB2 := Lib.hid (HB.out.trans (b2.mono HB.out.size))
  clear b2 P1 P3 HB C
  have eB : i0.bytes * (N + 1) ≤ 281474976710656 := by rw [hz2]; omega
  gi_wp2_with (gi_at_make; refine wpListIn_make_own _ rfl _ _ 27 rfl w2.heap.size 36 i0 (.agg #[.int .i64 0, .int .i64 0]) 2 Try.underlying27 hi hz0 hz1 .i64 .i64 _ (N + 1) rfl rfl (by simp) eB (by unfold maxLen; omega) (Nat.le_refl _) ?_; intro w3 hown hg; have HO := Lib.hid hown; have P1q := Lib.hid (P1'.out.keep ((Below.refl _ _).grown hg (Nat.le_refl _) (by simp))); have P3q := Lib.hid (P3'.out.keep ((Below.refl _ _).grown hg (Nat.le_refl _) (by simp))); have HB3 := Lib.hid (HB2.out.trans (((Below.refl _ _).grown hg (Nat.le_refl _) (by simp)).mono HB2.out.size)); clear hown hg; obtain ⟨W4, hW4⟩ : ∃ W4, w3.alloc (.cells #[.slice (some ⟨w2.heap.size, 0, none⟩) 0 (N + 1)] 27) = W4 := ⟨_, rfl⟩; have b4 : Below w3.heap.size w3 W4 := (by rw [← hW4]; exact (Below.refl _ _).alloc (Nat.le_refl _) _); have q0 := (P1q.out.keep b4).c0; have q1 := (P1q.out.keep b4).c1; have q2 := (P3q.out.keep b4).c0; have q3 := (P3q.out.keep b4).c1; have BX : Hid (Boxed W4 w3.heap.size 27 (.slice (some ⟨w2.heap.size, 0, none⟩) 0 (N + 1))) := (by rw [← hW4]; exact Boxed.new w3 _ _); have HO4 : Hid (W4.ownsRow w2.heap.size 36 2 (.slice (some ⟨w2.heap.size, 0, none⟩) 0 (N + 1)) 0 []) := (by rw [← hW4]; exact HO.out.alloc _); have HB4 := Lib.hid (HB3.out.trans (b4.mono HB3.out.size)); clear b4)
  refine ⟨trivial, ?_⟩
  refine (callsIn_wide.2 (Ln.out W4)).mono ?_
  rintro e w5 ⟨gn, rfl, hLb, b5⟩
  have HLb := Lib.hid hLb
  have hg2 : w2.heap.size < W4.heap.size := (own_row HO4.out).2.1
  have hg3 : w3.heap.size < W4.heap.size := BX.out.lt
  have hne : w2.heap.size ≠ w3.heap.size := fun e => BX.out.not_row (by decide) HO4.out (by rw [← e]; rfl)
  have I0 : Hid (w5.ownsRow w2.heap.size 36 2 (.slice (some ⟨w2.heap.size, 0, none⟩) 0 (N + 1)) 0 (cvs a b c d 0) ∧ Boxed w5 w3.heap.size 27 (.slice (some ⟨w2.heap.size, 0, none⟩) 0 (N + 1)) ∧ Below w.heap.size w w5) :=
    ⟨HO4.out.kept (below_grownBy (row := none) b5) (.inr (fun e => by simp [Value.ownBlock] at e)), box_keepB BX.out b5 BX.out.lt, HB4.out.trans (b5.mono HB4.out.size)⟩
  have hs5 := b5.size
  have hw2 := HB2.out.size
  have hw3 := HB3.out.size
  clear hLb b5 q0 q1 q2 q3 BX HO4 HB4 HO P1q P3q HB3 HB2 P1' P3' hW4
  gi_wp2
  refine range8 rfl hn3 (gf := 35) (lb := #[.pointer (some ⟨W4.heap.size, 0, none⟩), .pointer (some ⟨gn, 0, none⟩), .pointer (some ⟨W4.heap.size + 1, 0, none⟩)]) rfl trivial (enters_of Try.func35 (by kernel_rfl) rfl)
    (line_seq (3 - 1) W4.heap.size gn a b c d w5 (by decide) a0 a1 b0 b1 c0 c1 d0 d1 HLb.out) (Below.refl _ _) (fun _ => rfl)
    (fun q W => W.ownsRow w2.heap.size 36 2 (.slice (some ⟨w2.heap.size, 0, none⟩) q (N + 1)) q (cvs a b c d q) ∧ Boxed W w3.heap.size 27 (.slice (some ⟨w2.heap.size, 0, none⟩) q (N + 1)) ∧ Below w.heap.size w W) (fun _ _ => False) ?own (fun _ _ _ _ h _ _ => h) I0.out
    (fun q a' W => ∃ g14, P2 W g14 (cq a c (lng a b c d) q) (cq b d (lng a b c d) q) ∧ a' = { tmps := #[(.int .i64 a), (.int .i64 b), (.int .i64 c), (.int .i64 d), undef, undef, undef, undef, (.slice none 0 0), (.int .i64 0), (.pointer (some ⟨w.heap.size + 1, 0, none⟩)), (.pointer (some ⟨w.heap.size + 1 + 1, 0, none⟩)), (.pointer (some ⟨w3.heap.size, 0, none⟩)), undef, (.pointer (some ⟨g14, 0, none⟩)), (.int .i64 a), (.int .i64 b), (.int .i64 c), (.int .i64 d), (.slice (some ⟨w.heap.size, 0, none⟩) 4 4), (.bool true), (.bool false), (.int .i64 a), (.int .i64 b), (.agg #[.int .i64 a, .int .i64 b]), (.int .i64 c), (.int .i64 d), (.agg #[.int .i64 c, .int .i64 d]), (.agg #[.int .i64 a, .int .i64 b]), (.agg #[.int .i64 c, .int .i64 d]), (.int .i64 (N : Int)), (.int .i64 ((N : Int) + 1)), (.slice (some ⟨w2.heap.size, 0, none⟩) 0 (N + 1)), (.agg #[.int .i64 a, .int .i64 b]), (.agg #[.int .i64 c, .int .i64 d]), (.func (.func 35) #[] #[.pointer (some ⟨W4.heap.size, 0, none⟩), .pointer (some ⟨gn, 0, none⟩), .pointer (some ⟨W4.heap.size + 1, 0, none⟩)]), (.int .i64 (q : Int)), (.agg #[.int .i64 (cq a c (lng a b c d) q), .int .i64 (cq b d (lng a b c d) q)]), undef, undef, undef, undef, undef], defers := [] }) ?ax ?assign ?body ?done ?stop
  case own =>
    rintro q A B row ⟨h1, h2, h3⟩ hg hr
    have hw5 := I0.out.2.2.size
    refine ⟨h1.kept hg (.inr (fun e => ?_)), h2.kept hg (fun e => ?_), h3.trans (((Below.refl _ _).grown hg h3.size (fun r e => ?_)))⟩
    · have := hr w2.heap.size (by rw [← e]; rfl); omega
    · have := hr _ e.symm; omega
    · have := hr r e; omega
  case ax =>
    rintro q a' - A B row ⟨g14, hp, e⟩ hg hr
    exact ⟨g14, hp.block (hg.block g14 hp.lt (fun e' => by obtain ⟨_, o, ho, hc⟩ := hr g14 e'.symm; rw [show A.heap[g14]? = _ from hp] at ho; cases ho; cases hc)), e⟩
  case assign =>
    rintro l q W K hq ⟨h1, h2, h3⟩ hK
    have H1 := Lib.hid h1
    have H2 := Lib.hid h2
    have H3 := Lib.hid h3
    have HK := Lib.hid hK
    clear h1 h2 h3 hK
    unfold lenc
    gi_wp2
    exact HK.out _ _ ((KeepsOthers.alloc W _).from _) (Kq.below ((Below.refl _ _).alloc (Nat.le_refl _) _)) ⟨H1.out.alloc _, H2.out.alloc _, H3.out.alloc H3.out.size _⟩ ⟨W.heap.size, P2.new W _ _, rfl⟩
  case body =>
    rintro l q a' W hq ⟨h1, h2, h3⟩ ⟨g14, hp, rfl⟩
    have H1 := Lib.hid h1
    have H2 := Lib.hid h2
    have H3 := Lib.hid h3
    have t0 := h2.cell
    have p0 := hp.c0
    have p1 := hp.c1
    have hq2 : q + 1 ≤ N + 1 := by have := EN.out; omega
    clear h1 h2 h3 hp
    have EC : Hid (cvs a b c d (q + 1) = cvs a b c d q ++ [.int .i64 (cq a c (lng a b c d) q), .int .i64 (cq b d (lng a b c d) q)]) := rfl
    obtain ⟨x, ex⟩ : ∃ x, cq a c (lng a b c d) q = x := ⟨_, rfl⟩
    obtain ⟨y, ey⟩ : ∃ y, cq b d (lng a b c d) q = y := ⟨_, rfl⟩
    rw [ex, ey] at EC
    rw [ex] at p0 ⊢
    rw [ey] at p1 ⊢
    clear ex ey
    gi_wp2_with (gi_at_builtin; refine wpListIn_append_fits _ rfl (.tmp 38) (.tmp 40) 27 rfl w2.heap.size 36 i0 2 Try.underlying27 hi hz1 w2.heap.size q (N + 1) (cvs a b c d q) rfl (H1.out.alloc _) ⟨W.heap.size, 0, none⟩ 1 1 [.int .i64 x, .int .i64 y] rfl rfl (two_new W x y) (two_one x y) hq2 ?_; intro W6 hown6 hg6; have T6 := Lib.hid hown6; have T7 := Lib.hid hg6; have T9 := Lib.hid ((H2.out.alloc (.cells #[.int .i64 x, .int .i64 y] 36)).kept hg6 (fun e => hne (by injection e with e; exact e.symm))); clear hown6 hg6; have t8 := T9.out.cell; have t9 := T9.out.frozen)
    refine ⟨((KeepsOthers.alloc W _).trans ((KeepsOthers.of_grownBy T7.out (fun j o ej hj => ?_)).trans (KeepsOthers.setCell _ _ _))).from _, (Kq.below ((Below.refl _ W).alloc (Nat.le_refl _) _)).trans ((Kq.turn T7.out (fun r e => by cases e; exact hg2)).trans (Kq.turn (grownBy_set W6 w3.heap.size 0 _) (fun r e => by cases e; exact hg3))), ?_, T9.out.set _, ?_⟩
    · injection ej with ej
      subst ej
      obtain ⟨_, _, cur, hcu, _⟩ := own_row (H1.out.alloc (.cells #[.int .i64 x, .int .i64 y] 36))
      rw [hcu] at hj; cases hj; rfl
    · rw [EC.out]
      exact T6.out.kept (grownBy_set W6 w3.heap.size 0 _) (.inr (fun e => hne (by simpa [Value.ownBlock] using e)))
    · have hb := H3.out.alloc H3.out.size (.cells #[.int .i64 x, .int .i64 y] 36)
      have hb2 := hb.trans ((Below.refl _ _).grown T7.out hb.size (fun r e => by cases e; exact hw2))
      exact hb2.setCell (p := ⟨w3.heap.size, 0, none⟩) hw3 _
  case done =>
    rintro D W hD ⟨h1, h2, h3⟩ hK
    have H1 := Lib.hid h1
    have H3 := Lib.hid h3
    have HK := Lib.hid hK
    have t0 := h2.cell
    clear h1 h2 h3 hK
    gi_wp2
    refine ⟨by simp, .inl ⟨D, _, rfl, run_takeDeferred HK.out, ?_⟩⟩
    refine ⟨_, results_tmp2 rfl _ _ _, ?_⟩
    have hgP := grownBy_putObj' W D (.deferred none)
    refine ⟨w2.heap.size, N + 1, rfl, by rw [EN.out]; exact Nat.le_refl _, by unfold maxLen; omega, fun i hi => ?_, ?_⟩
    · have hlt := cvs_at a b c d (lng a b c d + 1) i (by omega)
      have c1 := World.ownsRow.cellAt H1.out (i * 2) (by omega)
      have c2 := World.ownsRow.cellAt H1.out (i * 2 + 1) (by omega)
      rw [hlt.1] at c1
      rw [hlt.2] at c2
      exact ⟨hgP.cell c1 (by simp; omega), hgP.cell c2 (by simp; omega)⟩
    · have hw5 := I0.out.2.2.size
      exact H3.out.trans ((Below.refl _ _).grown hgP H3.out.size (fun r e => by cases e; omega))
  case stop =>
    rintro D q W _ _ h _
    exact h.elim

end Go.Proofs.Ytljedkceicahaaa
