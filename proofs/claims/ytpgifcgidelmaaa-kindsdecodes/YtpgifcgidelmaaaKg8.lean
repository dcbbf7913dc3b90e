/- Contracts of package kinds: Decode. -/
import Derived.Test.YtpgifcgidelmaaaKg7
namespace Go.Proofs.Ytpgifcgidelmaaa
open Go.RowKit
set_option linter.unusedVariables false

theorem Dec.zero {p : Nat → Nat} {N : Nat} {a : Int} (h : Dec p N 0 a) : a = 0 := by
  generalize he : (0 : Int) = e at h
  cases h with
  | short => omega
  | few => omega
  | many => omega
  | kind i h1 h2 h3 h4 h5 => exact absurd he.symm h5
  | under => omega
  | speed i h1 h2 h3 h4 h5 h6 h7 => exact absurd he.symm h7
  | check e a h1 h2 h3 h4 h5 =>
    cases h5 with
    | count => omega
    | kind => omega
    | weapon => omega
    | fine => rfl
theorem Kn.far {W W' : World} {A : Option Addr} {n b : Nat} {K : Nat → Nat → Int} {cs : Array Value} {t : TypeId} (h : Kn W A n K) (hb : W.heap[b]? = some (.cells cs t (0, 0))) (hs : cs.size < 6) (hg : W.grownBy W' (some b)) : Kn W' A n K := by
  intro hn
  obtain ⟨g, o, e, hl, hc⟩ := h hn
  have hne : g ≠ b := by
    intro q
    subst q
    have := hc 0 hn 19 (by omega)
    rw [cell_of_row W g _ _ _ (0, 0) hb, Array.getElem?_eq_none (by omega)] at this
    cases this
  exact ⟨g, o, e, Nat.lt_of_lt_of_le hl hg.size, fun i hi j hj => (World.cell?_of_block (w := W) (hg.block g hl (by simpa using hne))).trans (hc i hi j hj)⟩
theorem Wn.far {W W' : World} {A : Option Addr} {n b : Nat} {U : Nat → Nat → Int} {F : Nat → Bool} {cs : Array Value} {t : TypeId} (h : Wn W A n U F) (hb : W.heap[b]? = some (.cells cs t (0, 0))) (hs : cs.size < 6) (hg : W.grownBy W' (some b)) : Wn W' A n U F := by
  intro hn
  obtain ⟨g, o, e, hl, hc⟩ := h hn
  have hne : g ≠ b := by
    intro q
    subst q
    have := (hc 0 hn).2
    rw [cell_of_row W g _ _ _ (0, 0) hb, Array.getElem?_eq_none (by omega)] at this
    cases this
  exact ⟨g, o, e, Nat.lt_of_lt_of_le hl hg.size, fun i hi => ⟨fun j hj => (World.cell?_of_block (w := W) (hg.block g hl (by simpa using hne))).trans ((hc i hi).1 j hj), (World.cell?_of_block (w := W) (hg.block g hl (by simpa using hne))).trans (hc i hi).2⟩⟩

/-- What Decode ends with. -/
def DecRet (p : Nat → Nat) (N : Nat) (w : World) (en : Ending) (w' : World) : Prop :=
  ∃ e a, Dec p N e a ∧ Below w.heap.size w w' ∧ ((e ≠ 0 ∧ en = .returned (.tuple #[.agg #[.slice none 0 0, .slice none 0 0], .int .i64 e, .int .i64 a])) ∨
    (e = 0 ∧ ∃ A1 c1 A2 c2, en = .returned (.tuple #[.agg #[.slice A1 (p 0) c1, .slice A2 (p 1) c2], .int .i64 0, .int .i64 0]) ∧ p 0 ≤ c1 ∧ c1 ≤ maxLen ∧ p 1 ≤ c2 ∧ c2 ≤ maxLen ∧ Kn w' A1 (p 0) (dK p) ∧ Wn w' A2 (p 1) (dU p) (dF p)))

theorem cell_set {w : World} {b i : Nat} {u v : Value} (h : w.cell? ⟨b, i, none⟩ = some u) : (w.setCell ⟨b, i, none⟩ v).cell? ⟨b, i, none⟩ = some v := World.cell?_setCell_same _ _ _ h
theorem cell_far {w : World} {b i c j : Nat} {u v : Value} (h : w.cell? ⟨b, i, none⟩ = some u) (hne : c ≠ b ∨ j ≠ i) : (w.setCell ⟨c, j, none⟩ v).cell? ⟨b, i, none⟩ = some u :=
  (World.cell?_setCell_other _ _ _ _ (fun e => by injection e with e1 e2; omega)).trans h
theorem alloc_at (W : World) (cs : Array Value) (t : TypeId) (g : Nat) (hg : W.heap.size = g) : (W.alloc (.cells cs t)).heap[g]? = some (.cells cs t (0, 0)) := by subst hg; exact alloc_blk _ _ _
theorem fault_is (x : Value) (w : World) : (Instr.typeAssert (.iface 60 x) 20 60 false).run Try.prog w = .ok x w := by rfl

theorem decode_idle (p q r : Addr) (w : World) :
    CallsD Try.prog 29 #[.pointer (some p), .pointer (some q), .pointer (some r)] .returning w fun e u' w' => e = .returned (.tuple #[]) ∧ u' = .returning ∧ w' = w := by
  refine callsD_of_wpS Try.func29 rfl fun c₀ cs hu => ?_
  apply wpS_seq
  apply wpS_region
  simp [wpOpsS, go_sem, recoverD, hu, Try.ntmps29, Exit.thenS]
  refine wpS_of_wp ?_
  change Code.wp _ _ _ { tmps := #[.pointer (some p), .pointer (some q), .pointer (some r), .nilIface, undef, .nilIface, undef, undef, undef, undef, undef, undef, undef, undef, undef], defers := [] } w
  go_wp2
  cases c₀
  simp_all [bodyPostS, results, Try.results29]

set_option maxHeartbeats 1000000 in
theorem decode_catch (h : Nat) (x y : Int) (w : World) (hp : w.heap[h]? = some (.cells #[.slice none 0 0, .slice none 0 0] 26 (0, 0))) (hq : w.heap[h + 1]? = some (.cells #[.int .i64 0] 28 (0, 0))) (hr : w.heap[h + 2]? = some (.cells #[.int .i64 0] 3 (0, 0))) :
    CallsD Try.prog 29 #[.pointer (some ⟨h, 0, none⟩), .pointer (some ⟨h + 1, 0, none⟩), .pointer (some ⟨h + 2, 0, none⟩)] (.panicking (Flt x y)) w fun e u' w' =>
      e = .returned (.tuple #[]) ∧ u' = .panicking [{ v := .iface 60 (.agg #[.int .i64 x, .int .i64 y]), recovered := true }] ∧
      w'.cell? ⟨h, 0, none⟩ = some (.slice none 0 0) ∧ w'.cell? ⟨h, 1, none⟩ = some (.slice none 0 0) ∧ w'.cell? ⟨h + 1, 0, none⟩ = some (.int .i64 x) ∧ w'.cell? ⟨h + 2, 0, none⟩ = some (.int .i64 y) ∧ Below h w w' := by
  have a0 : w.cell? ⟨h, 0, none⟩ = some (.slice none 0 0) := by rw [cell_of_row w h 0 _ _ (0, 0) hp]; rfl
  have a1 : w.cell? ⟨h, 1, none⟩ = some (.slice none 0 0) := by rw [cell_of_row w h 1 _ _ (0, 0) hp]; rfl
  have a2 : w.cell? ⟨h + 1, 0, none⟩ = some (.int .i64 0) := by rw [cell_of_row w (h + 1) 0 _ _ (0, 0) hq]; rfl
  have a3 : w.cell? ⟨h + 2, 0, none⟩ = some (.int .i64 0) := by rw [cell_of_row w (h + 2) 0 _ _ (0, 0) hr]; rfl
  have b0 : w.frozen? ⟨h, 0, none⟩ = false := by simp [World.frozen?, hp]
  have b1 : w.frozen? ⟨h, 1, none⟩ = false := by simp [World.frozen?, hp]
  have b2 : w.frozen? ⟨h + 1, 0, none⟩ = false := by simp [World.frozen?, hq]
  have b3 : w.frozen? ⟨h + 2, 0, none⟩ = false := by simp [World.frozen?, hr]
  have hlt : h + 2 < w.heap.size := (Array.getElem?_eq_some_iff.1 hr).1
  clear hp hq hr
  refine callsD_of_wpS Try.func29 rfl fun c₀ cs hu => ?_
  apply wpS_seq
  apply wpS_region
  simp [wpOpsS, go_sem, recoverD, hu, Try.ntmps29, Exit.thenS]
  refine wpS_of_wp ?_
  change Code.wp _ _ _ { tmps := #[.pointer (some ⟨h, 0, none⟩), .pointer (some ⟨h + 1, 0, none⟩), .pointer (some ⟨h + 2, 0, none⟩), .iface 60 (.agg #[.int .i64 x, .int .i64 y]), undef, .iface 60 (.agg #[.int .i64 x, .int .i64 y]), undef, undef, undef, undef, undef, undef, undef, undef, undef], defers := [] } w
  have hta := fault_is (.agg #[.int .i64 x, .int .i64 y])
  go_wp2
  have X := Lib.hid (Kx.new w 60 #[.int .i64 x, .int .i64 y])
  have bb : Below w.heap.size w (w.alloc (.cells #[.int .i64 x, .int .i64 y] 60)) := below_box _
  have a0 := kc bb a0
  have a1 := kc bb a1
  have a2 := kc bb a2
  have a3 := kc bb a3
  have b0 := (bb.frozen (p := ⟨h, 0, none⟩) (show h < _ by omega)).trans b0
  have b1 := (bb.frozen (p := ⟨h, 1, none⟩) (show h < _ by omega)).trans b1
  have b2 := (bb.frozen (p := ⟨h + 1, 0, none⟩) (show h + 1 < _ by omega)).trans b2
  have b3 := (bb.frozen (p := ⟨h + 2, 0, none⟩) (show h + 2 < _ by omega)).trans b3
  have d0 := X.out.cell 0 (v := .int .i64 x) rfl
  have d1 := X.out.cell 1 (v := .int .i64 y) rfl
  have BB := Lib.hid (bb.mono (show h ≤ w.heap.size by omega))
  clear bb X
  generalize w.alloc (.cells #[.int .i64 x, .int .i64 y] 60) = w1 at *
  have HL := Lib.hid hlt
  have n0 : ¬ w.heap.size = h := by omega
  have n1 : ¬ w.heap.size = h + 1 := by omega
  have n2 : ¬ w.heap.size = h + 2 := by omega
  have m0 : ¬ h = w.heap.size := by omega
  have m1 : ¬ h + 1 = w.heap.size := by omega
  have m2 : ¬ h + 2 = w.heap.size := by omega
  clear hlt
  generalize w.heap.size = G at *
  go_region
  refine ⟨rfl, _, rfl, _, results_none rfl _ _ _, rfl, rfl, ?_, ?_, ?_, ?_, ?_⟩
  · exact cell_far (cell_far (cell_far (cell_set a0) (by omega)) (by omega)) (by omega)
  · exact cell_far (cell_far (cell_set (cell_far a1 (by omega))) (by omega)) (by omega)
  · exact cell_far (cell_set (cell_far (cell_far a2 (by omega)) (by omega))) (by omega)
  · exact cell_set (cell_far (cell_far (cell_far a3 (by omega)) (by omega)) (by omega))
  · exact ((((BB.out.setCell (p := ⟨h, 0, none⟩) (Nat.le_refl _) _).setCell (p := ⟨h, 1, none⟩) (Nat.le_refl _) _).setCell (p := ⟨h + 1, 0, none⟩) (Nat.le_succ _) _).setCell (p := ⟨h + 2, 0, none⟩) (show h ≤ h + 2 by omega) _).drew

set_option maxRecDepth 100000 in
set_option maxHeartbeats 2000000 in
theorem decode_any (A : Option Addr) (N c : Nat) (p : Nat → Nat) (w : World) (hB : Bs w A N p) (hp : ∀ i, p i < 256) (hc : N ≤ c) (hm : c ≤ maxLen) :
    Calls Try.prog 15 #[.slice A N c] w (DecRet p N w) := by
  have hmf : ∀ (fn : Fn) (first cap : Array Value) (w : World), (Instr.makeFunc fn first cap).run Try.prog w = .ok (.func fn first cap) w := fun _ _ _ _ => rfl
  obtain ⟨V, hV⟩ : ∃ V, (((w.alloc (.cells #[.slice none 0 0, .slice none 0 0] 26)).alloc (.cells #[.int .i64 0] 28)).alloc (.cells #[.int .i64 0] 3)).alloc (.cells #[.slice A N c, .int .i64 0] 62) = V := ⟨_, rfl⟩
  have HV := Lib.hid hV
  have HBV : Hid (Bs V A N p) := by rw [← hV]; exact (((hB.keep (below_box _)).keep (below_box _)).keep (below_box _)).keep (below_box _)
  have bV : Below w.heap.size w V := by rw [← hV]; exact ((((Below.refl _ _).alloc (Nat.le_refl _) _).alloc (by simp) _).alloc (by simp; omega) _).alloc (by simp; omega) _
  have HR : Hid (Rd V (w.heap.size + 3) A N c 0) := by
    show V.heap[w.heap.size + 3]? = _
    rw [← hV]
    exact alloc_at _ _ _ _ (by simp)
  have r0 : V.heap[w.heap.size]? = some (.cells #[.slice none 0 0, .slice none 0 0] 26 (0, 0)) := by
    rw [← hV]
    refine ((below_box _).block _ (by simp; omega)).trans (((below_box _).block _ (by simp; omega)).trans (((below_box _).block _ (by simp)).trans (alloc_blk w _ _)))
  have r1 : V.heap[w.heap.size + 1]? = some (.cells #[.int .i64 0] 28 (0, 0)) := by
    rw [← hV]
    refine ((below_box _).block _ (by simp)).trans (((below_box _).block _ (by simp)).trans ?_)
    exact alloc_at _ _ _ _ (by simp)
  have r2 : V.heap[w.heap.size + 2]? = some (.cells #[.int .i64 0] 3 (0, 0)) := by
    rw [← hV]
    refine ((below_box _).block _ (by simp)).trans ?_
    exact alloc_at _ _ _ _ (by simp)
  have lV : w.heap.size + 3 < V.heap.size := HR.out.lt
  have C := Lib.hid (book_any (w.heap.size + 3) N c A p V HR.out HBV.out hp hc hm)
  have Q0 : Hid (∀ X : World, V.grownBy X (some (w.heap.size + 3)) → X.heap[w.heap.size]? = some (.cells #[.slice none 0 0, .slice none 0 0] 26 (0, 0)) ∧ X.heap[w.heap.size + 1]? = some (.cells #[.int .i64 0] 28 (0, 0)) ∧ X.heap[w.heap.size + 2]? = some (.cells #[.int .i64 0] 3 (0, 0)) ∧ Below w.heap.size w X) :=
    fun X hX => ⟨(hX.block _ (by omega) (by simp)).trans r0, (hX.block _ (by omega) (by simp)).trans r1, (hX.block _ (by omega) (by simp)).trans r2, bV.grown hX (by omega) (fun k e => by injection e; omega)⟩
  clear hV HBV bV HR r0 r1 r2 lV hB hp hc hm
  go_enter_defers Try.func15, Try.ntmps15
  go_wp2_with fail
  rw [HV.out]
  refine C.out.mono ?_
  rintro en w1 ⟨e, a, hD, hg, hcase⟩
  obtain ⟨q0, q1, q2, q3⟩ := Q0.out w1 hg
  have HD := Lib.hid hD
  have H0 := Lib.hid q0
  have H1 := Lib.hid q1
  have H2 := Lib.hid q2
  have H3 := Lib.hid q3
  clear C Q0 HV hD hg q0 q1 q2 q3
  rcases hcase with ⟨he, rfl⟩ | ⟨rfl, A1, c1, A2, c2, rfl, l1, l2, l3, l4, hK, hW⟩
  · go_wp2
    refine leaves_cons (f := 29) (args := #[.pointer (some ⟨w.heap.size, 0, none⟩), .pointer (some ⟨w.heap.size + 1, 0, none⟩), .pointer (some ⟨w.heap.size + 2, 0, none⟩)]) (by simp) (by simp [go_sem]) ?_
    refine (decode_catch w.heap.size e a w1 H0.out H1.out H2.out).mono ?_
    rintro en u' w'' ⟨rfl, rfl, z0, z1, z2, z3, zb⟩
    simp [Leaves, settle, results, Try.results15, go_sem, z0, z1, z2, z3]
    exact ⟨e, a, HD.out, H3.out.trans zb, .inl ⟨he, rfl⟩⟩
  · have HK := Lib.hid hK
    have HW := Lib.hid hW
    have LL := Lib.hid (And.intro l1 (And.intro l2 (And.intro l3 l4)))
    have a0 : w1.cell? ⟨w.heap.size, 0, none⟩ = some (.slice none 0 0) := by rw [cell_of_row w1 _ 0 _ _ (0, 0) H0.out]; rfl
    have a1 : w1.cell? ⟨w.heap.size, 1, none⟩ = some (.slice none 0 0) := by rw [cell_of_row w1 _ 1 _ _ (0, 0) H0.out]; rfl
    have a2 : w1.cell? ⟨w.heap.size + 1, 0, none⟩ = some (.int .i64 0) := by rw [cell_of_row w1 _ 0 _ _ (0, 0) H1.out]; rfl
    have a3 : w1.cell? ⟨w.heap.size + 2, 0, none⟩ = some (.int .i64 0) := by rw [cell_of_row w1 _ 0 _ _ (0, 0) H2.out]; rfl
    have b0 : w1.frozen? ⟨w.heap.size, 0, none⟩ = false := by simp [World.frozen?, show w1.heap[w.heap.size]? = _ from H0.out]
    have b1 : w1.frozen? ⟨w.heap.size, 1, none⟩ = false := by simp [World.frozen?, show w1.heap[w.heap.size]? = _ from H0.out]
    have b2 : w1.frozen? ⟨w.heap.size + 1, 0, none⟩ = false := by simp [World.frozen?, show w1.heap[w.heap.size + 1]? = _ from H1.out]
    have b3 : w1.frozen? ⟨w.heap.size + 2, 0, none⟩ = false := by simp [World.frozen?, show w1.heap[w.heap.size + 2]? = _ from H2.out]
    clear hK hW l1 l2 l3 l4 hmf
    obtain ⟨h, hh⟩ : ∃ h, w.heap.size = h := ⟨_, rfl⟩
    rw [hh] at H0 H1 H2 H3 a0 a1 a2 a3 b0 b1 b2 b3 ⊢
    have EH := Lib.hid hh
    clear hh
    go_wp2
    refine leaves_cons (f := 29) (args := #[.pointer (some ⟨h, 0, none⟩), .pointer (some ⟨h + 1, 0, none⟩), .pointer (some ⟨h + 2, 0, none⟩)]) (by simp) (by simp [go_sem]) ?_
    refine (decode_idle ⟨h, 0, none⟩ ⟨h + 1, 0, none⟩ ⟨h + 2, 0, none⟩ _).mono ?_
    rintro en u' w'' ⟨rfl, rfl, rfl⟩
    have z0 := cell_far (c := h + 2) (j := 0) (v := .int .i64 0) (cell_far (c := h + 1) (j := 0) (v := .int .i64 0) (cell_far (c := h) (j := 1) (v := .slice A2 (p 1) c2) (cell_set (v := .slice A1 (p 0) c1) a0) (by omega)) (by omega)) (by omega)
    have z1 := cell_far (c := h + 2) (j := 0) (v := .int .i64 0) (cell_far (c := h + 1) (j := 0) (v := .int .i64 0) (cell_set (v := .slice A2 (p 1) c2) (cell_far (c := h) (j := 0) (v := .slice A1 (p 0) c1) a1 (by omega))) (by omega)) (by omega)
    have z2 := cell_far (c := h + 2) (j := 0) (v := .int .i64 0) (cell_set (v := .int .i64 0) (cell_far (c := h) (j := 1) (v := .slice A2 (p 1) c2) (cell_far (c := h) (j := 0) (v := .slice A1 (p 0) c1) a2 (by omega)) (by omega))) (by omega)
    have z3 := cell_set (v := .int .i64 0) (cell_far (c := h + 1) (j := 0) (v := .int .i64 0) (cell_far (c := h) (j := 1) (v := .slice A2 (p 1) c2) (cell_far (c := h) (j := 0) (v := .slice A1 (p 0) c1) a3 (by omega)) (by omega)) (by omega))
    have bb := (((H3.out.setCell (p := ⟨h, 0, none⟩) (Nat.le_refl _) (.slice A1 (p 0) c1)).setCell (p := ⟨h, 1, none⟩) (Nat.le_refl _) (.slice A2 (p 1) c2)).setCell (p := ⟨h + 1, 0, none⟩) (Nat.le_succ _) (.int .i64 0)).setCell (p := ⟨h + 2, 0, none⟩) (show h ≤ h + 2 by omega) (.int .i64 0)
    have g0 := setCell_blk (i := 0) H0.out (.slice A1 (p 0) c1)
    have g1 := (Below.heap_setCell (w1.setCell ⟨h, 0, none⟩ (.slice A1 (p 0) c1)) ⟨h, 1, none⟩ (.slice A2 (p 1) c2) (h + 1) (by simp)).trans ((Below.heap_setCell w1 ⟨h, 0, none⟩ (.slice A1 (p 0) c1) (h + 1) (by simp)).trans H1.out)
    have g2 := (Below.heap_setCell ((w1.setCell ⟨h, 0, none⟩ (.slice A1 (p 0) c1)).setCell ⟨h, 1, none⟩ (.slice A2 (p 1) c2)) ⟨h + 1, 0, none⟩ (.int .i64 0) (h + 2) (by simp)).trans ((Below.heap_setCell (w1.setCell ⟨h, 0, none⟩ (.slice A1 (p 0) c1)) ⟨h, 1, none⟩ (.slice A2 (p 1) c2) (h + 2) (by simp)).trans ((Below.heap_setCell w1 ⟨h, 0, none⟩ (.slice A1 (p 0) c1) (h + 2) (by simp)).trans H2.out))
    have kk := (((HK.out.far H0.out (by decide) (grown_set h 0 (.slice A1 (p 0) c1))).far g0 (by simp) (grown_set h 1 (.slice A2 (p 1) c2))).far g1 (by decide) (grown_set (h + 1) 0 (.int .i64 0))).far g2 (by decide) (grown_set (h + 2) 0 (.int .i64 0))
    have ww := (((HW.out.far H0.out (by decide) (grown_set h 0 (.slice A1 (p 0) c1))).far g0 (by simp) (grown_set h 1 (.slice A2 (p 1) c2))).far g1 (by decide) (grown_set (h + 1) 0 (.int .i64 0))).far g2 (by decide) (grown_set (h + 2) 0 (.int .i64 0))
    generalize (((w1.setCell ⟨h, 0, none⟩ (.slice A1 (p 0) c1)).setCell ⟨h, 1, none⟩ (.slice A2 (p 1) c2)).setCell ⟨h + 1, 0, none⟩ (.int .i64 0)).setCell ⟨h + 2, 0, none⟩ (.int .i64 0) = X at *
    clear a0 a1 a2 a3 b0 b1 b2 b3 g0 g1 g2
    simp [Leaves, settle, results, Try.results15, go_sem, z0, z1, z2, z3]
    exact ⟨0, a, HD.out, by rw [EH.out]; exact bb, .inr ⟨rfl, A1, c1, A2, c2, rfl, LL.out.1, LL.out.2.1, LL.out.2.2.1, LL.out.2.2.2, kk, ww⟩⟩
end Go.Proofs.Ytpgifcgidelmaaa
