/- The law's awake. -/
import Derived.Test.YtcipedijjemghaaDoorRt9
namespace Go.Proofs.YtcipedijjemghaaDoor
open Go.RowKit Go.Sort Go.Shelf
set_option linter.unusedVariables false
set_option linter.unusedSimpArgs false
attribute [local go_sem] Oper.semAt_some

theorem bo_six {w : World} {g : Nat} {cs : Array Value} {O : Nat → Bool} (h : w.heap[g]? = some (.cells cs 4 (0, 0))) (hc : ∀ i, i < 6 → cs[i]? = some (.bool (O i))) : Bo w (some ⟨g, 0, none⟩) 6 O := by
  intro _
  refine ⟨g, 0, rfl, (Array.getElem?_eq_some_iff.1 h).1, fun i hi => ?_⟩
  rw [Nat.zero_add, cell_of_row w g i cs _ (0, 0) h, hc i hi]
theorem costA {w : World} {A : Option Addr} (h : Lin w A 6 6 oA) : Calls Tryd.prog 15 #[.agg #[.int .i64 3, .int .i64 2, .slice A 6 6], .int .i64 0, .int .i64 5] w (Ret (.tuple #[.int .i64 5, .int .i64 0]) w) := by
  refine (cost13_any 3 2 oA 6 6 0 5 A w h).mono fun e w' hq => ?_
  have := hq.1
  unfold vl13 at this
  rw [erA, cA0] at this
  exact this
theorem costB {w : World} {A : Option Addr} (h : Lin w A 6 6 oB) : Calls Tryd.prog 15 #[.agg #[.int .i64 3, .int .i64 2, .slice A 6 6], .int .i64 0, .int .i64 5] w (Ret (.tuple #[.int .i64 6, .int .i64 0]) w) := by
  refine (cost13_any 3 2 oB 6 6 0 5 A w h).mono fun e w' hq => ?_
  have := hq.1
  unfold vl13 at this
  rw [erB, cB0] at this
  exact this
theorem wayA {w : World} {A : Option Addr} (h : Lin w A 6 6 oA) : Calls Tryd.prog 16 #[.agg #[.int .i64 3, .int .i64 2, .slice A 6 6], .int .i64 0, .int .i64 5, .int .i64 9] w fun e w' =>
    ∃ g o k, e = .returned (.tuple #[.slice (some ⟨g, o, none⟩) 3 k, .int .i64 0]) ∧ 3 ≤ k ∧ k ≤ maxLen ∧ RowKit.Below w.heap.size w w' ∧ g < w'.heap.size ∧ w'.cell? ⟨g, o + 1, none⟩ = some (.int .i64 1) ∧ w'.cell? ⟨g, o + 2, none⟩ = some (.int .i64 5) := by
  refine (way13_any2 3 2 oA 6 6 0 5 9 A w h).mono ?_
  rintro e w' ⟨hb, hc⟩
  rcases hc with ⟨h1, _⟩ | ⟨_, h2, _⟩ | ⟨_, _, A', k, l, rfl, h3, h4, _, h5, h6⟩
  · exact absurd erA h1
  · rw [cA0] at h2; omega
  · have hl := pathA h6
    subst hl
    obtain ⟨g, o, rfl, hg, hcl⟩ := h5 (by simp)
    exact ⟨g, o, k, rfl, h3, h4, hb, hg, hcl 1 (by simp), hcl 2 (by simp)⟩
theorem wayA4 {w : World} {A : Option Addr} (h : Lin w A 6 6 oA) : Calls Tryd.prog 16 #[.agg #[.int .i64 3, .int .i64 2, .slice A 6 6], .int .i64 0, .int .i64 5, .int .i64 4] w (Ret (.tuple #[.slice none 0 0, .int .i64 10]) w) := by
  refine (way13_any2 3 2 oA 6 6 0 5 4 A w h).mono ?_
  rintro e w' ⟨hb, hc⟩
  rcases hc with ⟨h1, _⟩ | ⟨_, h2, rfl⟩ | ⟨_, h2, _⟩
  · exact absurd erA h1
  · exact ⟨rfl, hb⟩
  · rw [cA0] at h2; omega

set_option maxHeartbeats 4000000 in
theorem awake13_any (w : World) (hT : Tst w) : Calls Tryd.prog 12 #[] w (Ret (.bool true) w) := by
  have HT := Lib.hid hT
  have C0 := Lib.hid (three13_any w)
  clear hT
  go_enter Tryd.func12, Tryd.ntmps12
  go_wp2_with fail
  refine C0.out.mono ?_
  rintro e w1 ⟨g, rfl, q1, q2, q3⟩
  have KB := Lib.hid (Kx.next (w := w) q3 24 #[.int .i64 3, .int .i64 2, .slice (some ⟨g, 0, none⟩) 6 6])
  have GB : Hid ((w1.alloc (.cells #[.int .i64 3, .int .i64 2, .slice (some ⟨g, 0, none⟩) 6 6] 24)).heap[g]? = some (.cells #[.bool true, .bool true, .bool true, .bool true, .bool true, .bool true] 4 (0, 0))) := ((newBox _).block g (Array.getElem?_eq_some_iff.1 q2).1).trans q2
  have hgw : g < w1.heap.size := (Array.getElem?_eq_some_iff.1 q2).1
  have LA : Hid (∀ u : World, RowKit.Below w.heap.size w u → u.heap[g]? = some (.cells #[.bool true, .bool true, .bool true, .bool true, .bool true, .bool true] 4 (0, 0)) → Lin u (some ⟨g, 0, none⟩) 6 6 oA) := by
    intro u h1 h2
    refine ⟨bo_six h2 ?_, by omega, by unfold maxLen; omega, HT.out.keep h1⟩
    intro i hi
    have : i = 0 ∨ i = 1 ∨ i = 2 ∨ i = 3 ∨ i = 4 ∨ i = 5 := by omega
    rcases this with rfl | rfl | rfl | rfl | rfl | rfl <;> rfl
  have LB : Hid (∀ u : World, RowKit.Below w.heap.size w u → u.heap[g]? = some (.cells #[.bool true, .bool false, .bool true, .bool true, .bool true, .bool true] 4 (0, 0)) → Lin u (some ⟨g, 0, none⟩) 6 6 oB) := by
    intro u h1 h2
    refine ⟨bo_six h2 ?_, by omega, by unfold maxLen; omega, HT.out.keep h1⟩
    intro i hi
    have : i = 0 ∨ i = 1 ∨ i = 2 ∨ i = 3 ∨ i = 4 ∨ i = 5 := by omega
    rcases this with rfl | rfl | rfl | rfl | rfl | rfl <;> rfl
  clear q2 q3 C0
  have b0 := KB.out.cell 0 rfl
  have b1 := KB.out.cell 1 rfl
  have b2 := KB.out.cell 2 rfl
  go_wp2_with fail
  refine (costA (LA.out _ KB.out.below GB.out)).mono ?_
  rintro e w2 ⟨rfl, q⟩
  have KB2 := Lib.hid (KB.out.keep q)
  have GB2 : Hid (_ = _) := (q.block g (Array.getElem?_eq_some_iff.1 GB.out).1).trans GB.out
  clear q b0 b1 b2 KB GB
  have b0 := KB2.out.cell 0 rfl
  have b1 := KB2.out.cell 1 rfl
  have b2 := KB2.out.cell 2 rfl
  go_wp2_with fail
  refine (wayA (LA.out _ KB2.out.below GB2.out)).mono ?_
  rintro e w3 ⟨pg, po, pk, rfl, p1, p2, q, p3, p4, p5⟩
  have KB3 := Lib.hid (KB2.out.keep q)
  have GB3 : Hid (_ = _) := (q.block g (Array.getElem?_eq_some_iff.1 GB2.out).1).trans GB2.out
  have HPC := Lib.hid (And.intro p4 p5)
  unfold maxLen at p2
  clear q b0 b1 b2 KB2 GB2 p4 p5
  have b0 := KB3.out.cell 0 rfl
  have b1 := KB3.out.cell 1 rfl
  have b2 := KB3.out.cell 2 rfl
  go_wp2_with fail
  refine (wayA4 (LA.out _ KB3.out.below GB3.out)).mono ?_
  rintro e w4 ⟨rfl, q⟩
  have KB4 := Lib.hid (KB3.out.keep q)
  have GB4 : Hid (w4.heap[g]? = some (.cells #[.bool true, .bool true, .bool true, .bool true, .bool true, .bool true] 4 (0, 0))) := (q.block g (Array.getElem?_eq_some_iff.1 GB3.out).1).trans GB3.out
  have HPC4 : Hid (w4.cell? ⟨pg, po + 1, none⟩ = some (.int .i64 1) ∧ w4.cell? ⟨pg, po + 2, none⟩ = some (.int .i64 5)) := ⟨kc q HPC.out.1, kc q HPC.out.2⟩
  have hpg : pg ≠ g := by
    rintro rfl
    have h1 := HPC4.out.1
    rw [cell_of_row w4 pg _ _ _ (0, 0) GB4.out] at h1
    have : ∀ (j : Nat) (v : Value), (#[Value.bool true, .bool true, .bool true, .bool true, .bool true, .bool true] : Array Value)[j]? = some v → v = .bool true := by
      intro j v h
      have hj : j < 6 := by simpa using (Array.getElem?_eq_some_iff.1 h).1
      have : j = 0 ∨ j = 1 ∨ j = 2 ∨ j = 3 ∨ j = 4 ∨ j = 5 := by omega
      rcases this with rfl | rfl | rfl | rfl | rfl | rfl <;> simpa using h.symm
    exact absurd (this _ _ h1) (by simp)
  clear q b0 b1 b2 KB3 GB3 HPC
  have b0 := KB4.out.cell 0 rfl
  have b1 := KB4.out.cell 1 rfl
  have b2 := KB4.out.cell 2 rfl
  have e1 : w4.cell? ⟨g, 1, none⟩ = some (.bool true) := by rw [cell_of_row w4 g 1 _ _ (0, 0) GB4.out]; rfl
  have f1 : w4.frozen? ⟨g, 1, none⟩ = false := by simp [World.frozen?, GB4.out]
  have G5 := grown_set w4 g 1 (.bool false)
  have GB5 : Hid ((w4.setCell ⟨g, 1, none⟩ (.bool false)).heap[g]? = some (.cells #[.bool true, .bool false, .bool true, .bool true, .bool true, .bool true] 4 (0, 0))) := by
    show _ = _
    rw [setCell_blk GB4.out _]; rfl
  have KB5 := Lib.hid (KB4.out.far (b := g) (by omega) q1 1 (.bool false))
  have HPC5 : Hid ((w4.setCell ⟨g, 1, none⟩ (.bool false)).cell? ⟨pg, po + 1, none⟩ = some (.int .i64 1) ∧ (w4.setCell ⟨g, 1, none⟩ (.bool false)).cell? ⟨pg, po + 2, none⟩ = some (.int .i64 5)) := ⟨cell_far HPC4.out.1 (.inl (Ne.symm hpg)), cell_far HPC4.out.2 (.inl (Ne.symm hpg))⟩
  have c0 := KB5.out.cell 0 rfl
  have c1 := KB5.out.cell 1 rfl
  have c2 := KB5.out.cell 2 rfl
  clear G5
  go_wp2_with fail
  refine (costB (LB.out _ KB5.out.below GB5.out)).mono ?_
  rintro e w6 ⟨rfl, q⟩
  have KB6 := Lib.hid (KB5.out.keep q)
  have x1 := kc q HPC5.out.1
  have x2 := kc q HPC5.out.2
  have hk3 : (3 : Int) ≤ (pk : Int) := by omega
  clear q b0 b1 b2 c0 c1 c2 e1 f1 KB4 KB5 GB4 GB5 HPC4 HPC5 LA LB
  go_wp2
  go_ret
  exact Ret.mk rfl KB6.out.below
end Go.Proofs.YtcipedijjemghaaDoor
