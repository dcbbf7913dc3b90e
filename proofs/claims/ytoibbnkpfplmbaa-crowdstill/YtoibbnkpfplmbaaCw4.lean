/- The crowd in memory; contracts: wants, can, held, holder, move. -/
import Derived.Test.YtoibbnkpfplmbaaCw3
import Derived.Lib.QuietBelow
import Derived.Deep.QuietTactic
import Derived.BigQuiet
namespace Go.Proofs.Ytoibbnkpfplmbaa
open Go.RowKit Go.Sort Go.Lib
set_option linter.unusedVariables false
set_option linter.unusedSimpArgs false
attribute [local go_sem] Oper.semAt_some

/-- What does not turn: where the crowd lies, its cells, its things, their wishes. -/
structure Lay where
  g : Nat
  b : Nat
  n : Nat
  no : Nat
  oA : Option Addr
  oc : Nat
  wA : Option Addr
  wc : Nat
  iA : Option Addr
  ic : Nat
  gA : Option Addr
  gc : Nat
  O : Nat → Bool
  Wi : Nat → Int
/-- The crowd's cells. -/
def Lay.cs (L : Lay) : Array Value := #[.slice L.oA L.no L.oc, .map (some L.b), .slice L.wA L.n L.wc, .slice L.iA L.n L.ic, .slice L.gA L.n L.gc]
/-- The crowd lies in X so; older memory than w0's end has not turned. -/
structure Cw (w0 : World) (L : Lay) (s : St) (X : World) : Prop where
  k : Kx w0 L.g X 48 L.cs
  op : Bo w0 L.oA L.no L.O
  wi : Is w0 L.iA L.n L.Wi
  wh : Iw X w0.heap.size L.wA L.n s.P
  mv : Bw X w0.heap.size L.gA L.n s.G
  bg : w0.heap.size ≤ L.b
  mp : ∃ sz, sz ≤ 64 ∧ Mo X L.b sz (onZ s.P L.n)
  few : L.n ≤ 64
  cells : L.no ≤ 4096
  rp : rgZ L.no s.P L.n
  rw : rgZ L.no L.Wi L.n
  apt : Apt s.P L.n
  wcl : L.n ≤ L.wc
  gcl : L.n ≤ L.gc
  wcm : L.wc ≤ maxLen
  gcm : L.gc ≤ maxLen
theorem Cw.keep {w0 X Y : World} {L : Lay} {s : St} (h : Cw w0 L s X) (hb : RowKit.Below X.heap.size X Y) : Cw w0 L s Y := by
  obtain ⟨sz, h1, h2⟩ := h.mp
  exact ⟨h.k.keep hb, h.op, h.wi, h.wh.keep hb, h.mv.keep hb, h.bg, ⟨sz, h1, h2.keep hb⟩, h.few, h.cells, h.rp, h.rw, h.apt, h.wcl, h.gcl, h.wcm, h.gcm⟩
theorem Cw.c0 {w0 X : World} {L : Lay} {s : St} (h : Cw w0 L s X) : X.cell? ⟨L.g, 0, none⟩ = some (.slice L.oA L.no L.oc) := h.k.cell 0 rfl
theorem Cw.c1 {w0 X : World} {L : Lay} {s : St} (h : Cw w0 L s X) : X.cell? ⟨L.g, 1, none⟩ = some (.map (some L.b)) := h.k.cell 1 rfl
theorem Cw.c2 {w0 X : World} {L : Lay} {s : St} (h : Cw w0 L s X) : X.cell? ⟨L.g, 2, none⟩ = some (.slice L.wA L.n L.wc) := h.k.cell 2 rfl
theorem Cw.c3 {w0 X : World} {L : Lay} {s : St} (h : Cw w0 L s X) : X.cell? ⟨L.g, 3, none⟩ = some (.slice L.iA L.n L.ic) := h.k.cell 3 rfl
theorem Cw.c4 {w0 X : World} {L : Lay} {s : St} (h : Cw w0 L s X) : X.cell? ⟨L.g, 4, none⟩ = some (.slice L.gA L.n L.gc) := h.k.cell 4 rfl
/-- Is a thing on a cell, and wishes for one? -/
def wtB (P Wi : Nat → Int) (i : Nat) : Bool := decide (0 ≤ P i) && decide (0 ≤ Wi i)

set_option maxHeartbeats 1000000 in
theorem wants15_any (w0 w : World) (L : Lay) (s : St) (i : Nat) (h : Cw w0 L s w) (hi : i < L.n) :
    Calls Try.prog 26 #[.pointer (some ⟨L.g, 0, none⟩), .int .i64 (i : Int)] w (Ret (.bool (wtB s.P L.Wi i)) w) := by
  obtain ⟨g, b, n, no, oA, oc, wA, wc, iA, ic, gA, gc, O, Wi⟩ := L
  have c2 := h.c2
  have c3 := h.c3
  have hlo := (h.rp i hi).1
  have hlo2 := (h.rw i hi).1
  obtain ⟨wg, e0, -, -, p00, -, -, -⟩ := h.wh.at hi
  obtain ⟨ig, io, e1, q0⟩ := h.wi.at h.k.below hi
  have p0 := p00 i hi
  clear p00
  dsimp only at hi c2 c3 e0 e1 q0 p0 hlo hlo2 ⊢
  subst e0 e1
  have hiI : (i : Int) < (n : Int) := by omega
  clear h
  go_enter Try.func26, Try.ntmps26
  by_cases h1 : s.P i = -1
  · have HE : Hid (wtB s.P Wi i = false) := by show _ = _; unfold wtB; rw [decide_eq_false (by omega)]; rfl
    rw [h1] at p0
    go_wp2
    go_ret
    exact Ret.mk (congrArg Value.bool HE.out.symm) (Below.refl _ _)
  · have g1 : (s.P i == -1) = false := by simp [h1]
    by_cases h2 : Wi i = -1
    · have HE : Hid (wtB s.P Wi i = false) := by show _ = _; unfold wtB; rw [decide_eq_false (p := 0 ≤ Wi i) (by omega), Bool.and_false]
      rw [h2] at q0
      generalize s.P i = z at *
      go_wp2
      go_ret
      exact Ret.mk (congrArg Value.bool HE.out.symm) (Below.refl _ _)
    · have g2 : (Wi i == -1) = false := by simp [h2]
      have HE : Hid (wtB s.P Wi i = (s.P i != -1 && Wi i != -1)) := by
        show _ = _
        have e1 : (s.P i != -1) = true := by simp [h1]
        have e2 : (Wi i != -1) = true := by simp [h2]
        rw [e1, e2]
        unfold wtB; rw [decide_eq_true (by omega), decide_eq_true (by omega)]
      generalize s.P i = z at *
      generalize Wi i = y at *
      go_wp2
      go_ret
      exact Ret.mk (congrArg Value.bool HE.out.symm) (Below.refl _ _)

set_option maxHeartbeats 1000000 in
theorem can15_any (w0 w : World) (L : Lay) (s : St) (i : Nat) (h : Cw w0 L s w) (hi : i < L.n) :
    Calls Try.prog 27 #[.pointer (some ⟨L.g, 0, none⟩), .int .i64 (i : Int)] w (Ret (.bool (canS L.n L.O L.Wi s.P i)) w) := by
  have HPC := Lib.hid (fun d os => Calls.regrown_of (d := d) (os := os) (wants15_any w0 (grow (redrawn w d) os) L s i (h.keep (below_regrown w d os)) hi))
  obtain ⟨sz, -, hM⟩ := h.mp
  obtain ⟨g, b, n, no, oA, oc, wA, wc, iA, ic, gA, gc, O, Wi⟩ := L
  have c0 := h.c0
  have c1 := h.c1
  have c3 := h.c3
  have hlo := h.rp i hi
  have hlo2 := h.rw i hi
  have hcl := h.cells
  obtain ⟨ig, io, e1, q0⟩ := h.wi.at h.k.below hi
  dsimp only at hi c0 c1 c3 e1 q0 hlo hlo2 hM hcl HPC ⊢
  subst e1
  have hiI : (i : Int) < (n : Int) := by omega
  have hop : Bo w0 oA no O := h.op
  have HO := Lib.hid (fun (j : Nat) (hj : j < no) => hop.at h.k.below hj)
  clear hop
  have HM := Lib.hid hM
  clear h hM
  go_enter Try.func27, Try.ntmps27
  by_cases h1 : 0 ≤ s.P i ∧ 0 ≤ Wi i
  rotate_left
  · have HE : Hid (canS n O Wi s.P i = false) := by show _ = _; rw [Bool.eq_false_iff]; intro q; have := canS_iff.1 q; omega
    have e2 : wtB s.P Wi i = false := by unfold wtB; rw [Bool.and_eq_false_iff, decide_eq_false_iff_not, decide_eq_false_iff_not]; omega
    rw [e2] at HPC
    clear e2
    go_wp2
    refine wp_region_quiet_below (by kernel_rfl) (by kernel_rfl) ?_
    repeat (go_big_quiet_step (with_reducible exact HPC.out _ _))
    refine wpQuiet_nil ?_
    intro _ hw'
    obtain ⟨⟨dq, osq⟩, hw''⟩ := hw'
    subst hw''
    have HB := Lib.hid (below_regrown w dq osq)
    generalize grow (redrawn w dq) osq = w1 at *
    go_wp2
    go_ret
    exact Ret.mk (congrArg Value.bool HE.out.symm) HB.out
  obtain ⟨h1, h2⟩ := h1
  have e2 : wtB s.P Wi i = true := by unfold wtB; rw [decide_eq_true h1, decide_eq_true h2]; rfl
  rw [e2] at HPC
  clear e2
  have hy : (Wi i).toNat < no := by omega
  obtain ⟨og, oo, e4, p4⟩ := HO.out _ hy
  subst e4
  have hyI : Wi i < (no : Int) := by omega
  have HE := Lib.hid (canS_iff (n := n) (O := O) (Wi := Wi) (P := s.P) (i := i))
  obtain ⟨y, hy0⟩ : ∃ y, y = Wi i := ⟨_, rfl⟩
  rw [← hy0] at q0 p4 hyI h2 hlo2
  have HY := Lib.hid hy0
  clear hy0 hy HO
  have k0 := cell_regrown c0
  have k3 := cell_regrown c3
  have k4 := cell_regrown q0
  have k5 := cell_regrown p4
  cases ho : O y.toNat with
  | false =>
    rw [ho] at p4 k5
    have HE2 : Hid (canS n O Wi s.P i = false) := by show _ = _; rw [Bool.eq_false_iff]; intro q; have := (HE.out.1 q).2.2.1; rw [← HY.out, ho] at this; cases this
    clear ho
    go_wp2
    refine wp_region_quiet_below (by kernel_rfl) (by kernel_rfl) ?_
    repeat (go_big_quiet_step (with_reducible exact HPC.out _ _))
    refine wpQuiet_nil ?_
    intro _ hw'
    obtain ⟨⟨dq, osq⟩, hw''⟩ := hw'
    subst hw''
    have HB := Lib.hid (below_regrown w dq osq)
    generalize grow (redrawn w dq) osq = w1 at *
    go_wp2
    go_ret
    exact Ret.mk (congrArg Value.bool HE2.out.symm) HB.out
  | true =>
    rw [ho] at p4 k5
    have HE2 : Hid (canS n O Wi s.P i = !decide (0 ≤ onZ s.P n y)) := by
      show _ = _
      rw [HY.out]
      rw [HY.out] at ho h2
      by_cases q : 0 ≤ onZ s.P n (Wi i)
      · rw [decide_eq_true q, Bool.not_true, Bool.eq_false_iff]
        intro q2
        have := (HE.out.1 q2).2.2.2
        omega
      · rw [decide_eq_false q, Bool.not_false]
        exact HE.out.2 ⟨h1, h2, ho, by omega⟩
    clear ho HE
    go_wp2
    refine wp_region_quiet_below (by kernel_rfl) (by kernel_rfl) ?_
    repeat (go_big_quiet_step (with_reducible exact HPC.out _ _))
    refine wpQuiet_nil ?_
    intro _ hw'
    obtain ⟨⟨dq, osq⟩, hw''⟩ := hw'
    subst hw''
    have HB := Lib.hid (below_regrown w dq osq)
    have d1 := kc HB.out c1
    have d3 := kc HB.out c3
    have d4 := kc HB.out q0
    have HM1 := Lib.hid (HM.out.keep HB.out)
    clear k0 k3 k4 k5 c0 c1 c3 q0 p4 HM HPC
    generalize grow (redrawn w dq) osq = w1 at *
    obtain ⟨k, hlk⟩ := HM1.out.look_ok (c := y) (by omega)
    have HL : Hid (∀ w', (∃ p : Regrown, w' = grow (redrawn w1 p.d) p.os) → (Instr.lookup 41 (.map (some b)) (.int .i64 y) true).run Try.prog w' = .ok (.tuple #[.int .i64 k, .bool (decide (0 ≤ onZ s.P n y))]) w') := by
      rintro w' ⟨p, rfl⟩
      exact hlk _ ((below_regrown w1 p.d p.os).block b HM1.out.lt)
    generalize decide (0 ≤ onZ s.P n y) = v at *
    have k1 := cell_regrown d1
    have k3 := cell_regrown d3
    have k4 := cell_regrown d4
    clear hlk
    go_wp2
    refine wp_region_quiet_below (by kernel_rfl) (by kernel_rfl) ?_
    repeat (first | (go_big_quiet_want; refine quiet_lookup HL.out rfl rfl rfl ?_; simp only [Act.put, List.setIfInBounds_toArray, List.set_cons_zero, List.set_cons_succ]; go_big_quiet_on) | (go_big_quiet_step (fail)))
    refine wpQuiet_nil ?_
    intro _ hw'
    obtain ⟨⟨dr, osr⟩, hw''⟩ := hw'
    subst hw''
    have HB2 := Lib.hid (HB.out.trans ((below_regrown w1 dr osr).mono HB.out.size))
    generalize grow (redrawn w1 dr) osr = w2 at *
    go_wp2
    go_ret
    exact Ret.mk (congrArg Value.bool HE2.out.symm) HB2.out

set_option maxHeartbeats 1000000 in
theorem held15_any (w0 w : World) (L : Lay) (s : St) (i : Nat) (h : Cw w0 L s w) (hi : i < L.n) :
    Calls Try.prog 22 #[.pointer (some ⟨L.g, 0, none⟩), .int .i64 (i : Int)] w (Ret (.bool (wtB s.P L.Wi i && (s.P i != L.Wi i))) w) := by
  have HPC := Lib.hid (fun d os => Calls.regrown_of (d := d) (os := os) (wants15_any w0 (grow (redrawn w d) os) L s i (h.keep (below_regrown w d os)) hi))
  obtain ⟨g, b, n, no, oA, oc, wA, wc, iA, ic, gA, gc, O, Wi⟩ := L
  have c2 := h.c2
  have c3 := h.c3
  obtain ⟨wg, e0, -, -, p00, -, -, -⟩ := h.wh.at hi
  obtain ⟨ig, io, e1, q0⟩ := h.wi.at h.k.below hi
  have p0 := p00 i hi
  clear p00
  dsimp only at hi c2 c3 e0 e1 q0 p0 HPC ⊢
  subst e0 e1
  have hiI : (i : Int) < (n : Int) := by omega
  clear h
  generalize wtB s.P Wi i = v at *
  generalize s.P i = z at *
  generalize Wi i = y at *
  have k2 := cell_regrown c2
  have k3 := cell_regrown c3
  have k4 := cell_regrown p0
  have k5 := cell_regrown q0
  have HE := Lib.hid (rfl : (v && (z != y)) = (v && (z != y)))
  go_enter Try.func22, Try.ntmps22
  cases v
  all_goals
    go_wp2
    refine wp_region_quiet_below (by kernel_rfl) (by kernel_rfl) ?_
    repeat (go_big_quiet_step (with_reducible exact HPC.out _ _))
    refine wpQuiet_nil ?_
    intro _ hw'
    obtain ⟨⟨dr, osr⟩, hw''⟩ := hw'
    subst hw''
    have HB2 := Lib.hid (below_regrown w dr osr)
    generalize grow (redrawn w dr) osr = w2 at *
    go_wp2
    go_ret
    exact Ret.mk rfl HB2.out

set_option maxHeartbeats 1000000 in
/-- Who holds one that is held, where nobody can move. -/
theorem holder15_any (w0 w : World) (L : Lay) (s : St) (i : Nat) (h : Cw w0 L s w) (hi : i < L.n) (h0 : 0 ≤ L.Wi i) (hon : L.O (L.Wi i).toNat = true → 0 ≤ onZ s.P L.n (L.Wi i)) :
    Calls Try.prog 23 #[.pointer (some ⟨L.g, 0, none⟩), .int .i64 (i : Int)] w (Ret (.int .i64 (if L.O (L.Wi i).toNat = true then onZ s.P L.n (L.Wi i) else -1)) w) := by
  obtain ⟨sz, -, hM⟩ := h.mp
  obtain ⟨g, b, n, no, oA, oc, wA, wc, iA, ic, gA, gc, O, Wi⟩ := L
  have c0 := h.c0
  have c1 := h.c1
  have c3 := h.c3
  have hlo2 := h.rw i hi
  have hcl := h.cells
  obtain ⟨ig, io, e1, q0⟩ := h.wi.at h.k.below hi
  have hop : Bo w0 oA no O := h.op
  dsimp only at hi c0 c1 c3 e1 q0 hlo2 hM hcl h0 hon ⊢
  subst e1
  have hiI : (i : Int) < (n : Int) := by omega
  obtain ⟨og, oo, e4, p4⟩ := hop.at h.k.below (show (Wi i).toNat < no by omega)
  subst e4
  have HM := Lib.hid hM
  clear h hM hop
  have hyI : Wi i < (no : Int) := by omega
  have k0 := cell_regrown c0
  have k3 := cell_regrown c3
  have k4 := cell_regrown q0
  have k5 := cell_regrown p4
  go_enter Try.func23, Try.ntmps23
  by_cases ho : O (Wi i).toNat = true
  rotate_left
  · rw [if_neg ho]
    have hob : O (Wi i).toNat = false := by simpa using ho
    rw [hob] at p4 k5
    clear hon ho hob
    generalize Wi i = y at *
    go_wp2
    refine wp_region_quiet_below (by kernel_rfl) (by kernel_rfl) ?_
    repeat (go_big_quiet_step (fail))
    refine wpQuiet_nil ?_
    intro _ hw'
    obtain ⟨⟨dr, osr⟩, hw''⟩ := hw'
    subst hw''
    have HB1 := Lib.hid (below_regrown w dr osr)
    generalize grow (redrawn w dr) osr = w1 at *
    go_wp2
    go_ret
    exact Ret.mk rfl HB1.out
  · rw [if_pos ho]
    rw [ho] at p4 k5
    have hon := hon ho
    have HL0 := Lib.hid (fun (w' : World) (e : w'.heap[b]? = w.heap[b]?) => (HM.out.kept e).look (c := Wi i) (by omega) hon)
    have hbl := HM.out.lt
    clear ho HM
    generalize onZ s.P n (Wi i) = z at *
    generalize Wi i = y at *
    go_wp2
    refine wp_region_quiet_below (by kernel_rfl) (by kernel_rfl) ?_
    repeat (go_big_quiet_step (fail))
    refine wpQuiet_nil ?_
    intro _ hw'
    obtain ⟨⟨dr, osr⟩, hw''⟩ := hw'
    subst hw''
    have HB1 := Lib.hid (below_regrown w dr osr)
    clear k0 k3 k4 k5
    generalize grow (redrawn w dr) osr = w1 at *
    have k1 := cell_regrown (kc HB1.out c1)
    have k3 := cell_regrown (kc HB1.out c3)
    have k4 := cell_regrown (kc HB1.out q0)
    have HL : Hid (∀ w', (∃ p : Regrown, w' = grow (redrawn w1 p.d) p.os) → (Instr.lookup 41 (.map (some b)) (.int .i64 y) false).run Try.prog w' = .ok (.int .i64 z) w') := by
      rintro w' ⟨p, rfl⟩
      exact HL0.out _ (((HB1.out.trans ((below_regrown w1 p.d p.os).mono HB1.out.size)).block b hbl))
    clear c0 c1 c3 q0 p4
    go_wp2
    refine wp_region_quiet_below (by kernel_rfl) (by kernel_rfl) ?_
    repeat (first | (go_big_quiet_want; refine quiet_lookup HL.out rfl rfl rfl ?_; simp only [Act.put, List.setIfInBounds_toArray, List.set_cons_zero, List.set_cons_succ]; go_big_quiet_on) | (go_big_quiet_step (fail)))
    refine wpQuiet_nil ?_
    intro _ hw'
    obtain ⟨⟨dr, osr⟩, hw''⟩ := hw'
    subst hw''
    have HB2 := Lib.hid (HB1.out.trans ((below_regrown w1 dr osr).mono HB1.out.size))
    generalize grow (redrawn w1 dr) osr = w2 at *
    go_wp2
    go_ret
    exact Ret.mk rfl HB2.out
end Go.Proofs.Ytoibbnkpfplmbaa
