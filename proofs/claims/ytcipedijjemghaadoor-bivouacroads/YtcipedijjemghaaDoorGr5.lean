/- Contracts of package ground, fourth part: the iterator over a cell's neighbours. -/
import Derived.Test.YtcipedijjemghaaDoorGr4
namespace Go.Proofs.YtcipedijjemghaaDoor
open Go.RowKit Go.Shelf
set_option linter.unusedVariables false
attribute [local go_sem] Oper.semAt_some

/-- A neighbour of x. -/
abbrev Nb (wd N x : Nat) := { m : Nat // Adj wd N x m }
/-- What the body of a loop over neighbours keeps: the iterator's boxes. -/
def Kp (lo : Nat) (W W' : World) : Prop := ∀ b u, lo ≤ b → b < lo + 5 → Boxed W b 3 u → Boxed W' b 3 u
theorem Kp.trans {lo : Nat} {A B C : World} (h : Kp lo A B) (k : Kp lo B C) : Kp lo A C := fun b u h1 h2 h3 => k b u h1 h2 (h b u h1 h2 h3)
theorem Nbx.kp {W W' : World} {lo bi bj wd ht x : Nat} (h : Nbx W lo bi bj wd ht x) (k : Kp lo W W') : Nbx W' lo bi bj wd ht x :=
  ⟨h.i0, h.i1, h.j0, h.j1, k _ _ (Nat.le_refl _) (by omega) h.hw, k _ _ (by omega) (by omega) h.hh, k _ _ (by omega) (by omega) h.hx, k _ _ h.i0 h.i1 h.hi, k _ _ h.j0 h.j1 h.hj, fun b b0 b1 => by obtain ⟨u, hu⟩ := h.all b b0 b1; exact ⟨u, k b u b0 b1 hu⟩⟩
/-- What the walk reads of the boxes. -/
theorem Nbx.read {W : World} {lo bi bj wd ht x qi qj : Nat} (h : Nbx W lo bi bj wd ht x) (ei : x % wd = qi) (ej : x / wd = qj) :
    W.cell? ⟨lo, 0, none⟩ = some (.int .i64 (wd : Int)) ∧ W.cell? ⟨lo + 1, 0, none⟩ = some (.int .i64 (ht : Int)) ∧ W.cell? ⟨lo + 2, 0, none⟩ = some (.int .i64 (x : Int)) ∧
      W.cell? ⟨bi, 0, none⟩ = some (.int .i64 (qi : Int)) ∧ W.cell? ⟨bj, 0, none⟩ = some (.int .i64 (qj : Int)) := by
  subst ei ej
  exact ⟨h.hw.cell, h.hh.cell, h.hx.cell, h.hi.cell, h.hj.cell⟩

set_option maxRecDepth 100000 in
set_option maxHeartbeats 4000000 in
theorem it_in (n l lo bi bj wd ht x qi qj : Nat) (hn : 1 ≤ n) (h1 : 1 ≤ wd) (h2 : wd ≤ 64) (h3 : 1 ≤ ht) (h4 : ht ≤ 64) (hx : x ≤ 4096) (ei : x % wd = qi) (ej : x / wd = qj) (J Jx : List (Nb wd (wd * ht) x) → World → Prop)
    (M : ∀ m, m ∈ nbl wd ht x → Adj wd (wd * ht) x m)
    (HY : Hid (∀ (pre : List (Nb wd (wd * ht) x)) (m : Nb wd (wd * ht) x) (z : Int) (W : World), z = (m.1 : Int) → J pre W → pre.length < 4 → YieldAt Fence.wide (n - 1) Tryd.prog l #[.int .i64 z] W fun e W' =>
      (e = .returned (.bool true) ∧ J (pre ++ [m]) W' ∧ Kp lo W W') ∨ (e = .returned (.bool false) ∧ Jx (pre ++ [m]) W')))
    (W : World) (hN : Nbx W lo bi bj wd ht x) (h0 : J [] W) :
    CallsIn Fence.wide n Tryd.prog 57 #[.func (.yield l) #[] #[], .pointer (some ⟨bj, 0, none⟩), .pointer (some ⟨lo + 2, 0, none⟩), .pointer (some ⟨lo, 0, none⟩), .pointer (some ⟨bi, 0, none⟩), .pointer (some ⟨lo + 1, 0, none⟩)] W fun e W' => (∃ v, e = .returned v) ∧
      ((∃ ys : List (Nb wd (wd * ht) x), ys.map Subtype.val = nbl wd ht x ∧ J ys W') ∨ (∃ pre, Jx pre W')) := by
  have EL : Hid (nbl wd ht x = (if 0 < qj then [x - wd] else []) ++ ((if 0 < qi then [x - 1] else []) ++ ((if qi + 1 < wd then [x + 1] else []) ++ (if qj + 1 < ht then [x + wd] else [])))) := by
    show _ = _
    unfold nbl; rw [ei, ej]
  have G1 : Hid (0 < qj → wd ≤ x) := by rw [← ej]; exact (div_pos (x := x) (show 0 < wd by omega)).1
  have G2 : Hid (0 < qi → 1 ≤ x) := by
    rw [← ei]
    intro h
    rcases Nat.eq_zero_or_pos x with e | e
    · rw [e] at h; simp at h
    · exact e
  have q1 : (qj : Int) ≤ 4096 := by have := Nat.div_le_self x wd; omega
  have q2 : (qi : Int) ≤ 4096 := by have := Nat.mod_le x wd; omega
  have HN := Lib.hid hN
  have HJ0 := Lib.hid h0
  have HM := Lib.hid M
  have EI := Lib.hid ei
  have EJ := Lib.hid ej
  clear hN h0 M ei ej
  have hd1 : 1 ≤ n - 1 + 1 := by omega
  refine callsIn_of_wp Tryd.func57 rfl trivial ?_ rfl
  simp only [Tryd.ntmps57, List.size_toArray, List.length_cons, List.length_nil, Nat.reduceAdd, Nat.reduceSub, Array.replicate_succ, Array.replicate_zero, List.push_toArray, List.append_toArray, List.nil_append, List.cons_append]
  obtain ⟨c0, c1, c2, c3, c4⟩ := HN.out.read EI.out EJ.out
  by_cases k1 : 0 < qj
  · have t1 : (0 : Int) < (qj : Int) := by omega
    obtain ⟨fn1, tm1, as1, bo1, hy1, hR1⟩ := HY.out [] ⟨x - wd, HM.out _ (by rw [EL.out]; simp [k1])⟩ ((x : Int) - (wd : Int)) W (by have := G1.out k1; show _ = ((x - wd : Nat) : Int); omega) HJ0.out (by simp)
    gi_wp2
    refine hR1.mono ?_
    rintro e W1 (⟨rfl, hJ1, hk1⟩ | ⟨rfl, hX1⟩)
    · have HN1 := Lib.hid (HN.out.kp hk1)
      have HJ1 := Lib.hid hJ1
      clear hJ1 hk1 hy1 hR1 c0 c1 c2 c3 c4
      obtain ⟨c0, c1, c2, c3, c4⟩ := HN1.out.read EI.out EJ.out
      by_cases k2 : 0 < qi
      · have t2 : (0 : Int) < (qi : Int) := by omega
        obtain ⟨fn2, tm2, as2, bo2, hy2, hR2⟩ := HY.out ([] ++ [⟨x - wd, HM.out _ (by rw [EL.out]; simp [k1])⟩]) ⟨x - 1, HM.out _ (by rw [EL.out]; simp [k2])⟩ ((x : Int) - 1) W1 (by have := G2.out k2; show _ = ((x - 1 : Nat) : Int); omega) HJ1.out (by simp)
        gi_wp2
        refine hR2.mono ?_
        rintro e W2 (⟨rfl, hJ2, hk2⟩ | ⟨rfl, hX2⟩)
        · have HN2 := Lib.hid (HN1.out.kp hk2)
          have HJ2 := Lib.hid hJ2
          clear hJ2 hk2 hy2 hR2 c0 c1 c2 c3 c4
          obtain ⟨c0, c1, c2, c3, c4⟩ := HN2.out.read EI.out EJ.out
          by_cases k3 : qi + 1 < wd
          · have t3 : (qi : Int) < (wd : Int) - 1 := by omega
            obtain ⟨fn3, tm3, as3, bo3, hy3, hR3⟩ := HY.out (([] ++ [⟨x - wd, HM.out _ (by rw [EL.out]; simp [k1])⟩]) ++ [⟨x - 1, HM.out _ (by rw [EL.out]; simp [k2])⟩]) ⟨x + 1, HM.out _ (by rw [EL.out]; simp [k3])⟩ ((x : Int) + 1) W2 (by show _ = ((x + 1 : Nat) : Int); omega) HJ2.out (by simp)
            gi_wp2
            refine hR3.mono ?_
            rintro e W3 (⟨rfl, hJ3, hk3⟩ | ⟨rfl, hX3⟩)
            · have HN3 := Lib.hid (HN2.out.kp hk3)
              have HJ3 := Lib.hid hJ3
              clear hJ3 hk3 hy3 hR3 c0 c1 c2 c3 c4
              obtain ⟨c0, c1, c2, c3, c4⟩ := HN3.out.read EI.out EJ.out
              by_cases k4 : qj + 1 < ht
              · have t4 : (qj : Int) < (ht : Int) - 1 := by omega
                obtain ⟨fn4, tm4, as4, bo4, hy4, hR4⟩ := HY.out ((([] ++ [⟨x - wd, HM.out _ (by rw [EL.out]; simp [k1])⟩]) ++ [⟨x - 1, HM.out _ (by rw [EL.out]; simp [k2])⟩]) ++ [⟨x + 1, HM.out _ (by rw [EL.out]; simp [k3])⟩]) ⟨x + wd, HM.out _ (by rw [EL.out]; simp [k4])⟩ ((x : Int) + (wd : Int)) W3 (by show _ = ((x + wd : Nat) : Int); omega) HJ3.out (by simp)
                gi_wp2
                refine hR4.mono ?_
                rintro e W4 (⟨rfl, hJ4, hk4⟩ | ⟨rfl, hX4⟩)
                · have HN4 := Lib.hid (HN3.out.kp hk4)
                  have HJ4 := Lib.hid hJ4
                  clear hJ4 hk4 hy4 hR4 c0 c1 c2 c3 c4
                  obtain ⟨c0, c1, c2, c3, c4⟩ := HN4.out.read EI.out EJ.out
                  gi_wp2
                  go_end0
                  refine ⟨⟨_, rfl⟩, .inl ⟨(((([] ++ [⟨x - wd, HM.out _ (by rw [EL.out]; simp [k1])⟩]) ++ [⟨x - 1, HM.out _ (by rw [EL.out]; simp [k2])⟩]) ++ [⟨x + 1, HM.out _ (by rw [EL.out]; simp [k3])⟩]) ++ [⟨x + wd, HM.out _ (by rw [EL.out]; simp [k4])⟩]), ?_, HJ4.out⟩⟩
                  refine Eq.trans ?_ EL.out.symm
                  simp [k1, k2, k3, k4]
                · gi_wp2
                  go_end0
                  exact ⟨⟨_, rfl⟩, .inr ⟨_, hX4⟩⟩
              · have t4 : ¬ (qj : Int) < (ht : Int) - 1 := by omega
                gi_wp2
                go_end0
                refine ⟨⟨_, rfl⟩, .inl ⟨((([] ++ [⟨x - wd, HM.out _ (by rw [EL.out]; simp [k1])⟩]) ++ [⟨x - 1, HM.out _ (by rw [EL.out]; simp [k2])⟩]) ++ [⟨x + 1, HM.out _ (by rw [EL.out]; simp [k3])⟩]), ?_, HJ3.out⟩⟩
                refine Eq.trans ?_ EL.out.symm
                simp [k1, k2, k3, k4]
            · gi_wp2
              refine bodyPost_ret (results_none rfl _ _ _) rfl ?_
              exact ⟨⟨_, rfl⟩, .inr ⟨_, hX3⟩⟩
          · have t3 : decide ((qi : Int) < (wd : Int) - 1) = false := by simp; omega
            by_cases k4 : qj + 1 < ht
            · have t4 : (qj : Int) < (ht : Int) - 1 := by omega
              obtain ⟨fn4, tm4, as4, bo4, hy4, hR4⟩ := HY.out (([] ++ [⟨x - wd, HM.out _ (by rw [EL.out]; simp [k1])⟩]) ++ [⟨x - 1, HM.out _ (by rw [EL.out]; simp [k2])⟩]) ⟨x + wd, HM.out _ (by rw [EL.out]; simp [k4])⟩ ((x : Int) + (wd : Int)) W2 (by show _ = ((x + wd : Nat) : Int); omega) HJ2.out (by simp)
              gi_wp2
              repeat (refine ⟨fun _ h => (by cases h), ?_⟩; gi_wp2)
              refine hR4.mono ?_
              rintro e W4 (⟨rfl, hJ4, hk4⟩ | ⟨rfl, hX4⟩)
              · have HN4 := Lib.hid (HN2.out.kp hk4)
                have HJ4 := Lib.hid hJ4
                clear hJ4 hk4 hy4 hR4 c0 c1 c2 c3 c4
                obtain ⟨c0, c1, c2, c3, c4⟩ := HN4.out.read EI.out EJ.out
                gi_wp2
                go_end0
                refine ⟨⟨_, rfl⟩, .inl ⟨((([] ++ [⟨x - wd, HM.out _ (by rw [EL.out]; simp [k1])⟩]) ++ [⟨x - 1, HM.out _ (by rw [EL.out]; simp [k2])⟩]) ++ [⟨x + wd, HM.out _ (by rw [EL.out]; simp [k4])⟩]), ?_, HJ4.out⟩⟩
                refine Eq.trans ?_ EL.out.symm
                simp [k1, k2, k3, k4]
              · gi_wp2
                go_end0
                exact ⟨⟨_, rfl⟩, .inr ⟨_, hX4⟩⟩
            · have t4 : ¬ (qj : Int) < (ht : Int) - 1 := by omega
              gi_wp2
              repeat (refine ⟨fun _ h => (by cases h), ?_⟩; gi_wp2)
              go_end0
              refine ⟨⟨_, rfl⟩, .inl ⟨(([] ++ [⟨x - wd, HM.out _ (by rw [EL.out]; simp [k1])⟩]) ++ [⟨x - 1, HM.out _ (by rw [EL.out]; simp [k2])⟩]), ?_, HJ2.out⟩⟩
              refine Eq.trans ?_ EL.out.symm
              simp [k1, k2, k3, k4]
        · gi_wp2
          refine bodyPost_ret (results_none rfl _ _ _) rfl ?_
          exact ⟨⟨_, rfl⟩, .inr ⟨_, hX2⟩⟩
      · have t2 : decide ((0 : Int) < (qi : Int)) = false := by simp; omega
        by_cases k3 : qi + 1 < wd
        · have t3 : (qi : Int) < (wd : Int) - 1 := by omega
          obtain ⟨fn3, tm3, as3, bo3, hy3, hR3⟩ := HY.out ([] ++ [⟨x - wd, HM.out _ (by rw [EL.out]; simp [k1])⟩]) ⟨x + 1, HM.out _ (by rw [EL.out]; simp [k3])⟩ ((x : Int) + 1) W1 (by show _ = ((x + 1 : Nat) : Int); omega) HJ1.out (by simp)
          gi_wp2
          repeat (refine ⟨fun _ h => (by cases h), ?_⟩; gi_wp2)
          refine hR3.mono ?_
          rintro e W3 (⟨rfl, hJ3, hk3⟩ | ⟨rfl, hX3⟩)
          · have HN3 := Lib.hid (HN1.out.kp hk3)
            have HJ3 := Lib.hid hJ3
            clear hJ3 hk3 hy3 hR3 c0 c1 c2 c3 c4
            obtain ⟨c0, c1, c2, c3, c4⟩ := HN3.out.read EI.out EJ.out
            by_cases k4 : qj + 1 < ht
            · have t4 : (qj : Int) < (ht : Int) - 1 := by omega
              obtain ⟨fn4, tm4, as4, bo4, hy4, hR4⟩ := HY.out (([] ++ [⟨x - wd, HM.out _ (by rw [EL.out]; simp [k1])⟩]) ++ [⟨x + 1, HM.out _ (by rw [EL.out]; simp [k3])⟩]) ⟨x + wd, HM.out _ (by rw [EL.out]; simp [k4])⟩ ((x : Int) + (wd : Int)) W3 (by show _ = ((x + wd : Nat) : Int); omega) HJ3.out (by simp)
              gi_wp2
              refine hR4.mono ?_
              rintro e W4 (⟨rfl, hJ4, hk4⟩ | ⟨rfl, hX4⟩)
              · have HN4 := Lib.hid (HN3.out.kp hk4)
                have HJ4 := Lib.hid hJ4
                clear hJ4 hk4 hy4 hR4 c0 c1 c2 c3 c4
                obtain ⟨c0, c1, c2, c3, c4⟩ := HN4.out.read EI.out EJ.out
                gi_wp2
                go_end0
                refine ⟨⟨_, rfl⟩, .inl ⟨((([] ++ [⟨x - wd, HM.out _ (by rw [EL.out]; simp [k1])⟩]) ++ [⟨x + 1, HM.out _ (by rw [EL.out]; simp [k3])⟩]) ++ [⟨x + wd, HM.out _ (by rw [EL.out]; simp [k4])⟩]), ?_, HJ4.out⟩⟩
                refine Eq.trans ?_ EL.out.symm
                simp [k1, k2, k3, k4]
              · gi_wp2
                go_end0
                exact ⟨⟨_, rfl⟩, .inr ⟨_, hX4⟩⟩
            · have t4 : ¬ (qj : Int) < (ht : Int) - 1 := by omega
              gi_wp2
              go_end0
              refine ⟨⟨_, rfl⟩, .inl ⟨(([] ++ [⟨x - wd, HM.out _ (by rw [EL.out]; simp [k1])⟩]) ++ [⟨x + 1, HM.out _ (by rw [EL.out]; simp [k3])⟩]), ?_, HJ3.out⟩⟩
              refine Eq.trans ?_ EL.out.symm
              simp [k1, k2, k3, k4]
          · gi_wp2
            refine bodyPost_ret (results_none rfl _ _ _) rfl ?_
            exact ⟨⟨_, rfl⟩, .inr ⟨_, hX3⟩⟩
        · have t3 : decide ((qi : Int) < (wd : Int) - 1) = false := by simp; omega
          by_cases k4 : qj + 1 < ht
          · have t4 : (qj : Int) < (ht : Int) - 1 := by omega
            obtain ⟨fn4, tm4, as4, bo4, hy4, hR4⟩ := HY.out ([] ++ [⟨x - wd, HM.out _ (by rw [EL.out]; simp [k1])⟩]) ⟨x + wd, HM.out _ (by rw [EL.out]; simp [k4])⟩ ((x : Int) + (wd : Int)) W1 (by show _ = ((x + wd : Nat) : Int); omega) HJ1.out (by simp)
            gi_wp2
            repeat (refine ⟨fun _ h => (by cases h), ?_⟩; gi_wp2)
            refine hR4.mono ?_
            rintro e W4 (⟨rfl, hJ4, hk4⟩ | ⟨rfl, hX4⟩)
            · have HN4 := Lib.hid (HN1.out.kp hk4)
              have HJ4 := Lib.hid hJ4
              clear hJ4 hk4 hy4 hR4 c0 c1 c2 c3 c4
              obtain ⟨c0, c1, c2, c3, c4⟩ := HN4.out.read EI.out EJ.out
              gi_wp2
              go_end0
              refine ⟨⟨_, rfl⟩, .inl ⟨(([] ++ [⟨x - wd, HM.out _ (by rw [EL.out]; simp [k1])⟩]) ++ [⟨x + wd, HM.out _ (by rw [EL.out]; simp [k4])⟩]), ?_, HJ4.out⟩⟩
              refine Eq.trans ?_ EL.out.symm
              simp [k1, k2, k3, k4]
            · gi_wp2
              go_end0
              exact ⟨⟨_, rfl⟩, .inr ⟨_, hX4⟩⟩
          · have t4 : ¬ (qj : Int) < (ht : Int) - 1 := by omega
            gi_wp2
            repeat (refine ⟨fun _ h => (by cases h), ?_⟩; gi_wp2)
            go_end0
            refine ⟨⟨_, rfl⟩, .inl ⟨([] ++ [⟨x - wd, HM.out _ (by rw [EL.out]; simp [k1])⟩]), ?_, HJ1.out⟩⟩
            refine Eq.trans ?_ EL.out.symm
            simp [k1, k2, k3, k4]
    · gi_wp2
      refine bodyPost_ret (results_none rfl _ _ _) rfl ?_
      exact ⟨⟨_, rfl⟩, .inr ⟨_, hX1⟩⟩
  · have t1 : decide ((0 : Int) < (qj : Int)) = false := by simp; omega
    by_cases k2 : 0 < qi
    · have t2 : (0 : Int) < (qi : Int) := by omega
      obtain ⟨fn2, tm2, as2, bo2, hy2, hR2⟩ := HY.out [] ⟨x - 1, HM.out _ (by rw [EL.out]; simp [k2])⟩ ((x : Int) - 1) W (by have := G2.out k2; show _ = ((x - 1 : Nat) : Int); omega) HJ0.out (by simp)
      gi_wp2
      repeat (refine ⟨fun _ h => (by cases h), ?_⟩; gi_wp2)
      refine hR2.mono ?_
      rintro e W2 (⟨rfl, hJ2, hk2⟩ | ⟨rfl, hX2⟩)
      · have HN2 := Lib.hid (HN.out.kp hk2)
        have HJ2 := Lib.hid hJ2
        clear hJ2 hk2 hy2 hR2 c0 c1 c2 c3 c4
        obtain ⟨c0, c1, c2, c3, c4⟩ := HN2.out.read EI.out EJ.out
        by_cases k3 : qi + 1 < wd
        · have t3 : (qi : Int) < (wd : Int) - 1 := by omega
          obtain ⟨fn3, tm3, as3, bo3, hy3, hR3⟩ := HY.out ([] ++ [⟨x - 1, HM.out _ (by rw [EL.out]; simp [k2])⟩]) ⟨x + 1, HM.out _ (by rw [EL.out]; simp [k3])⟩ ((x : Int) + 1) W2 (by show _ = ((x + 1 : Nat) : Int); omega) HJ2.out (by simp)
          gi_wp2
          refine hR3.mono ?_
          rintro e W3 (⟨rfl, hJ3, hk3⟩ | ⟨rfl, hX3⟩)
          · have HN3 := Lib.hid (HN2.out.kp hk3)
            have HJ3 := Lib.hid hJ3
            clear hJ3 hk3 hy3 hR3 c0 c1 c2 c3 c4
            obtain ⟨c0, c1, c2, c3, c4⟩ := HN3.out.read EI.out EJ.out
            by_cases k4 : qj + 1 < ht
            · have t4 : (qj : Int) < (ht : Int) - 1 := by omega
              obtain ⟨fn4, tm4, as4, bo4, hy4, hR4⟩ := HY.out (([] ++ [⟨x - 1, HM.out _ (by rw [EL.out]; simp [k2])⟩]) ++ [⟨x + 1, HM.out _ (by rw [EL.out]; simp [k3])⟩]) ⟨x + wd, HM.out _ (by rw [EL.out]; simp [k4])⟩ ((x : Int) + (wd : Int)) W3 (by show _ = ((x + wd : Nat) : Int); omega) HJ3.out (by simp)
              gi_wp2
              refine hR4.mono ?_
              rintro e W4 (⟨rfl, hJ4, hk4⟩ | ⟨rfl, hX4⟩)
              · have HN4 := Lib.hid (HN3.out.kp hk4)
                have HJ4 := Lib.hid hJ4
                clear hJ4 hk4 hy4 hR4 c0 c1 c2 c3 c4
                obtain ⟨c0, c1, c2, c3, c4⟩ := HN4.out.read EI.out EJ.out
                gi_wp2
                go_end0
                refine ⟨⟨_, rfl⟩, .inl ⟨((([] ++ [⟨x - 1, HM.out _ (by rw [EL.out]; simp [k2])⟩]) ++ [⟨x + 1, HM.out _ (by rw [EL.out]; simp [k3])⟩]) ++ [⟨x + wd, HM.out _ (by rw [EL.out]; simp [k4])⟩]), ?_, HJ4.out⟩⟩
                refine Eq.trans ?_ EL.out.symm
                simp [k1, k2, k3, k4]
              · gi_wp2
                go_end0
                exact ⟨⟨_, rfl⟩, .inr ⟨_, hX4⟩⟩
            · have t4 : ¬ (qj : Int) < (ht : Int) - 1 := by omega
              gi_wp2
              go_end0
              refine ⟨⟨_, rfl⟩, .inl ⟨(([] ++ [⟨x - 1, HM.out _ (by rw [EL.out]; simp [k2])⟩]) ++ [⟨x + 1, HM.out _ (by rw [EL.out]; simp [k3])⟩]), ?_, HJ3.out⟩⟩
              refine Eq.trans ?_ EL.out.symm
              simp [k1, k2, k3, k4]
          · gi_wp2
            refine bodyPost_ret (results_none rfl _ _ _) rfl ?_
            exact ⟨⟨_, rfl⟩, .inr ⟨_, hX3⟩⟩
        · have t3 : decide ((qi : Int) < (wd : Int) - 1) = false := by simp; omega
          by_cases k4 : qj + 1 < ht
          · have t4 : (qj : Int) < (ht : Int) - 1 := by omega
            obtain ⟨fn4, tm4, as4, bo4, hy4, hR4⟩ := HY.out ([] ++ [⟨x - 1, HM.out _ (by rw [EL.out]; simp [k2])⟩]) ⟨x + wd, HM.out _ (by rw [EL.out]; simp [k4])⟩ ((x : Int) + (wd : Int)) W2 (by show _ = ((x + wd : Nat) : Int); omega) HJ2.out (by simp)
            gi_wp2
            repeat (refine ⟨fun _ h => (by cases h), ?_⟩; gi_wp2)
            refine hR4.mono ?_
            rintro e W4 (⟨rfl, hJ4, hk4⟩ | ⟨rfl, hX4⟩)
            · have HN4 := Lib.hid (HN2.out.kp hk4)
              have HJ4 := Lib.hid hJ4
              clear hJ4 hk4 hy4 hR4 c0 c1 c2 c3 c4
              obtain ⟨c0, c1, c2, c3, c4⟩ := HN4.out.read EI.out EJ.out
              gi_wp2
              go_end0
              refine ⟨⟨_, rfl⟩, .inl ⟨(([] ++ [⟨x - 1, HM.out _ (by rw [EL.out]; simp [k2])⟩]) ++ [⟨x + wd, HM.out _ (by rw [EL.out]; simp [k4])⟩]), ?_, HJ4.out⟩⟩
              refine Eq.trans ?_ EL.out.symm
              simp [k1, k2, k3, k4]
            · gi_wp2
              go_end0
              exact ⟨⟨_, rfl⟩, .inr ⟨_, hX4⟩⟩
          · have t4 : ¬ (qj : Int) < (ht : Int) - 1 := by omega
            gi_wp2
            repeat (refine ⟨fun _ h => (by cases h), ?_⟩; gi_wp2)
            go_end0
            refine ⟨⟨_, rfl⟩, .inl ⟨([] ++ [⟨x - 1, HM.out _ (by rw [EL.out]; simp [k2])⟩]), ?_, HJ2.out⟩⟩
            refine Eq.trans ?_ EL.out.symm
            simp [k1, k2, k3, k4]
      · gi_wp2
        refine bodyPost_ret (results_none rfl _ _ _) rfl ?_
        exact ⟨⟨_, rfl⟩, .inr ⟨_, hX2⟩⟩
    · have t2 : decide ((0 : Int) < (qi : Int)) = false := by simp; omega
      by_cases k3 : qi + 1 < wd
      · have t3 : (qi : Int) < (wd : Int) - 1 := by omega
        obtain ⟨fn3, tm3, as3, bo3, hy3, hR3⟩ := HY.out [] ⟨x + 1, HM.out _ (by rw [EL.out]; simp [k3])⟩ ((x : Int) + 1) W (by show _ = ((x + 1 : Nat) : Int); omega) HJ0.out (by simp)
        gi_wp2
        repeat (refine ⟨fun _ h => (by cases h), ?_⟩; gi_wp2)
        refine hR3.mono ?_
        rintro e W3 (⟨rfl, hJ3, hk3⟩ | ⟨rfl, hX3⟩)
        · have HN3 := Lib.hid (HN.out.kp hk3)
          have HJ3 := Lib.hid hJ3
          clear hJ3 hk3 hy3 hR3 c0 c1 c2 c3 c4
          obtain ⟨c0, c1, c2, c3, c4⟩ := HN3.out.read EI.out EJ.out
          by_cases k4 : qj + 1 < ht
          · have t4 : (qj : Int) < (ht : Int) - 1 := by omega
            obtain ⟨fn4, tm4, as4, bo4, hy4, hR4⟩ := HY.out ([] ++ [⟨x + 1, HM.out _ (by rw [EL.out]; simp [k3])⟩]) ⟨x + wd, HM.out _ (by rw [EL.out]; simp [k4])⟩ ((x : Int) + (wd : Int)) W3 (by show _ = ((x + wd : Nat) : Int); omega) HJ3.out (by simp)
            gi_wp2
            refine hR4.mono ?_
            rintro e W4 (⟨rfl, hJ4, hk4⟩ | ⟨rfl, hX4⟩)
            · have HN4 := Lib.hid (HN3.out.kp hk4)
              have HJ4 := Lib.hid hJ4
              clear hJ4 hk4 hy4 hR4 c0 c1 c2 c3 c4
              obtain ⟨c0, c1, c2, c3, c4⟩ := HN4.out.read EI.out EJ.out
              gi_wp2
              go_end0
              refine ⟨⟨_, rfl⟩, .inl ⟨(([] ++ [⟨x + 1, HM.out _ (by rw [EL.out]; simp [k3])⟩]) ++ [⟨x + wd, HM.out _ (by rw [EL.out]; simp [k4])⟩]), ?_, HJ4.out⟩⟩
              refine Eq.trans ?_ EL.out.symm
              simp [k1, k2, k3, k4]
            · gi_wp2
              go_end0
              exact ⟨⟨_, rfl⟩, .inr ⟨_, hX4⟩⟩
          · have t4 : ¬ (qj : Int) < (ht : Int) - 1 := by omega
            gi_wp2
            go_end0
            refine ⟨⟨_, rfl⟩, .inl ⟨([] ++ [⟨x + 1, HM.out _ (by rw [EL.out]; simp [k3])⟩]), ?_, HJ3.out⟩⟩
            refine Eq.trans ?_ EL.out.symm
            simp [k1, k2, k3, k4]
        · gi_wp2
          refine bodyPost_ret (results_none rfl _ _ _) rfl ?_
          exact ⟨⟨_, rfl⟩, .inr ⟨_, hX3⟩⟩
      · have t3 : decide ((qi : Int) < (wd : Int) - 1) = false := by simp; omega
        by_cases k4 : qj + 1 < ht
        · have t4 : (qj : Int) < (ht : Int) - 1 := by omega
          obtain ⟨fn4, tm4, as4, bo4, hy4, hR4⟩ := HY.out [] ⟨x + wd, HM.out _ (by rw [EL.out]; simp [k4])⟩ ((x : Int) + (wd : Int)) W (by show _ = ((x + wd : Nat) : Int); omega) HJ0.out (by simp)
          gi_wp2
          repeat (refine ⟨fun _ h => (by cases h), ?_⟩; gi_wp2)
          refine hR4.mono ?_
          rintro e W4 (⟨rfl, hJ4, hk4⟩ | ⟨rfl, hX4⟩)
          · have HN4 := Lib.hid (HN.out.kp hk4)
            have HJ4 := Lib.hid hJ4
            clear hJ4 hk4 hy4 hR4 c0 c1 c2 c3 c4
            obtain ⟨c0, c1, c2, c3, c4⟩ := HN4.out.read EI.out EJ.out
            gi_wp2
            go_end0
            refine ⟨⟨_, rfl⟩, .inl ⟨([] ++ [⟨x + wd, HM.out _ (by rw [EL.out]; simp [k4])⟩]), ?_, HJ4.out⟩⟩
            refine Eq.trans ?_ EL.out.symm
            simp [k1, k2, k3, k4]
          · gi_wp2
            go_end0
            exact ⟨⟨_, rfl⟩, .inr ⟨_, hX4⟩⟩
        · have t4 : ¬ (qj : Int) < (ht : Int) - 1 := by omega
          gi_wp2
          repeat (refine ⟨fun _ h => (by cases h), ?_⟩; gi_wp2)
          go_end0
          refine ⟨⟨_, rfl⟩, .inl ⟨[], ?_, HJ0.out⟩⟩
          refine Eq.trans ?_ EL.out.symm
          simp [k1, k2, k3, k4]

end Go.Proofs.YtcipedijjemghaaDoor
