/- Contracts of the reference's answers: Within, Nearest; same. -/
import Derived.Test.YtkghjaodnkjmoaaNr17
namespace Go.Proofs.Ytkghjaodnkjmoaa
open Go.RowKit Go.Sort Go.Shelf
set_option linter.unusedVariables false

section
variable (X Y : Nat → Int)
/-- Of the first k those within r, as numbers. -/
def wins (k : Nat) (x y r : Int) : List Int := (win X Y k x y r).map fun i : Nat => (i : Int)
theorem wins_succ (k : Nat) (x y r : Int) : wins X Y (k + 1) x y r = wins X Y k x y r ++ if dst X Y x y k ≤ r * r then [(k : Int)] else [] := by
  unfold wins win
  rw [List.range_succ, List.filter_append, List.map_append]
  congr 1
  by_cases h : dst X Y x y k ≤ r * r <;> simp [okd, h]
theorem wins_wsel (n : Nat) (x y r : Int) : wsel X Y n x y r 0 = wins X Y n x y r := by
  unfold wsel sel wins
  rw [List.filter_eq_self.2 (fun i _ => by simp)]
theorem wins_len (k : Nat) (x y r : Int) : (wins X Y k x y r).length ≤ k := by
  unfold wins
  rw [List.length_map]
  exact win_len X Y k x y r

/-- Numbers come back. -/
def RetLs (l : List Int) (w : World) (e : Ending) (w' : World) : Prop :=
  ∃ A k, e = .returned (.slice A l.length k) ∧ l.length ≤ k ∧ k ≤ maxLen ∧ Is w' A l.length (fun i => l.getD i 0) ∧ Below w.heap.size w w'
set_option maxHeartbeats 2000000 in
theorem refWithin_any (A : Option Addr) (n c : Nat) (x y r : Int) (w : World) (hP : Ps X Y w A n) (hO : oks X Y n) (hn : n ≤ 258) (hx : 0 ≤ x ∧ x ≤ 67108864) (hy : 0 ≤ y ∧ y ≤ 67108864) (hr : 0 ≤ r ∧ r ≤ 67108864) :
    Calls Try.prog 13 #[.slice A n c, .int .i64 x, .int .i64 y, .int .i64 r] w (RetLs (wins X Y n x y r) w) := by
  have HP := Lib.hid hP
  obtain ⟨rr, hr2⟩ : ∃ z, r * r = z := ⟨_, rfl⟩
  have hrr : wrap64 (r * r) = rr := by
    obtain ⟨a1, a2⟩ := mul_bound (a := r) (b := 67108864) (by omega) (by omega)
    rw [← hr2]
    exact IntWalk.wrap64_in _ (by omega)
  have HF := Lib.hid (fun k (hk : k < n) u => far_any (X k) (Y k) x y u (sp_iff.1 (hO k hk).1) (sp_iff.1 (hO k hk).2) hx hy)
  have hl1 : ∀ k, (wins X Y k x y r).length ≤ k := fun k => wins_len X Y k x y r
  have HW := Lib.hid (wins_succ X Y · x y r)
  have HL := Lib.hid hl1
  rw [hr2] at HW
  clear hP hO hx hy hr hl1 hr2
  go_enter Try.func13, Try.ntmps13
  go_wp2
  go_loopw [9, 10] (fun v i wr => ∃ k : Nat, k ≤ n ∧ i = .int .i64 (k : Int) ∧ Hid (Rn wr w.heap.size v (wins X Y k x y r)) ∧ Hid (Below w.heap.size w wr)) (fun _ i _ => n - (intOf i).toNat)
  case atStart => exact ⟨0, by omega, rfl, Rn.nil _ _, Below.refl _ _⟩
  case round =>
    obtain ⟨k, hk, rfl, hR, hB⟩ := hrel
    by_cases hkn : k < n
    · have hkI : (k : Int) < (n : Int) := by omega
      obtain ⟨g, o, rfl, c0, c1⟩ := HP.out.at X Y hB.out hkn
      have HFk := Lib.hid (HF.out k hkn wr)
      have HWk := Lib.hid (HW.out k)
      have HLk : Hid ((wins X Y k x y r).length ≤ 1000000) := by have := HL.out k; show _ ≤ _; omega
      generalize wins X Y k x y r = l at *
      generalize hxk : X k = xk at *
      generalize hyk : Y k = yk at *
      have HD : Hid (dst X Y x y k = sqd xk yk x y) := by show _ = _; rw [← hxk, ← hyk]; rfl
      rw [HD.out] at HWk
      generalize sqd xk yk x y = d at *
      clear hxk hyk HD
      by_cases hd : d ≤ rr
      · rw [if_pos hd] at HWk
        go_wp2_with fail
        refine HFk.out.mono ?_
        rintro e w1 ⟨rfl, b1⟩
        have R1 := Lib.hid (hR.out.keep b1)
        have B1 : Hid (Below w.heap.size w w1) := hB.out.trans (b1.mono hB.out.size)
        have HS1 : Hid (w.heap.size ≤ w1.heap.size) := B1.out.size
        clear b1 hR hB c0 c1 HFk
        go_wp2_with (at_builtin; refine append_int rfl (.tmp 28) (.tmp 30) rfl w.heap.size l (k : Int) _ w1 rfl R1.out rfl HLk.out HS1.out ?_; intro v2 w5 hr5 hE5; (have HN := Lib.hid hr5); (have HB5 : Hid (Below w.heap.size w w5) := B1.out.grown hE5.grown B1.out.size (fun r er => (R1.out.lt r er).1)); clear hr5 hE5)
        go_roundw
        case rel => exact ⟨k + 1, by omega, by go_num, by rw [HWk.out]; exact HN, HB5⟩
        case measure => simp [intOf]; omega
      · rw [if_neg hd, List.append_nil] at HWk
        go_wp2_with fail
        refine HFk.out.mono ?_
        rintro e w1 ⟨rfl, b1⟩
        have R1 := Lib.hid (hR.out.keep b1)
        have B1 : Hid (Below w.heap.size w w1) := hB.out.trans (b1.mono hB.out.size)
        clear b1 hR hB c0 c1 HFk
        go_wp2
        go_roundw
        case rel => exact ⟨k + 1, by omega, by go_num, by rw [HWk.out]; exact R1, B1⟩
        case measure => simp [intOf]; omega
    · obtain rfl : k = n := by omega
      have hkI : ¬ (k : Int) < (k : Int) := by omega
      obtain ⟨A', c', rfl, r1, r2, r3⟩ := hR.out.is
      have HR : Hid (∀ v, v = .slice A' (wins X Y k x y r).length c' → RetLs (wins X Y k x y r) w (.returned v) wr) := fun v e => ⟨A', c', by rw [e], r1, r2, r3, hB.out⟩
      clear r1 r2 r3 hR hB
      generalize wins X Y k x y r = l at *
      generalize l.length = L at *
      go_wp2
      go_ret
      exact HR.out _ rfl

set_option maxHeartbeats 2000000 in
theorem refNearest_any (A : Option Addr) (n c m : Nat) (x y : Int) (w : World) (hP : Ps X Y w A n) (hO : oks X Y n) (hn : n ≤ 258) (hx : 0 ≤ x ∧ x ≤ 67108864) (hy : 0 ≤ y ∧ y ≤ 67108864) (hM : Mn X Y x y (List.range n) m) :
    Calls Try.prog 15 #[.slice A n c, .int .i64 x, .int .i64 y] w (Ret (.int .i64 (m : Int)) w) := by
  have HP := Lib.hid hP
  have HM : Hid (m < n ∧ ∀ e, e < n → dst X Y x y m < dst X Y x y e ∨ (dst X Y x y m = dst X Y x y e ∧ m ≤ e)) := by
    refine ⟨by simpa using hM.1, fun e he => ?_⟩
    rcases hM.2 e (by simpa using he) with h | h
    · subst h; exact .inr ⟨rfl, Nat.le_refl _⟩
    · unfold nlt at h
      rcases h with h | h
      · exact .inl h
      · exact .inr ⟨h.1, by omega⟩
  have HF := Lib.hid (fun k (hk : k < n) u => far_any (X k) (Y k) x y u (sp_iff.1 (hO k hk).1) (sp_iff.1 (hO k hk).2) hx hy)
  clear hP hO hx hy hM
  go_enter Try.func15, Try.ntmps15
  go_wp2
  go_loopw [7] (fun i wr => ∃ k : Nat, k ≤ n ∧ i = .int .i64 (k : Int) ∧ Hid (∀ j, j < k → ∃ e, e < n ∧ dst X Y x y e < dst X Y x y j) ∧ Hid (Below w.heap.size w wr)) (fun i _ => n - (intOf i).toNat)
  case atStart => exact ⟨0, by omega, rfl, fun j hj => absurd hj (by omega), Below.refl _ _⟩
  case round =>
    obtain ⟨i, hi, rfl, hA, hB⟩ := hrel
    by_cases hin : i < n
    · have hiI : (i : Int) < (n : Int) := by omega
      go_wp2
      generalize wr = W0 at *
      go_loopw [8, 9] (fun v s wi => ∃ (k q : Nat), k ≤ n ∧ q ≤ k ∧ s = .int .i64 (k : Int) ∧ v = .int .i64 (q : Int) ∧ Hid (q = 0 ↔ ∀ e, e < k → dst X Y x y i ≤ dst X Y x y e) ∧ Hid (Below w.heap.size w wi)) (fun _ s _ => n - (intOf s).toNat)
      case atStart => exact ⟨0, 0, by omega, by omega, rfl, rfl, ⟨fun _ e he => absurd he (by omega), fun _ => rfl⟩, hB.out⟩
      case round =>
        obtain ⟨k, q, hk, hqk, rfl, rfl, hQ, hB1⟩ := hrel
        by_cases hkn : k < n
        · have hkI : (k : Int) < (n : Int) := by omega
          obtain ⟨g, o, rfl, c0, c1⟩ := HP.out.at X Y hB1.out hkn
          obtain ⟨g', o', e', d0, d1⟩ := HP.out.at X Y hB1.out hin
          injection e' with e'
          injection e' with e1 e2 e3
          subst e1 e2
          clear e3
          have z0 := cell_regrown c0
          have z1 := cell_regrown c1
          have z2 := cell_regrown d0
          have z3 := cell_regrown d1
          have F1 := Lib.hid (calls_re (V := wr) (HF.out k hkn))
          have F2 := Lib.hid (calls_re (V := wr) (HF.out i hin))
          have HQ1 : Hid ((if sqd (X k) (Y k) x y < sqd (X i) (Y i) x y then q + 1 else q) = 0 ↔ ∀ e, e < k + 1 → dst X Y x y i ≤ dst X Y x y e) := by
            have hs : ∀ j, sqd (X j) (Y j) x y = dst X Y x y j := fun j => rfl
            rw [hs, hs]
            split
            · rename_i hlt
              exact ⟨fun h => by omega, fun h => absurd hlt (Int.not_lt.2 (h k (by omega)))⟩
            · rename_i hlt
              rw [hQ.out]
              exact ⟨fun h e he => by
                rcases Nat.lt_or_ge e k with h' | h'
                · exact h e h'
                · obtain rfl : e = k := by omega
                  exact Int.not_lt.1 hlt, fun h e he => h e (by omega)⟩
          clear c0 c1 d0 d1 hQ
          go_wp2
          generalize X k = xk at *
          generalize Y k = yk at *
          generalize X i = xi at *
          generalize Y i = yi at *
          refine wp_region_quiet_below (by kernel_rfl) (by kernel_rfl) ?_
          repeat (go_big_quiet_step (with_reducible first | exact F1.out _ _ | exact F2.out _ _))
          refine wpQuiet_nil ?_
          intro _ hw'
          obtain ⟨⟨dq, osq⟩, hw''⟩ := hw'
          subst hw''
          have B2 : Hid (Below w.heap.size w (grow (redrawn wr dq) osq)) := hB1.out.trans ((below_regrown wr dq osq).mono hB1.out.size)
          clear hB1 F1 F2 z0 z1 z2 z3
          generalize grow (redrawn wr dq) osq = w3 at *
          generalize sqd xk yk x y = da at *
          generalize sqd xi yi x y = db at *
          by_cases hlt : da < db
          · rw [if_pos hlt] at HQ1
            have hlt' : decide (da < db) = true := by simp [hlt]
            go_wp2
            go_roundw
            case rel => exact ⟨k + 1, q + 1, by omega, by omega, by go_num, by go_num, HQ1, B2⟩
            case measure => simp [intOf]; omega
          · rw [if_neg hlt] at HQ1
            have hlt' : decide (da < db) = false := by simp [hlt]
            go_wp2
            go_roundw
            case rel => exact ⟨k + 1, q, by omega, by omega, by go_num, rfl, HQ1, B2⟩
            case measure => simp [intOf]; omega
        · obtain rfl : k = n := by omega
          have hkI : ¬ (k : Int) < (k : Int) := by omega
          by_cases hq : q = 0
          · subst hq
            have HE : Hid (i = m) := by
              have h0 := hQ.out.1 rfl
              obtain ⟨m1, m2⟩ := HM.out
              show _ = _
              have h1 := h0 m m1
              rcases Nat.lt_trichotomy i m with h | h | h
              · rcases m2 i hin with h2 | h2
                · exact absurd h2 (Int.not_lt.2 h1)
                · omega
              · exact h
              · obtain ⟨e, he, hlt⟩ := hA.out m h
                rcases m2 e he with h2 | h2 <;> omega
            clear hQ hA
            go_wp2
            go_ret
            exact Ret.mk (by rw [← HE.out]; rfl) hB1.out
          · have hqI : ¬ (q : Int) = 0 := by omega
            have HA2 : Hid (∀ j, j < i + 1 → ∃ e, e < k ∧ dst X Y x y e < dst X Y x y j) := by
              intro j hj
              rcases Nat.lt_or_ge j i with h | h
              · exact hA.out j h
              · obtain rfl : j = i := by omega
                apply Classical.byContradiction
                intro hno
                exact hq (hQ.out.2 fun e he => Int.not_lt.1 fun hlt => hno ⟨e, he, hlt⟩)
            clear hQ hA
            go_wp2
            go_roundw
            case rel => exact ⟨i + 1, by omega, by go_num, HA2, hB1⟩
            case measure => simp [intOf]; omega
    · obtain rfl : i = n := by omega
      obtain ⟨m1, m2⟩ := HM.out
      obtain ⟨e, he, hlt⟩ := hA.out m m1
      exact absurd hlt (by rcases m2 e he with h | h <;> omega)
end
end Go.Proofs.Ytkghjaodnkjmoaa
