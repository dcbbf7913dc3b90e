/- Contracts of the reference: Check. -/
import Derived.Test.YtpgifcgidelmaaaKd5
import Derived.Lib.QuietBelow
namespace Go.Proofs.Ytpgifcgidelmaaa
open Go.RowKit Go.Sort
set_option linter.unusedVariables false

theorem calls_re {f : FuncId} {args : Array Value} {V : World} {v : Value} (h : ∀ u, Calls Try.prog f args u (Ret v u)) : ∀ d os, Calls Try.prog f args (grow (redrawn V d) os) fun e w'' => e = .returned v ∧ ∃ p : Regrown, w'' = grow (redrawn V p.d) p.os :=
  fun d os => Calls.regrown_of (h _)
/-- A load of a whole struct in a region that is walked once. -/
theorem quiet_load {C : World → Prop} {K : Act → Prop} {a : Act} {o : Oper} {ty : TypeId} {x : Operand} {ad : Addr} {v : Value} (hl : ∀ w, C w → (loadVar ty ad).run Try.prog w = .ok v w) (ho : o.op = .load ty x) (hx : a.eval x = .pointer (some ad)) (hk : K (a.put o.dst v)) : o.quiet Try.prog a C K := by
  refine ⟨v, fun w hw => ?_, hk⟩
  unfold Oper.quietAt execOp
  simp only [ho, hx, Instr.loadAt, Instr.sureAddr, Sem.run_bind, Sem.run_pure, Result.andThen_ok, hl w hw]
  exact ⟨rfl, rfl⟩
theorem wpQuiet_load {ops : Array Oper} {C : World → Prop} {Q : Act → Prop} {a : Act} {o : Oper} {rest : List Oper} {ty : TypeId} {x : Operand} {ad : Addr} {v : Value} (hl : ∀ w, C w → (loadVar ty ad).run Try.prog w = .ok v w) (hw : Region.wanted o (yielded ops a.tmps) = true) (ho : o.op = .load ty x) (hx : a.eval x = .pointer (some ad))
    (h : wpQuiet Try.prog ops C Q rest (a.put o.dst v)) : wpQuiet Try.prog ops C Q (o :: rest) a :=
  BigFrame.wpQuiet_want hw fun K hK => quiet_load hl ho hx (hK _ h)
theorem Kn.re {V : World} {A : Option Addr} {n k : Nat} {K : Nat → Nat → Int} (h : Kn V A n K) (hk : k < n) : ∃ g o p, A = some ⟨g, o, none⟩ ∧ o + k * 20 = p ∧ ∀ w', (∃ q : Regrown, w' = grow (redrawn V q.d) q.os) → (loadVar 46 ⟨g, p, none⟩).run Try.prog w' = .ok (.agg (kcs (K k))) w' := by
  obtain ⟨g, o, e, hg, hc⟩ := h (by omega)
  refine ⟨g, o, _, e, rfl, ?_⟩
  rintro w' ⟨q, rfl⟩
  exact loadVar_kindAt (fun j hj => kc (below_regrown V q.d q.os) (hc k hk j hj))
theorem Wn.re {V : World} {A : Option Addr} {n k : Nat} {U : Nat → Nat → Int} {F : Nat → Bool} (h : Wn V A n U F) (hk : k < n) : ∃ g o p, A = some ⟨g, o, none⟩ ∧ o + k * 6 = p ∧ ∀ w', (∃ q : Regrown, w' = grow (redrawn V q.d) q.os) → (loadVar 51 ⟨g, p, none⟩).run Try.prog w' = .ok (.agg (wcs (U k) (F k))) w' := by
  obtain ⟨g, o, e, hg, hc⟩ := h (by omega)
  refine ⟨g, o, _, e, rfl, ?_⟩
  rintro w' ⟨q, rfl⟩
  exact loadVar_weaponAt (fun j hj => kc (below_regrown V q.d q.os) ((hc k hk).1 j hj)) (kc (below_regrown V q.d q.os) (hc k hk).2)

set_option maxRecDepth 100000 in
set_option maxHeartbeats 4000000 in
theorem refCheck_any (n m c c2 : Nat) (A A2 : Option Addr) (K U : Nat → Nat → Int) (F : Nat → Bool) (e a : Int) (w : World) (h : Chk n m K U e a) (hn : n ≤ maxLen) (hm : m ≤ maxLen) (hK : Kn w A n K) (hW : Wn w A2 m U F) :
    Calls Try.prog 12 #[.agg #[.slice A n c, .slice A2 m c2]] w (Ret (.tuple #[.int .i64 e, .int .i64 a]) w) := by
  unfold maxLen at hn hm
  have X := Lib.hid (Kx.new w 26 #[.slice A n c, .slice A2 m c2])
  have HK := Lib.hid hK
  have HW := Lib.hid hW
  clear hK hW
  by_cases hc : n < 1 ∨ 16 < n ∨ 16 < m
  · have HA : Hid (e = 1 ∧ a = -1) := by
      show _ ∧ _
      cases h with
      | count _ => exact ⟨rfl, rfl⟩
      | kind i h1 h2 => omega
      | weapon i h1 h2 => omega
      | fine h1 h2 => omega
    clear h
    have hc' : ((n : Int) < 1) ∨ (¬ (n : Int) < 1 ∧ decide (16 < (n : Int)) = true) ∨ (¬ (n : Int) < 1 ∧ decide (16 < (n : Int)) = false ∧ decide (16 < (m : Int)) = true) := by simp; omega
    clear hc
    rcases hc' with h1 | ⟨h1, h2⟩ | ⟨h1, h2, h3⟩
    all_goals
      go_enter Try.func12, Try.ntmps12
      go_wp2
      go_ret2
      exact Ret.mk (two_eq HA.out.1.symm HA.out.2.symm) X.out.below
  · have n1 : ¬ (n : Int) < 1 := by omega
    have n2 : decide (16 < (n : Int)) = false := by simp; omega
    have m2 : decide (16 < (m : Int)) = false := by simp; omega
    have l1 : n ≤ 16 := by omega
    have l2 : m ≤ 16 := by omega
    have H1 : Hid ((∃ i, i < n ∧ (∀ j, j < i → okK (K j) m = true) ∧ okK (K i) m = false ∧ e = 1 ∧ a = i) ∨ ((∀ j, j < n → okK (K j) m = true) ∧ ((∃ i, i < m ∧ (∀ j, j < i → okW (U j) = true) ∧ okW (U i) = false ∧ e = 1 ∧ a = n + i) ∨ ((∀ j, j < m → okW (U j) = true) ∧ e = 0 ∧ a = 0)))) := by
      cases h with
      | count q => omega
      | kind i h1 h2 h3 h4 h5 h6 => exact .inl ⟨i, h4, h5, h6, rfl, rfl⟩
      | weapon i h1 h2 h3 h4 h5 h6 h7 => exact .inr ⟨h4, .inl ⟨i, h5, h6, h7, rfl, rfl⟩⟩
      | fine h1 h2 h3 h4 h5 => exact .inr ⟨h4, .inr ⟨h5, rfl, rfl⟩⟩
    clear h hc
    go_enter Try.func12, Try.ntmps12
    go_wp2
    clear n1 n2 m2
    go_loopw [4] (fun i wr => ∃ k : Nat, k ≤ n ∧ i = .int .i64 (k : Int) ∧ Hid (∀ j, j < k → okK (K j) m = true) ∧ Hid (Kx w w.heap.size wr 26 #[.slice A n c, .slice A2 m c2])) (fun i _ => n - (intOf i).toNat)
    case atStart => exact ⟨0, by omega, rfl, fun j hj => absurd hj (Nat.not_lt_zero _), X.out⟩
    case round =>
      obtain ⟨k, hk, rfl, hA, hX⟩ := hrel
      clear X
      have d0 := hX.out.cell 0 (v := .slice A n c) rfl
      by_cases hlt : k < n
      · have hlt' : (k : Int) < (n : Int) := by omega
        obtain ⟨g, o, p, rfl, hp, hc⟩ := (HK.out.keep hX.out.below).re hlt
        have HL := Lib.hid hc
        clear hc
        obtain ⟨q, hq⟩ : ∃ q, okK (K k) (m : Int) = q := ⟨_, rfl⟩
        have HQ := Lib.hid hq
        have KC := Lib.hid (calls_re (V := wr) (f := 22) (args := #[.agg (kcs (K k)), .int .i64 (m : Int)]) (v := .bool q) (fun u => by rw [← HQ.out]; exact refKind_any (K k) (m : Int) u (by omega) (by omega)))
        clear hq
        go_wp2
        have z0 := cell_regrown d0
        have z1 := cell_regrown (hX.out.cell 1 (v := .slice A2 m c2) rfl)
        clear d0
        refine wp_region_quiet_below (by kernel_rfl) (by kernel_rfl) ?_
        repeat (first | (go_big_quiet_want; refine quiet_load HL.out rfl rfl ?_; simp only [Act.put, List.setIfInBounds_toArray, List.set_cons_zero, List.set_cons_succ]; go_big_quiet_on) | (go_big_quiet_step (with_reducible exact KC.out _ _)))
        refine wpQuiet_nil ?_
        intro _ hw'
        obtain ⟨⟨dq, osq⟩, hw''⟩ := hw'
        subst hw''
        have X3 := Lib.hid (hX.out.keep (below_regrown wr dq osq))
        clear hX hp HL KC z0 z1
        generalize grow (redrawn wr dq) osq = w3 at *
        cases q
        case false =>
          have HF : Hid (e = 1 ∧ a = k) := by
            rcases H1.out with ⟨i, h1, h2, h3, h4, h5⟩ | ⟨h1, _⟩
            · have hik : i = k := by
                rcases Nat.lt_trichotomy i k with q | q | q
                · have := hA i q; rw [h3] at this; cases this
                · exact q
                · have := h2 k q; rw [HQ.out] at this; cases this
              subst hik
              exact ⟨h4, h5⟩
            · have := h1 k hlt; rw [HQ.out] at this; cases this
          clear H1 hA
          go_wp2
          go_ret2
          exact Ret.mk (two_eq HF.out.1.symm HF.out.2.symm) X3.out.below
        case true =>
          have HA2 : Hid (∀ j, j < k + 1 → okK (K j) m = true) := by
            intro j hj
            by_cases q : j = k
            · rw [q]; exact HQ.out
            · exact hA j (by omega)
          clear hA
          go_wp2
          go_roundw
          case rel => exact ⟨k + 1, by omega, by go_num, HA2, X3⟩
          case measure => simp [intOf]; omega
      · have hkn : k = n := by omega
        have HA2 : Hid (∀ j, j < n → okK (K j) m = true) := by rw [← hkn]; exact hA
        have hge : ¬ (k : Int) < (n : Int) := by omega
        clear hA hkn
        have H2 : Hid ((∃ i, i < m ∧ (∀ j, j < i → okW (U j) = true) ∧ okW (U i) = false ∧ e = 1 ∧ a = n + i) ∨ ((∀ j, j < m → okW (U j) = true) ∧ e = 0 ∧ a = 0)) := by
          rcases H1.out with ⟨i, h1, h2, h3, h4, h5⟩ | ⟨_, q⟩
          · have := HA2.out i h1; rw [h3] at this; cases this
          · exact q
        clear H1 HA2 HK
        go_wp2
        clear d0
        rename World => W1
        go_loopw [5] (fun i wr => ∃ k : Nat, k ≤ m ∧ i = .int .i64 (k : Int) ∧ Hid (∀ j, j < k → okW (U j) = true) ∧ Hid (Kx w w.heap.size wr 26 #[.slice A n c, .slice A2 m c2])) (fun i _ => m - (intOf i).toNat)
        case atStart => exact ⟨0, by omega, rfl, fun j hj => absurd hj (Nat.not_lt_zero _), hX⟩
        case round =>
          obtain ⟨i, hi, rfl, hA, hX2⟩ := hrel
          clear hX
          have d1 := hX2.out.cell 1 (v := .slice A2 m c2) rfl
          by_cases hlt : i < m
          · have hlt' : (i : Int) < (m : Int) := by omega
            obtain ⟨g, o, p, rfl, hp, hc⟩ := (HW.out.keep hX2.out.below).one hlt
            have HL := Lib.hid hc
            clear hc
            obtain ⟨q, hq⟩ : ∃ q, okW (U i) = q := ⟨_, rfl⟩
            have HQ := Lib.hid hq
            have HM := Lib.hid (refWeapon_any (U i) (F i))
            clear hq
            go_wp2_with (refine wpList_load_at HL.out rfl rfl rfl ?_)
            refine (HM.out _).mono ?_
            rintro e' w3 ⟨rfl, b1⟩
            rw [HQ.out]
            have X3 := Lib.hid (hX2.out.keep b1)
            clear b1 hX2 hp HL HM d1
            have d0 := X3.out.cell 0 (v := .slice A n c) rfl
            cases q
            case false =>
              have HF : Hid (e = 1 ∧ a = n + i) := by
                rcases H2.out with ⟨i2, h1, h2, h3, h4, h5⟩ | ⟨h1, _⟩
                · have hik : i2 = i := by
                    rcases Nat.lt_trichotomy i2 i with q | q | q
                    · have := hA i2 q; rw [h3] at this; cases this
                    · exact q
                    · have := h2 i q; rw [HQ.out] at this; cases this
                  subst hik
                  exact ⟨h4, h5⟩
                · have := h1 i hlt; rw [HQ.out] at this; cases this
              clear H2 hA
              go_wp2
              go_quiet (fail)
              go_wp2
              go_ret2
              exact Ret.mk (two_eq HF.out.1.symm HF.out.2.symm) (X3.out.drewN _).below
            case true =>
              have HA2 : Hid (∀ j, j < i + 1 → okW (U j) = true) := by
                intro j hj
                by_cases q : j = i
                · rw [q]; exact HQ.out
                · exact hA j (by omega)
              clear hA
              go_wp2
              go_roundw
              case rel => exact ⟨i + 1, by omega, by go_num, HA2, X3⟩
              case measure => simp [intOf]; omega
          · have him : i = m := by omega
            have HF : Hid (e = 0 ∧ a = 0) := by
              rcases H2.out with ⟨i2, h1, h2, h3, h4, h5⟩ | ⟨_, q⟩
              · have := hA i2 (by omega); rw [h3] at this; cases this
              · exact q
            have hge2 : ¬ (i : Int) < (m : Int) := by omega
            clear hA him H2
            go_wp2
            go_ret2
            exact Ret.mk (two_eq HF.out.1.symm HF.out.2.symm) hX2.out.below
end Go.Proofs.Ytpgifcgidelmaaa
