/- The reference's Same. -/
import Derived.Test.YtpgifcgidelmaaaKs1
import Derived.Deep.DeepCutAuto
namespace Go.Proofs.Ytpgifcgidelmaaa
open Go.RowKit Go.Sort
set_option linter.unusedVariables false

theorem guard_kind : Try.prog.eqGuardType Try.prog.depth 46 = false := by kernel_rfl
theorem guard_weapon : Try.prog.eqGuardType Try.prog.depth 51 = false := by kernel_rfl
theorem guard_ok {ty : TypeId} (hg : Try.prog.eqGuardType Try.prog.depth ty = false) (x y : Operand) (u v : Array Value) (w : World) : (eqGuard .neq ty x y (.agg u) (.agg v)).run Try.prog w = .ok () w := by
  unfold eqGuard
  simp [run_program, hg]
theorem quiet_neq {C : World → Prop} {K : Act → Prop} {a : Act} {o : Oper} {ty tr : TypeId} {x y : Operand} {u v : Array Value} {r : Value} (hg : Try.prog.eqGuardType Try.prog.depth ty = false) (hl : ∀ w, (binOp .neq ty (.agg u) (.agg v)).run Try.prog w = .ok r w) (ho : o.op = .binOp .neq ty x y tr) (hx : a.eval x = .agg u) (hy : a.eval y = .agg v) (hk : K (a.put o.dst r)) : o.quiet Try.prog a C K := by
  refine ⟨r, fun w hw => ?_, hk⟩
  unfold Oper.quietAt execOp
  simp only [ho, hx, hy, Sem.run_bind, guard_ok hg, hl, Result.andThen_ok, Sem.run_pure]
  exact ⟨rfl, rfl⟩
theorem Kn.dn {V : World} {A : Option Addr} {n k : Nat} {K : Nat → Nat → Int} (h : Kn V A n K) (hk : k < n) : ∃ g o p, A = some ⟨g, o, none⟩ ∧ o + k * 20 = p ∧ ∀ w', (∃ q, w' = V.drewN q) → (loadVar 46 ⟨g, p, none⟩).run Try.prog w' = .ok (.agg (kcs (K k))) w' := by
  obtain ⟨g, o, e, hg, hc⟩ := h (by omega)
  refine ⟨g, o, _, e, rfl, ?_⟩
  rintro w' ⟨q, rfl⟩
  exact loadVar_kindAt (fun j hj => hc k hk j hj)
theorem Wn.dn {V : World} {A : Option Addr} {n k : Nat} {U : Nat → Nat → Int} {F : Nat → Bool} (h : Wn V A n U F) (hk : k < n) : ∃ g o p, A = some ⟨g, o, none⟩ ∧ o + k * 6 = p ∧ ∀ w', (∃ q, w' = V.drewN q) → (loadVar 51 ⟨g, p, none⟩).run Try.prog w' = .ok (.agg (wcs (U k) (F k))) w' := by
  obtain ⟨g, o, e, hg, hc⟩ := h (by omega)
  refine ⟨g, o, _, e, rfl, ?_⟩
  rintro w' ⟨q, rfl⟩
  exact loadVar_weaponAt (fun j hj => (hc k hk).1 j hj) (hc k hk).2

set_option maxRecDepth 100000 in
set_option maxHeartbeats 4000000 in
theorem same_yes (n m c d c' d' : Nat) (A B A' B' : Option Addr) (K U : Nat → Nat → Int) (F : Nat → Bool) (w : World) (hn : n ≤ maxLen) (hm : m ≤ maxLen) (hK : Kn w A n K) (hW : Wn w B m U F) (hK' : Kn w A' n K) (hW' : Wn w B' m U F) :
    Calls Try.prog 17 #[.agg #[.slice A n c, .slice B m d], .agg #[.slice A' n c', .slice B' m d']] w (Ret (.bool true) w) := by
  unfold maxLen at hn hm
  have X := Lib.hid ((Kx.new w 26 #[.slice A n c, .slice B m d]).alloc (.cells #[.slice A' n c', .slice B' m d'] 26))
  have Y : Hid (Kx w (w.heap.size + 1) ((w.alloc (.cells #[.slice A n c, .slice B m d] 26)).alloc (.cells #[.slice A' n c', .slice B' m d'] 26)) 26 #[.slice A' n c', .slice B' m d']) := by
    have := Kx.next (below_box (w := w) (.cells #[.slice A n c, .slice B m d] 26)) 26 #[.slice A' n c', .slice B' m d']
    rw [show (w.alloc (.cells #[.slice A n c, .slice B m d] 26)).heap.size = w.heap.size + 1 by simp] at this
    exact this
  have HK := Lib.hid hK
  have HW := Lib.hid hW
  have HK' := Lib.hid hK'
  have HW' := Lib.hid hW'
  clear hK hW hK' hW'
  go_enter Try.func17, Try.ntmps17
  go_upto_region 1 with fail
  generalize (w.alloc (.cells #[.slice A n c, .slice B m d] 26)).alloc (.cells #[.slice A' n c', .slice B' m d'] 26) = w1 at *
  have x0 := X.out.cell 0 (v := .slice A n c) rfl
  have x1 := X.out.cell 1 (v := .slice B m d) rfl
  have y0 := Y.out.cell 0 (v := .slice A' n c') rfl
  have y1 := Y.out.cell 1 (v := .slice B' m d') rfl
  go_wp2
  clear x0 x1 y0 y1
  go_loopw [5] (fun i wr => ∃ k : Nat, k ≤ n ∧ i = .int .i64 (k : Int) ∧ Hid (Kx w w.heap.size wr 26 #[.slice A n c, .slice B m d]) ∧ Hid (Kx w (w.heap.size + 1) wr 26 #[.slice A' n c', .slice B' m d'])) (fun i _ => n - (intOf i).toNat)
  case atStart => exact ⟨0, by omega, rfl, X, Y⟩
  case round =>
    obtain ⟨k, hk, rfl, hX, hY⟩ := hrel
    clear X Y
    have x0 := hX.out.cell 0 (v := .slice A n c) rfl
    have y0 := hY.out.cell 0 (v := .slice A' n c') rfl
    by_cases hlt : k < n
    · have hlt' : (k : Int) < (n : Int) := by omega
      obtain ⟨g, o, p, rfl, hp, hc⟩ := (HK.out.keep hX.out.below).dn hlt
      obtain ⟨g', o', p', rfl, hp', hc'⟩ := (HK'.out.keep hX.out.below).dn hlt
      have HL := Lib.hid hc
      have HL' := Lib.hid hc'
      have NE := Lib.hid (ne_kind (K k))
      have GK := guard_kind
      clear hc hc'
      go_wp2
      refine wp_region_quiet_lit (by kernel_rfl) (by kernel_rfl) ?_
      repeat (first | (go_big_quiet_want; refine quiet_load HL.out rfl rfl ?_; simp only [Act.put, List.setIfInBounds_toArray, List.set_cons_zero, List.set_cons_succ]; go_big_quiet_on) | (go_big_quiet_want; refine quiet_load HL'.out rfl rfl ?_; simp only [Act.put, List.setIfInBounds_toArray, List.set_cons_zero, List.set_cons_succ]; go_big_quiet_on) | (go_big_quiet_want; refine quiet_neq GK NE.out rfl rfl rfl ?_; simp only [Act.put, List.setIfInBounds_toArray, List.set_cons_zero, List.set_cons_succ]; go_big_quiet_on) | (go_big_quiet_step (fail)))
      refine wpQuiet_nil ?_
      intro _ hw'
      obtain ⟨nq, hw''⟩ := hw'
      subst hw''
      have X2 := Lib.hid (hX.out.drewN nq)
      have Y2 := Lib.hid (hY.out.drewN nq)
      clear hX hY hp hp' HL HL' NE GK x0 y0
      go_wp2
      go_roundw
      case rel => exact ⟨k + 1, by omega, by go_num, X2, Y2⟩
      case measure => simp [intOf]; omega
    · have hge : ¬ (k : Int) < (n : Int) := by omega
      go_wp2
      clear x0 y0
      rename World => W1
      go_loopw [6] (fun i wr => ∃ k : Nat, k ≤ m ∧ i = .int .i64 (k : Int) ∧ Hid (Kx w w.heap.size wr 26 #[.slice A n c, .slice B m d]) ∧ Hid (Kx w (w.heap.size + 1) wr 26 #[.slice A' n c', .slice B' m d'])) (fun i _ => m - (intOf i).toNat)
      case atStart => exact ⟨0, by omega, rfl, hX, hY⟩
      case round =>
        obtain ⟨j, hj, rfl, hX2, hY2⟩ := hrel
        clear hX hY
        have x1 := hX2.out.cell 1 (v := .slice B m d) rfl
        have y1 := hY2.out.cell 1 (v := .slice B' m d') rfl
        by_cases hlt2 : j < m
        · have hlt2' : (j : Int) < (m : Int) := by omega
          obtain ⟨g, o, p, rfl, hp, hc⟩ := (HW.out.keep hX2.out.below).dn hlt2
          obtain ⟨g', o', p', rfl, hp', hc'⟩ := (HW'.out.keep hX2.out.below).dn hlt2
          have HL := Lib.hid hc
          have HL' := Lib.hid hc'
          have NE := Lib.hid (ne_weapon (U j) (F j))
          have GK := guard_weapon
          clear hc hc'
          go_wp2
          refine wp_region_quiet_lit (by kernel_rfl) (by kernel_rfl) ?_
          repeat (first | (go_big_quiet_want; refine quiet_load HL.out rfl rfl ?_; simp only [Act.put, List.setIfInBounds_toArray, List.set_cons_zero, List.set_cons_succ]; go_big_quiet_on) | (go_big_quiet_want; refine quiet_load HL'.out rfl rfl ?_; simp only [Act.put, List.setIfInBounds_toArray, List.set_cons_zero, List.set_cons_succ]; go_big_quiet_on) | (go_big_quiet_want; refine quiet_neq GK NE.out rfl rfl rfl ?_; simp only [Act.put, List.setIfInBounds_toArray, List.set_cons_zero, List.set_cons_succ]; go_big_quiet_on) | (go_big_quiet_step (fail)))
          refine wpQuiet_nil ?_
          intro _ hw'
          obtain ⟨nq, hw''⟩ := hw'
          subst hw''
          have X3 := Lib.hid (hX2.out.drewN nq)
          have Y3 := Lib.hid (hY2.out.drewN nq)
          clear hX2 hY2 hp hp' HL HL' NE GK x1 y1
          go_wp2
          go_roundw
          case rel => exact ⟨j + 1, by omega, by go_num, X3, Y3⟩
          case measure => simp [intOf]; omega
        · have hge2 : ¬ (j : Int) < (m : Int) := by omega
          go_wp2
          go_ret
          exact Ret.mk rfl hX2.out.below
end Go.Proofs.Ytpgifcgidelmaaa
