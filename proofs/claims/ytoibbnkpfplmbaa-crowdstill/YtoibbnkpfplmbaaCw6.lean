/- Contracts: round, Clone; 'append([]int{}, l...)'. -/
import Derived.Test.YtoibbnkpfplmbaaCw5
import Derived.Laws.AppendOwnNone
namespace Go.Proofs.Ytoibbnkpfplmbaa
open Go.RowKit Go.Sort Go.Lib
set_option linter.unusedVariables false
set_option linter.unusedSimpArgs false
attribute [local go_sem] Oper.semAt_some

set_option maxHeartbeats 2000000 in
theorem round15_any (w0 w : World) (L : Lay) (s : St) (h : Cw w0 L s w) :
    Calls Try.prog 25 #[.pointer (some ⟨L.g, 0, none⟩)] w fun e w' => e = .returned (.bool (gsS L.n L.O L.Wi s L.n)) ∧ Cw w0 L (rkS L.n L.O L.Wi s L.n) w' := by
  have H0 := Lib.hid h
  have CC := Lib.hid (fun (u : World) (t : St) (i : Nat) (hu : Cw w0 L t u) (hi : i < L.n) => can15_any w0 u L t i hu hi)
  have CM := Lib.hid (fun (u : World) (t : St) (i : Nat) (hu : Cw w0 L t u) (hi : i < L.n) (hc : canS L.n L.O L.Wi t.P i = true) => move15_any w0 u L t i hu hi hc)
  have c2 := h.c2
  have hfew := h.few
  have E1 : Hid (∀ k, gsS L.n L.O L.Wi s (k + 1) = (gsS L.n L.O L.Wi s k || canS L.n L.O L.Wi (rkS L.n L.O L.Wi s k).P k)) := fun k => rfl
  have E2 : Hid (∀ k, rkS L.n L.O L.Wi s (k + 1) = stpS L.n L.O L.Wi (rkS L.n L.O L.Wi s k) k) := fun k => rfl
  have E3 := Lib.hid (fun (t : St) (k : Nat) (hc : canS L.n L.O L.Wi t.P k = false) => (show stpS L.n L.O L.Wi t k = t by unfold stpS; rw [hc]; rfl))
  clear h
  go_enter Try.func25, Try.ntmps25
  go_wp2
  go_loopw [3, 10] (fun s3 s10 wr => ∃ k : Nat, k ≤ L.n ∧ s10 = .int .i64 (k : Int) ∧ s3 = .bool (gsS L.n L.O L.Wi s k) ∧ Hid (Cw w0 L (rkS L.n L.O L.Wi s k) wr)) (fun _ s10 _ => L.n - (intOf s10).toNat)
  case atStart => exact ⟨0, by omega, rfl, rfl, H0.out⟩
  case round =>
    obtain ⟨k, hk, rfl, rfl, hC⟩ := hrel
    by_cases hkn : k < L.n
    · have hkI : (k : Int) < (L.n : Int) := by omega
      have hkB : decide ((k : Int) < (L.n : Int)) = true := decide_eq_true hkI
      go_wp2_with fail
      refine (CC.out _ _ k hC.out hkn).mono ?_
      rintro e w1 ⟨rfl, b1⟩
      have C1 := Lib.hid (hC.out.keep b1)
      cases hc : canS L.n L.O L.Wi (rkS L.n L.O L.Wi s k).P k with
      | false =>
        have HG := Lib.hid (E1.out k)
        have HK := Lib.hid (E2.out k)
        rw [hc, Bool.or_false] at HG
        rw [E3.out _ _ hc] at HK
        clear hc b1 hC
        go_wp2
        go_roundw
        case rel => exact ⟨k + 1, by omega, by go_num, by rw [HG.out], by rw [HK.out]; exact C1.out⟩
        case measure => simp [intOf]; omega
      | true =>
        have HG := Lib.hid (E1.out k)
        have HK := Lib.hid (E2.out k)
        have HC := Lib.hid hc
        rw [hc, Bool.or_true] at HG
        clear hc b1 hC
        go_wp2_with fail
        refine (CM.out _ _ k C1.out hkn HC.out).mono ?_
        rintro e w2 ⟨rfl, c9⟩
        have C9 := Lib.hid c9
        clear c9
        go_wp2
        go_roundw
        case rel => exact ⟨k + 1, by omega, by go_num, by rw [HG.out], by rw [HK.out]; exact C9.out⟩
        case measure => simp [intOf]; omega
    · obtain rfl : k = L.n := by omega
      have hkI : decide ((L.n : Int) < (L.n : Int)) = false := decide_eq_false (by omega)
      go_wp2
      go_ret
      exact ⟨rfl, hC.out⟩

theorem iv_get {p : Nat → Int} {n j : Nat} {u : Value} (h : (iv ((List.range n).map p))[j]? = some u) : j < n ∧ u = .int .i64 (p j) := by
  have hj : j < n := by
    have := (List.getElem?_eq_some_iff.1 h).1
    simpa [iv] using this
  refine ⟨hj, ?_⟩
  simp [iv, hj] at h
  exact h.symm
/-- 'append([]int{}, l...)'. -/
theorem append_ints {ops : Array Oper} {rest : List Oper} {o : Oper} {a : Act} {Q : Exit → Act → World → Prop} (hgd : o.guard = none) (s x : Operand)
    (ho : o.op = .call { callee := .builtin .append, args := #[s, x], argTypes := #[23, 23] })
    (base g n c : Nat) (p : Nat → Int) (A : Option Addr) (w : World) (hs : a.eval s = .slice (some ⟨g, 0, none⟩) 0 0) (hg : base ≤ g) (hh : w.heap[g]? = some (.cells #[] 3 (0, 0)))
    (hx : a.eval x = .slice A n c) (hP : Is w A n p) (hA : A = none → c = 0) (hn : n ≤ 1000000) (hbase : base ≤ w.heap.size)
    (h : ∀ v' w', Rn w' base v' ((List.range n).map p) → Below base w w' → wpList Try.prog ops Q rest (a.put o.dst v') w') :
    wpList Try.prog ops Q (o :: rest) a w := by
  have hown : w.ownsRow base 3 1 (.slice (some ⟨g, 0, none⟩) 0 0) 0 [] := ⟨rfl, .inr ⟨g, 0, #[], rfl, hg, hh, Nat.le_refl _, by simp [maxLen], rfl, rfl⟩⟩
  obtain ⟨i0, hi, hz0, hz1, hz2⟩ := info_parts Try.infoN15
  cases A with
  | none =>
    have hn0 : n = 0 := by
      apply Classical.byContradiction
      intro h0
      obtain ⟨g', o', e, _⟩ := hP (by omega)
      cases e
    have hc0 := hA rfl
    subst hn0 hc0
    exact wpList_append_own_none hgd s x 23 ho base 3 i0 1 Try.underlying23 hi _ 0 [] hs hown hx (h _ _ hown (Below.refl _ _))
  | some ad =>
    refine wpList_plain hgd fun K hK => ?_
    obtain ⟨v', w', hr, hown', hgr, -⟩ := run_append_own (P := Try.prog) w base 23 o.type 3 i0 (.int .i64 0) 1 8 Try.underlying23 hi hz0 hz1 hz2 rfl (by decide) _ 0 [] hown ad n c (iv ((List.range n).map p)) (by simp [iv])
      (by
        intro j u hj
        obtain ⟨hjl, rfl⟩ := iv_get hj
        obtain ⟨g', o', e, _, hc⟩ := hP (by omega)
        obtain rfl := Option.some.inj e
        have ea : (⟨g', o', none⟩ : Addr).add j = ⟨g', o' + j, none⟩ := by unfold Addr.add; split <;> simp_all
        rw [ea]
        exact hc j hjl)
      (fun u hu => by
        simp [iv] at hu
        obtain ⟨i, _, rfl⟩ := hu
        rfl) (by unfold maxLen; omega) (by omega) hbase
    unfold Oper.wp execOp
    simp only [ho, resolve, invoke, builtin, Sem.run_bind, Sem.run_pure, Result.andThen_ok, List.map_toArray, List.map_cons, List.map_nil, hs, hx, hr]
    refine hK _ _ (h v' w' ?_ ?_)
    · unfold Rn
      rw [Nat.zero_add, List.nil_append] at hown'
      simpa using hown'
    · exact (Below.refl base w).grown hgr hbase (fun r er => by simp [Value.ownBlock] at er; omega)
/-- The row as it may be written. -/
theorem Rn.iwf {w : World} {base n : Nat} {v : Value} {p : Nat → Int} (h : Rn w base v ((List.range n).map p)) : ∃ A k, v = .slice A n k ∧ n ≤ k ∧ k ≤ maxLen ∧ Iw w base A n p ∧ (A = none → k = 0) := by
  obtain ⟨A, k, e, h1, h2, h3⟩ := h.iw
  simp at e h1 h3
  refine ⟨A, k, e, h1, h2, h3.congr fun i hi => by simp [List.getD, hi], fun hA => ?_⟩
  subst hA
  rcases h.2 with ⟨e2, _⟩ | ⟨g, cap, cur, e2, _⟩
  · rw [e] at e2
    injection e2
  · rw [e] at e2
    injection e2 with e3
    cases e3

set_option maxHeartbeats 2000000 in
/-- A copy of numbers: nil stays nil. -/
theorem clone15_any (A : Option Addr) (n c : Nat) (p : Nat → Int) (w : World) (hI : Is w A n p) (hA : A = none → c = 0) (hn : n ≤ 1000000) :
    Calls Try.prog 24 #[.slice A n c] w fun e w' => ∃ A' k, e = .returned (.slice A' n k) ∧ n ≤ k ∧ k ≤ maxLen ∧ Iw w' w.heap.size A' n p ∧ (A' = none → k = 0) ∧ Below w.heap.size w w' := by
  have HI := Lib.hid hI
  clear hI
  cases A with
  | none =>
    have hn0 : n = 0 := by
      apply Classical.byContradiction
      intro h0
      obtain ⟨g', o', e, _⟩ := HI.out (by omega)
      cases e
    have hc0 := hA rfl
    subst hn0 hc0
    have hnil : ∀ u : World, (binOp .eql 23 (.slice none 0 0) (.slice none 0 0)).run Try.prog u = .ok (.bool true) u := fun u => _root_.Go.run_eql_slice_nil u 23 3 none 0 0 Try.underlying23
    go_enter Try.func24, Try.ntmps24
    go_wp2
    go_ret
    exact ⟨none, 0, rfl, by simp [maxLen], fun h0 => absurd h0 (by omega), fun _ => rfl, Below.refl _ _⟩
  | some ad =>
    have hnil : ∀ u : World, (binOp .eql 23 (.slice (some ad) n c) (.slice none 0 0)).run Try.prog u = .ok (.bool false) u := fun u => _root_.Go.run_eql_slice_nil u 23 3 (some ad) n c Try.underlying23
    clear hA
    have HB0 := Lib.hid (newBox (w := w) (.cells #[] 3))
    have HN := Lib.hid (World.alloc_heap_new w (.cells #[] 3))
    go_enter Try.func24, Try.ntmps24
    go_wp2_with (at_builtin; refine append_ints rfl (.tmp 5) (.tmp 6) rfl w.heap.size w.heap.size n c p (some ad) _ rfl (Nat.le_refl _) HN.out rfl (HI.out.keep HB0.out) (fun e => by cases e) hn (by simp) ?_; intro v' w1 hown' hb')
    go_ret
    obtain ⟨A', K, rfl, hK1, hK2, hO, hK3⟩ := hown'.iwf
    exact ⟨A', K, by simp, hK1, hK2, hO, hK3, HB0.out.trans hb'⟩
end Go.Proofs.Ytoibbnkpfplmbaa
