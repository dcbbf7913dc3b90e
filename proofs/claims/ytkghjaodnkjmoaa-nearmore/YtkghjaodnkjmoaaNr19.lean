/- Contracts of the law's helpers: same, made. -/
import Derived.Test.YtkghjaodnkjmoaaNr18
import Derived.Laws.AppendOwnNone
namespace Go.Proofs.Ytkghjaodnkjmoaa
open Go.RowKit Go.Sort Go.Shelf
set_option linter.unusedVariables false

theorem Is.at {w W : World} {A : Option Addr} {n i : Nat} {p : Nat → Int} (h : Is w A n p) (hb : Below w.heap.size w W) (hi : i < n) : ∃ g o, A = some ⟨g, o, none⟩ ∧ W.cell? ⟨g, o + i, none⟩ = some (.int .i64 (p i)) := by
  obtain ⟨g, o, e, hg, hc⟩ := h (by omega)
  exact ⟨g, o, e, kc hb (hc i hi)⟩
set_option maxHeartbeats 1000000 in
theorem same_any (A B : Option Addr) (n a b : Nat) (p : Nat → Int) (w : World) (hA : Is w A n p) (hB : Is w B n p) (hn : n ≤ 1000000) :
    Calls Try.prog 12 #[.slice A n a, .slice B n b] w (Ret (.bool true) w) := by
  have HA := Lib.hid hA
  have HB := Lib.hid hB
  clear hA hB
  go_enter Try.func12, Try.ntmps12
  go_wp2
  go_loopw [5] (fun i wr => ∃ k : Nat, k ≤ n ∧ i = .int .i64 (k : Int) ∧ Hid (Below w.heap.size w wr)) (fun i _ => n - (intOf i).toNat)
  case atStart => exact ⟨0, by omega, rfl, Below.refl _ _⟩
  case round =>
    obtain ⟨k, hk, rfl, hb⟩ := hrel
    by_cases hkn : k < n
    · have hkI : (k : Int) < (n : Int) := by omega
      obtain ⟨g, o, rfl, c0⟩ := HA.out.at hb.out hkn
      obtain ⟨g', o', rfl, c1⟩ := HB.out.at hb.out hkn
      have z0 := cell_regrown c0
      have z1 := cell_regrown c1
      clear c0 c1
      generalize p k = z at *
      go_wp2
      refine wp_region_quiet_below (by kernel_rfl) (by kernel_rfl) ?_
      repeat (go_big_quiet_step (fail))
      refine wpQuiet_nil ?_
      intro _ hw'
      obtain ⟨⟨dq, osq⟩, hw''⟩ := hw'
      subst hw''
      have B2 : Hid (Below w.heap.size w (grow (redrawn wr dq) osq)) := hb.out.trans ((below_regrown wr dq osq).mono hb.out.size)
      clear hb z0 z1
      generalize grow (redrawn wr dq) osq = w3 at *
      go_wp2
      go_roundw
      case rel => exact ⟨k + 1, by omega, by go_num, B2⟩
      case measure => simp [intOf]; omega
    · obtain rfl : k = n := by omega
      have hkI : ¬ (k : Int) < (k : Int) := by omega
      go_wp2
      go_ret
      exact Ret.mk rfl hb.out

section
variable (X Y : Nat → Int)
/-- The cells of the first n spots. -/
def spc (n : Nat) : List Value := (List.range n).flatMap fun i => [.int .i64 (X i), .int .i64 (Y i)]
theorem spc_succ (n : Nat) : spc X Y (n + 1) = spc X Y n ++ [.int .i64 (X n), .int .i64 (Y n)] := by simp [spc, List.range_succ]
theorem spc_len : ∀ n, (spc X Y n).length = n * 2
  | 0 => rfl
  | n + 1 => by rw [spc_succ, List.length_append, spc_len n]; simp; omega
theorem spc_at : ∀ (n j : Nat), j < n * 2 → (spc X Y n)[j]? = some (if j % 2 = 0 then .int .i64 (X (j / 2)) else .int .i64 (Y (j / 2)))
  | 0, j, h => by omega
  | n + 1, j, h => by
    rw [spc_succ]
    by_cases hj : j < n * 2
    · rw [List.getElem?_append_left (by rw [spc_len]; exact hj)]
      exact spc_at n j hj
    · rw [List.getElem?_append_right (by rw [spc_len]; omega), spc_len]
      have : j = n * 2 ∨ j = n * 2 + 1 := by omega
      rcases this with rfl | rfl
      · simp
      · have h1 : n * 2 + 1 - n * 2 = 1 := by omega
        have h2 : (n * 2 + 1) / 2 = n := by omega
        have h3 : (n * 2 + 1) % 2 = 1 := by omega
        rw [h1, h2, h3]
        simp
theorem spc_one {n : Nat} {u : Value} (h : u ∈ spc X Y n) : u.oneCell' = true := by
  unfold spc at h
  obtain ⟨i, _, hu⟩ := List.mem_flatMap.1 h
  simp at hu
  rcases hu with rfl | rfl <;> rfl
/-- v is a row of the call's own that holds these spots. -/
def Rs (w : World) (base : Nat) (v : Value) (n : Nat) : Prop := w.ownsRow base 46 2 v n (spc X Y n)
theorem Rs.ps {w : World} {base : Nat} {v : Value} {n : Nat} (h : Rs X Y w base v n) : ∃ A k, v = .slice A n k ∧ n ≤ k ∧ k ≤ maxLen ∧ Ps X Y w A n ∧ (0 < n → ∃ g cur, A = some ⟨g, 0, none⟩ ∧ base ≤ g ∧ w.heap[g]? = some (.cells cur 46 (0, 0)) ∧ cur.size = k * 2) := by
  rcases h.2 with ⟨rfl, hn⟩ | ⟨g, cap, cur, rfl, hg, hh, hnc, hcm, hcs, _⟩
  · rw [hn]
    exact ⟨none, 0, rfl, Nat.le_refl _, by simp [maxLen], fun h0 => by omega, fun h0 => by omega⟩
  · refine ⟨_, cap, rfl, hnc, hcm, fun h0 => ⟨g, 0, rfl, (Array.getElem?_eq_some_iff.1 hh).1, fun i hi => ?_⟩, fun h0 => ⟨g, cur, rfl, hg, hh, hcs⟩⟩
    have c0 := World.ownsRow.cellAt h (i * 2) (by omega)
    have c1 := World.ownsRow.cellAt h (i * 2 + 1) (by omega)
    rw [spc_at X Y n (i * 2) (by omega)] at c0
    rw [spc_at X Y n (i * 2 + 1) (by omega)] at c1
    have h2 : (i * 2 + 1) / 2 = i := by omega
    have h3 : (i * 2 + 1) % 2 = 1 := by omega
    rw [h2, h3] at c1
    rw [Nat.zero_add]
    exact ⟨by simpa using c0, by simpa using c1⟩
theorem Try.infoS : (Try.prog.info? 46).map (fun i => (i.zero, i.size, i.bytes)) = some (some (.agg #[.int .i64 0, .int .i64 0]), 2, 16) := by kernel_rfl
/-- 'append([]Spot{}, l...)'. -/
theorem append_spots {ops : Array Oper} {rest : List Oper} {o : Oper} {a : Act} {Q : Exit → Act → World → Prop} (hgd : o.guard = none) (s x : Operand)
    (ho : o.op = .call { callee := .builtin .append, args := #[s, x], argTypes := #[22, 22] })
    (base g n c : Nat) (A : Option Addr) (w : World) (hs : a.eval s = .slice (some ⟨g, 0, none⟩) 0 0) (hg : base ≤ g) (hh : w.heap[g]? = some (.cells #[] 46 (0, 0)))
    (hx : a.eval x = .slice A n c) (hP : Ps X Y w A n) (hA : A = none → c = 0) (hn : n ≤ 258) (hbase : base ≤ w.heap.size)
    (h : ∀ v' w', Rs X Y w' base v' n → Below base w w' → wpList Try.prog ops Q rest (a.put o.dst v') w') :
    wpList Try.prog ops Q (o :: rest) a w := by
  have hown : w.ownsRow base 46 2 (.slice (some ⟨g, 0, none⟩) 0 0) 0 [] := ⟨rfl, .inr ⟨g, 0, #[], rfl, hg, hh, Nat.le_refl _, by simp [maxLen], rfl, rfl⟩⟩
  obtain ⟨i0, hi, hz0, hz1, hz2⟩ := info_parts Try.infoS
  cases A with
  | none =>
    have hn0 : n = 0 := by
      apply Classical.byContradiction
      intro h0
      obtain ⟨g', o', e, _⟩ := hP (by omega)
      cases e
    have hc0 := hA rfl
    subst hn0 hc0
    exact wpList_append_own_none hgd s x 22 ho base 46 i0 2 Try.underlying22 hi _ 0 [] hs hown hx (h _ _ hown (Below.refl _ _))
  | some ad =>
    refine wpList_plain hgd fun K hK => ?_
    obtain ⟨v', w', hr, hown', hgr, -⟩ := run_append_own (P := Try.prog) w base 22 o.type 46 i0 (.agg #[.int .i64 0, .int .i64 0]) 2 16 Try.underlying22 hi hz0 hz1 hz2 rfl (by decide) _ 0 [] hown ad n c (spc X Y n) (spc_len X Y n)
      (by
        intro j u hj
        have hjl : j < n * 2 := by have := (List.getElem?_eq_some_iff.1 hj).1; rw [spc_len] at this; exact this
        obtain ⟨g', o', e, _, hc⟩ := hP (by omega)
        obtain rfl := Option.some.inj e
        obtain ⟨c0, c1⟩ := hc (j / 2) (by omega)
        rw [spc_at X Y n j hjl] at hj
        have ea : (⟨g', o', none⟩ : Addr).add j = ⟨g', o' + j, none⟩ := by unfold Addr.add; split <;> simp_all
        rw [ea]
        by_cases hm : j % 2 = 0
        · rw [if_pos hm] at hj
          rw [show o' + j = o' + j / 2 * 2 by omega, c0, hj]
        · rw [if_neg hm] at hj
          rw [show o' + j = o' + j / 2 * 2 + 1 by omega, c1, hj])
      (fun u hu => spc_one X Y hu) (by unfold maxLen; omega) (by omega) hbase
    unfold Oper.wp execOp
    simp only [ho, resolve, invoke, builtin, Sem.run_bind, Sem.run_pure, Result.andThen_ok, List.map_toArray, List.map_cons, List.map_nil, hs, hx, hr]
    refine hK _ _ (h v' w' ?_ ?_)
    · unfold Rs
      rw [Nat.zero_add, List.nil_append] at hown'
      exact hown'
    · exact (Below.refl base w).grown hgr hbase (fun r er => by simp [Value.ownBlock] at er; omega)
end
end Go.Proofs.Ytkghjaodnkjmoaa
