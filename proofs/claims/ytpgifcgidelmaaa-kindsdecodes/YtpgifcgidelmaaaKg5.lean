/- Contracts of package kinds: the reader's book: its rounds. -/
import Derived.Test.YtpgifcgidelmaaaKg4
import Derived.Test.YtpgifcgidelmaaaTak10
namespace Go.Proofs.Ytpgifcgidelmaaa
open Go.RowKit
set_option linter.unusedVariables false

/-- The first n kinds, cell by cell; the first m weapons. -/
def kl (K : Nat → Nat → Int) (n : Nat) : List Value := (List.range n).flatMap fun i => (kcs (K i)).toList
def wl (U : Nat → Nat → Int) (F : Nat → Bool) (n : Nat) : List Value := (List.range n).flatMap fun i => (wcs (U i) (F i)).toList
theorem kl_succ (K : Nat → Nat → Int) (n : Nat) : kl K (n + 1) = kl K n ++ (kcs (K n)).toList := by simp [kl, List.range_succ, List.flatMap_append]
theorem wl_succ (U : Nat → Nat → Int) (F : Nat → Bool) (n : Nat) : wl U F (n + 1) = wl U F n ++ (wcs (U n) (F n)).toList := by simp [wl, List.range_succ, List.flatMap_append]
theorem kl_length (K : Nat → Nat → Int) : ∀ n, (kl K n).length = n * 20
  | 0 => rfl
  | n + 1 => by rw [kl_succ, List.length_append, kl_length K n]; simp; omega
theorem wl_length (U : Nat → Nat → Int) (F : Nat → Bool) : ∀ n, (wl U F n).length = n * 6
  | 0 => rfl
  | n + 1 => by rw [wl_succ, List.length_append, wl_length U F n]; simp; omega
theorem kl_at (K : Nat → Nat → Int) : ∀ (n i j : Nat), i < n → j < 20 → (kl K n)[i * 20 + j]? = some (.int .i64 (K i j))
  | 0, i, j, hi, _ => absurd hi (Nat.not_lt_zero _)
  | n + 1, i, j, hi, hj => by
    rw [kl_succ]
    by_cases e : i = n
    · subst e
      rw [List.getElem?_append_right (by rw [kl_length]; omega), kl_length, Nat.add_sub_cancel_left, Array.getElem?_toList, kcs_at _ _ hj]
    · rw [List.getElem?_append_left (by rw [kl_length]; omega)]
      exact kl_at K n i j (by omega) hj
theorem wl_at (U : Nat → Nat → Int) (F : Nat → Bool) : ∀ (n i j : Nat), i < n → j < 6 → (wl U F n)[i * 6 + j]? = (wcs (U i) (F i))[j]?
  | 0, i, j, hi, _ => absurd hi (Nat.not_lt_zero _)
  | n + 1, i, j, hi, hj => by
    rw [wl_succ]
    by_cases e : i = n
    · subst e
      rw [List.getElem?_append_right (by rw [wl_length]; omega), wl_length, Nat.add_sub_cancel_left, Array.getElem?_toList]
    · rw [List.getElem?_append_left (by rw [wl_length]; omega)]
      exact wl_at U F n i j (by omega) hj
def Rk (w : World) (base : Nat) (v : Value) (n : Nat) (K : Nat → Nat → Int) : Prop := w.ownsRow base 46 20 v n (kl K n)
def Rww (w : World) (base : Nat) (v : Value) (n : Nat) (U : Nat → Nat → Int) (F : Nat → Bool) : Prop := w.ownsRow base 51 6 v n (wl U F n)
theorem row_addr {w : World} {base : Nat} {e : TypeId} {size : Nat} {v : Value} {n : Nat} {xs : List Value} (h : w.ownsRow base e size v n xs) : ∃ A k, v = .slice A n k ∧ n ≤ k ∧ k ≤ maxLen ∧ (0 < n → ∃ g, A = some ⟨g, 0, none⟩ ∧ g < w.heap.size) := by
  rcases h.2 with ⟨rfl, hn⟩ | ⟨g, cap, cur, rfl, hg, hh, hnc, hcm, _, _⟩
  · subst hn
    exact ⟨none, 0, rfl, Nat.le_refl _, by simp [maxLen], fun h0 => by omega⟩
  · exact ⟨_, cap, rfl, hnc, hcm, fun _ => ⟨g, rfl, (Array.getElem?_eq_some_iff.1 hh).1⟩⟩
theorem Rk.kn {w : World} {base : Nat} {v : Value} {n : Nat} {K : Nat → Nat → Int} (h : Rk w base v n K) : ∃ A k, v = .slice A n k ∧ n ≤ k ∧ k ≤ maxLen ∧ Kn w A n K := by
  obtain ⟨A, k, rfl, h1, h2, h3⟩ := row_addr h
  refine ⟨A, k, rfl, h1, h2, fun hn => ?_⟩
  obtain ⟨g, rfl, hg⟩ := h3 hn
  refine ⟨g, 0, rfl, hg, fun i hi j hj => ?_⟩
  have := World.ownsRow.cellAt h (i * 20 + j) (by omega)
  rw [Nat.zero_add, this]
  exact kl_at K n i j hi hj
theorem Rww.wn {w : World} {base : Nat} {v : Value} {n : Nat} {U : Nat → Nat → Int} {F : Nat → Bool} (h : Rww w base v n U F) : ∃ A k, v = .slice A n k ∧ n ≤ k ∧ k ≤ maxLen ∧ Wn w A n U F := by
  obtain ⟨A, k, rfl, h1, h2, h3⟩ := row_addr h
  refine ⟨A, k, rfl, h1, h2, fun hn => ?_⟩
  obtain ⟨g, rfl, hg⟩ := h3 hn
  refine ⟨g, 0, rfl, hg, fun i hi => ⟨fun j hj => ?_, ?_⟩⟩
  · have := World.ownsRow.cellAt h (i * 6 + j) (by omega)
    rw [Nat.zero_add, this, wl_at U F n i j hi (by omega), wcs_at _ _ _ hj]
  · have := World.ownsRow.cellAt h (i * 6 + 5) (by omega)
    rw [Nat.zero_add, this, wl_at U F n i 5 hi (by omega)]
    rfl
theorem Try.infoK : (Try.prog.info? 46).map (fun i => (i.zero, i.size, i.bytes)) = some (some (.agg (kcs fun _ => 0)), 20, 160) := by kernel_rfl
theorem Try.infoW : (Try.prog.info? 51).map (fun i => (i.zero, i.size, i.bytes)) = some (some (.agg (wcs (fun _ => 0) false)), 6, 48) := by kernel_rfl

theorem kcs_each (f : Nat → Int) : ∀ u ∈ (kcs f).toList, u.oneCell' = true := by
  intro u hu
  have := Array.all_eq_true_iff_forall_mem.1 (kcs_one f) u (by simpa using hu)
  exact this
theorem wcs_each (f : Nat → Int) (b : Bool) : ∀ u ∈ (wcs f b).toList, u.oneCell' = true := by
  intro u hu
  have := Array.all_eq_true_iff_forall_mem.1 (wcs_one f b) u (by simpa using hu)
  exact this
/-- 'append(s, x)' at an operation: x lies in a new block of its own. -/
theorem wp_append_kind {o : Oper} {a : Act} {K' : Act → World → Prop} {Q : Exit → Act → World → Prop} (s x : Operand)
    (ho : o.op = .call { callee := .builtin .append, args := #[s, x], argTypes := #[23, 23] })
    (base n : Nat) (K : Nat → Nat → Int) (f : Nat → Int) (v : Value) (w : World) (g : Nat) (hs : a.eval s = v) (hf : K n = f) (hown : Rk w base v n K) (hg : w.heap.size = g) (hx : a.eval x = .slice (some ⟨g, 0, none⟩) 1 1) (hn : n ≤ 100000) (hbase : base ≤ w.heap.size)
    (h : ∀ v' w', Rk w' base v' (n + 1) K → (w.alloc (.cells (kcs f) 46)).grownBy w' v.ownBlock → K' (a.put o.dst v') w') : Oper.wp Try.prog o a (w.alloc (.cells (kcs f) 46)) K' Q := by
  subst hf hg
  obtain ⟨i0, hi, hz0, hz1, hz2⟩ := info_parts Try.infoK
  refine wp_append_own _ s x 23 ho base 46 i0 (.agg (kcs fun _ => 0)) 20 160 Try.underlying23 hi hz0 hz1 hz2 rfl (by decide) v n (kl K n) hs (hown.alloc _) ⟨w.heap.size, 0, none⟩ 1 1 (kcs (K n)).toList hx rfl ?_ (kcs_each _) (by unfold maxLen; omega) (by omega) (by simp; omega) ?_
  · intro j u hj
    have e : (⟨w.heap.size, 0, none⟩ : Addr).add j = ⟨w.heap.size, j, none⟩ := by unfold Addr.add; split <;> simp_all
    rw [e, cell_new, ← Array.getElem?_toList]
    exact hj
  · intro v' w' hown' hgr _
    refine h v' w' ?_ hgr
    unfold Rk
    rw [kl_succ]
    exact hown'
theorem wp_append_weapon {o : Oper} {a : Act} {K' : Act → World → Prop} {Q : Exit → Act → World → Prop} (s x : Operand)
    (ho : o.op = .call { callee := .builtin .append, args := #[s, x], argTypes := #[24, 24] })
    (base n : Nat) (U : Nat → Nat → Int) (F : Nat → Bool) (f : Nat → Int) (b : Bool) (v : Value) (w : World) (g : Nat) (hs : a.eval s = v) (hf : U n = f) (hF : F n = b) (hown : Rww w base v n U F) (hg : w.heap.size = g) (hx : a.eval x = .slice (some ⟨g, 0, none⟩) 1 1) (hn : n ≤ 100000) (hbase : base ≤ w.heap.size)
    (h : ∀ v' w', Rww w' base v' (n + 1) U F → (w.alloc (.cells (wcs f b) 51)).grownBy w' v.ownBlock → K' (a.put o.dst v') w') : Oper.wp Try.prog o a (w.alloc (.cells (wcs f b) 51)) K' Q := by
  subst hf hF hg
  obtain ⟨i0, hi, hz0, hz1, hz2⟩ := info_parts Try.infoW
  refine wp_append_own _ s x 24 ho base 51 i0 (.agg (wcs (fun _ => 0) false)) 6 48 Try.underlying24 hi hz0 hz1 hz2 rfl (by decide) v n (wl U F n) hs (hown.alloc _) ⟨w.heap.size, 0, none⟩ 1 1 (wcs (U n) (F n)).toList hx rfl ?_ (wcs_each _ _) (by unfold maxLen; omega) (by omega) (by simp; omega) ?_
  · intro j u hj
    have e : (⟨w.heap.size, 0, none⟩ : Addr).add j = ⟨w.heap.size, j, none⟩ := by unfold Addr.add; split <;> simp_all
    rw [e, cell_new, ← Array.getElem?_toList]
    exact hj
  · intro v' w' hown' hgr _
    refine h v' w' ?_ hgr
    unfold Rww
    rw [wl_succ]
    exact hown'
end Go.Proofs.Ytpgifcgidelmaaa
