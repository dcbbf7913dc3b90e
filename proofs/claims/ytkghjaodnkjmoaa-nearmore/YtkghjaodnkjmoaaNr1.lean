/- Stage 12's ground: whole structs in one step, entries in memory; upToSpan, square, squared, cmp. -/
import Derived.Test.YtkghjaodnkjmoaaNrMath
import Derived.Test.YtkghjaodnkjmoaaKd1
import Derived.Deep.WholeRow
import Derived.Lib.QuietBelow
import Derived.Sort.Grow
namespace Go.Proofs.Ytkghjaodnkjmoaa
open Go.RowKit Go.Sort
set_option linter.unusedVariables false

theorem run_loadVar_at {P : Program} (W : World) (ad : Addr) (ty : TypeId) (cs : List Value) (d : TypeDesc) (hu : P.underlying ty = some d) (hd : (match d with | .struct _ | .array _ _ => true | _ => false) = true) (hi : (P.info? ty).map (·.size) = some cs.length)
    (h : ∀ j v, cs[j]? = some v → W.cell? (ad.add j) = some v) : (loadVar ty ad).run P W = .ok (.agg cs.toArray) W := by
  have hl := run_loadCells_list (P := P) W ad cs h
  cases hq : P.info? ty with
  | none => simp [hq] at hi
  | some i =>
    have hs : i.size = cs.length := by simpa [hq] using hi
    have hagg : (isAgg ty).run P W = .ok true W := by
      unfold isAgg
      rw [Sem.run_bind, run_underlying hu W]
      cases d <;> simp_all
    simp [loadVar, Sem.run_bind, hagg, sizeOf, typeInfo, hq, hs, hl]

section
variable {ops : Array Oper} {rest : List Oper} {o : Oper} {a : Act} {Q : Exit → Act → World → Prop}
/-- A load of a whole struct. -/
theorem wpList_load_at {w : World} {ty : TypeId} {x : Operand} {ad : Addr} {v : Value} (hl : (loadVar ty ad).run Try.prog w = .ok v w) (hgd : o.guard = none) (ho : o.op = .load ty x) (hx : a.eval x = .pointer (some ad))
    (h : wpList Try.prog ops Q rest (a.put o.dst v) w) : wpList Try.prog ops Q (o :: rest) a w := by
  refine wpList_plain hgd fun K hK => ?_
  unfold Oper.wp execOp
  simp only [ho, hx, Instr.loadAt, Instr.sureAddr, Sem.run_bind, Sem.run_pure, Result.andThen_ok, hl]
  exact hK _ _ h
/-- A store of a whole struct into a block. -/
theorem wpList_store_blk {w : World} {ty t : TypeId} {x y : Operand} {c c' : Array Value} {g n : Nat} (hi : (Try.prog.info? ty).map (·.size) = some n) (hb : w.heap[g]? = some (.cells c t (0, 0))) (hgd : o.guard = none) (ho : o.op = .store ty x y) (hx : a.eval x = .pointer (some ⟨g, 0, none⟩)) (hy : a.eval y = .agg c')
    (hn : c'.size = n) (hc : c.size = n) (h1 : c'.all (·.oneCell') = true) (h : wpList Try.prog ops Q rest (a.put o.dst undef) (w.setRow g c')) : wpList Try.prog ops Q (o :: rest) a w := by
  subst hn
  refine wpList_plain hgd fun K hK => ?_
  unfold Oper.wp execOp
  simp only [ho, hx, hy, Instr.storeAt, Instr.sureAddr, Sem.run_bind, Sem.run_pure, Result.andThen_ok, run_storeVar_row w g t ty c c' hb hi hc h1]
  exact hK _ _ h
end
theorem calls_re {f : FuncId} {args : Array Value} {V : World} {v : Value} (h : ∀ u, Calls Try.prog f args u (Ret v u)) : ∀ d os, Calls Try.prog f args (grow (redrawn V d) os) fun e w'' => e = .returned v ∧ ∃ p : Regrown, w'' = grow (redrawn V p.d) p.os :=
  fun d os => Calls.regrown_of (h _)

/-! ### Numbers in a new block of the call's own -/
set_option maxHeartbeats 1000000 in
theorem upto_any (l : List Int) (g : Nat) (c : Nat) (w : World) (hl : l.length ≤ 3) (hc : ∀ j v, l[j]? = some v → w.cell? ⟨g, j, none⟩ = some (.int .i64 v)) :
    Calls Try.prog 20 #[.slice (some ⟨g, 0, none⟩) l.length c] w (Ret (.bool (l.all sp)) w) := by
  have HC := Lib.hid hc
  clear hc
  go_enter Try.func20, Try.ntmps20
  go_wp2
  go_loopw [7] (fun kv wr => ∃ k : Nat, k ≤ l.length ∧ kv = .int .i64 (k : Int) ∧ (∀ j v, j < k → l[j]? = some v → sp v = true) ∧ wr = w) (fun kv _ => l.length - (intOf kv).toNat)
  case atStart => exact ⟨0, by omega, rfl, fun j v hj => absurd hj (by omega), rfl⟩
  case round =>
    obtain ⟨k, hk, rfl, hall, rfl⟩ := hrel
    have HA := Lib.hid hall
    clear hall
    by_cases hkn : k < l.length
    · obtain ⟨v, hv⟩ : ∃ v, l[k]? = some v := ⟨l[k], by simp [hkn]⟩
      have c0 := HC.out k v hv
      have hkI : (k : Int) < (l.length : Int) := by omega
      have HV := Lib.hid hv
      clear hv
      by_cases h1 : v < 0
      · have HE : Hid (l.all sp = false) := by
          show _ = _
          rw [List.all_eq_false]
          exact ⟨v, List.mem_of_getElem? HV.out, by simp [sp]; omega⟩
        generalize l.length = n at *
        go_wp2
        go_ret
        exact Ret.mk (by rw [HE.out]; rfl) (Below.refl _ _)
      · by_cases h2 : 67108864 < v
        · have HE : Hid (l.all sp = false) := by
            show _ = _
            rw [List.all_eq_false]
            exact ⟨v, List.mem_of_getElem? HV.out, by simp [sp]; omega⟩
          generalize l.length = n at *
          go_wp2
          go_ret
          exact Ret.mk (by rw [HE.out]; rfl) (Below.refl _ _)
        · have HA2 : Hid (∀ j u, j < k + 1 → l[j]? = some u → sp u = true) := by
            intro j u hj hu
            rcases Nat.lt_or_ge j k with h' | h'
            · exact HA.out j u h' hu
            · obtain rfl : j = k := by omega
              rw [HV.out] at hu
              injection hu with hu
              subst hu
              simp [sp]; omega
          go_wp2
          go_roundw
          case rel => exact ⟨k + 1, by omega, by go_num, HA2.out, trivial⟩
          case measure => simp [intOf]; omega
    · have hkI : ¬ (k : Int) < (l.length : Int) := by omega
      have HE : Hid (l.all sp = true) := by
        show _ = _
        rw [List.all_eq_true]
        intro v hv
        obtain ⟨j, hj⟩ := List.getElem?_of_mem hv
        have := (List.getElem?_eq_some_iff.1 hj).1
        exact HA.out j v (by omega) hj
      go_wp2
      go_ret
      exact Ret.mk (by rw [HE.out]; rfl) (Below.refl _ _)

/-- Of one number, of two, of three. -/
theorem upto1 (a : Int) (g c : Nat) (w : World) (h0 : w.cell? ⟨g, 0, none⟩ = some (.int .i64 a)) : Calls Try.prog 20 #[.slice (some ⟨g, 0, none⟩) 1 c] w (Ret (.bool (sp a)) w) := by
  have h := upto_any [a] g c w (by simp) (fun j v hj => by
    match j, hj with
    | 0, hj => simp at hj; subst hj; exact h0)
  simpa using h
theorem upto2 (a b : Int) (g c : Nat) (w : World) (h0 : w.cell? ⟨g, 0, none⟩ = some (.int .i64 a)) (h1 : w.cell? ⟨g, 1, none⟩ = some (.int .i64 b)) :
    Calls Try.prog 20 #[.slice (some ⟨g, 0, none⟩) 2 c] w (Ret (.bool (sp a && sp b)) w) := by
  have h := upto_any [a, b] g c w (by simp) (fun j v hj => by
    match j, hj with
    | 0, hj => simp at hj; subst hj; exact h0
    | 1, hj => simp at hj; subst hj; exact h1)
  simpa using h
theorem upto3 (a b d : Int) (g c : Nat) (w : World) (h0 : w.cell? ⟨g, 0, none⟩ = some (.int .i64 a)) (h1 : w.cell? ⟨g, 1, none⟩ = some (.int .i64 b)) (h2 : w.cell? ⟨g, 2, none⟩ = some (.int .i64 d)) :
    Calls Try.prog 20 #[.slice (some ⟨g, 0, none⟩) 3 c] w (Ret (.bool (sp a && (sp b && sp d))) w) := by
  have h := upto_any [a, b, d] g c w (by simp) (fun j v hj => by
    match j, hj with
    | 0, hj => simp at hj; subst hj; exact h0
    | 1, hj => simp at hj; subst hj; exact h1
    | 2, hj => simp at hj; subst hj; exact h2)
  simpa using h
theorem Try.size2 : (Try.prog.info? 63).map (·.size) = some 2 := by kernel_rfl
theorem square_end {x y a b : Int} {w w' : World} {tm : Array Value} {g : Nat} (ht : tm.getD 4 undef = .pointer (some ⟨g, 0, none⟩)) (hb : w'.heap[g]? = some (.cells #[.int .i64 a, .int .i64 b] 63 (0, 0)))
    (h1 : a = sqv x) (h2 : b = sqv y) (hw : w' = w.alloc (.cells #[.int .i64 a, .int .i64 b] 63)) :
    bodyPost Try.prog Try.f25 (fun e w' => e = .returned (.agg #[.int .i64 (sqv x), .int .i64 (sqv y)]) ∧ w' = w.alloc (.cells #[.int .i64 (sqv x), .int .i64 (sqv y)] 63)) Exit.ret { tmps := tm, defers := [] } w' := by
  subst h1 h2
  refine bodyPost_ret (v := .agg #[.int .i64 (sqv x), .int .i64 (sqv y)]) ?_ rfl ⟨rfl, hw⟩
  exact results_cell_row Try.results25 tm w' g _ _ (0, 0) _ ht hb Try.underlying63 rfl Try.size2
set_option maxHeartbeats 1000000 in
theorem square_exact (x y : Int) (w : World) : Calls Try.prog 25 #[.int .i64 x, .int .i64 y] w fun e w' => e = .returned (.agg #[.int .i64 (sqv x), .int .i64 (sqv y)]) ∧ w' = w.alloc (.cells #[.int .i64 (sqv x), .int .i64 (sqv y)] 63) := by
  go_enter Try.func25, Try.ntmps25
  go_wp2
  all_goals (refine square_end (g := w.heap.size) rfl (World.alloc_heap_new w _) ?_ ?_ rfl <;> (unfold sqv; omega))
theorem square_any (x y : Int) (w : World) : Calls Try.prog 25 #[.int .i64 x, .int .i64 y] w (Ret (.agg #[.int .i64 (sqv x), .int .i64 (sqv y)]) w) :=
  (square_exact x y w).mono fun _ _ ⟨h, k⟩ => ⟨h, by rw [k]; exact below_box _⟩

/-! ### cmp -/
/-- What cmp.Compare says. -/
def cmpI (a b : Int) : Int := if a < b then -1 else if b < a then 1 else 0
set_option maxHeartbeats 1000000 in
theorem compare64_any (a b : Int) (w : World) : Calls Try.prog 31 #[.int .i64 a, .int .i64 b] w (Ret (.int .i64 (cmpI a b)) w) := by
  by_cases h1 : a < b
  · have HE : Hid (cmpI a b = -1) := by show _ = _; unfold cmpI; rw [if_pos h1]
    go_enter Try.func31, Try.ntmps31
    go_wp2
    go_ret
    exact Ret.mk (by rw [HE.out]; rfl) (Below.refl _ _)
  · by_cases h2 : b < a
    · have HE : Hid (cmpI a b = 1) := by show _ = _; unfold cmpI; rw [if_neg h1, if_pos h2]
      go_enter Try.func31, Try.ntmps31
      go_wp2
      go_ret
      exact Ret.mk (by rw [HE.out]; rfl) (Below.refl _ _)
    · have HE : Hid (cmpI a b = 0) := by show _ = _; unfold cmpI; rw [if_neg h1, if_neg h2]
      go_enter Try.func31, Try.ntmps31
      go_wp2
      go_ret
      exact Ret.mk (by rw [HE.out]; rfl) (Below.refl _ _)
set_option maxHeartbeats 1000000 in
theorem compare_same (a b : Int) (w : World) : Calls Try.prog 33 #[.int .i64 a, .int .i64 b] w fun e w' => e = .returned (.int .i64 (cmpI a b)) ∧ w' = w := by
  by_cases h1 : a < b
  · have HE : Hid (cmpI a b = -1) := by show _ = _; unfold cmpI; rw [if_pos h1]
    go_enter Try.func33, Try.ntmps33
    go_wp2
    go_ret
    exact ⟨by rw [HE.out]; rfl, rfl⟩
  · by_cases h2 : b < a
    · have HE : Hid (cmpI a b = 1) := by show _ = _; unfold cmpI; rw [if_neg h1, if_pos h2]
      go_enter Try.func33, Try.ntmps33
      go_wp2
      go_ret
      exact ⟨by rw [HE.out]; rfl, rfl⟩
    · have HE : Hid (cmpI a b = 0) := by show _ = _; unfold cmpI; rw [if_neg h1, if_neg h2]
      go_enter Try.func33, Try.ntmps33
      go_wp2
      go_ret
      exact ⟨by rw [HE.out]; rfl, rfl⟩
theorem compare_any (a b : Int) (w : World) : Calls Try.prog 33 #[.int .i64 a, .int .i64 b] w (Ret (.int .i64 (cmpI a b)) w) :=
  (compare_same a b w).mono fun _ _ ⟨h, k⟩ => ⟨h, by rw [k]; exact Below.refl _ _⟩
/-- What cmp.Or says, of two. -/
def orI (a b : Int) : Int := if a = 0 then b else a
set_option maxHeartbeats 1000000 in
theorem or_any (a b : Int) (g c : Nat) (w : World) (h0 : w.cell? ⟨g, 0, none⟩ = some (.int .i64 a)) (h1 : w.cell? ⟨g, 1, none⟩ = some (.int .i64 b)) :
    Calls Try.prog 30 #[.slice (some ⟨g, 0, none⟩) 2 c] w (Ret (.int .i64 (orI a b)) w) := by
  by_cases ha : a = 0
  · subst ha
    have HE : Hid (orI 0 b = b) := rfl
    by_cases hb : b = 0
    · subst hb
      go_enter Try.func30, Try.ntmps30
      go_wp2
      go_loopw [8] (fun kv wr => ∃ k : Nat, k ≤ 2 ∧ kv = .int .i64 (k : Int) ∧ wr = w) (fun kv _ => 2 - (intOf kv).toNat)
      case atStart => exact ⟨0, by omega, rfl, rfl⟩
      case round =>
        obtain ⟨k, hk, rfl, rfl⟩ := hrel
        by_cases k0 : k = 0
        · subst k0
          go_wp2
          go_roundw
          case rel => exact ⟨1, by omega, by go_num, trivial⟩
          case measure => simp [intOf]
        · by_cases k1 : k = 1
          · subst k1
            go_wp2
            go_roundw
            case rel => exact ⟨2, by omega, by go_num, trivial⟩
            case measure => simp [intOf]
          · obtain rfl : k = 2 := by omega
            go_wp2
            go_ret
            exact Ret.mk (by rw [HE.out]; rfl) (Below.refl _ _)
    · go_enter Try.func30, Try.ntmps30
      go_wp2
      go_loopw [8] (fun kv wr => ∃ k : Nat, k ≤ 1 ∧ kv = .int .i64 (k : Int) ∧ wr = w) (fun kv _ => 2 - (intOf kv).toNat)
      case atStart => exact ⟨0, by omega, rfl, rfl⟩
      case round =>
        obtain ⟨k, hk, rfl, rfl⟩ := hrel
        by_cases k0 : k = 0
        · subst k0
          go_wp2
          go_roundw
          case rel => exact ⟨1, by omega, by go_num, trivial⟩
          case measure => simp [intOf]
        · obtain rfl : k = 1 := by omega
          go_wp2
          go_ret
          exact Ret.mk (by rw [HE.out]; rfl) (Below.refl _ _)
  · have HE : Hid (orI a b = a) := by show _ = _; unfold orI; rw [if_neg ha]
    go_enter Try.func30, Try.ntmps30
    go_wp2
    go_loopw [8] (fun kv wr => kv = .int .i64 0 ∧ wr = w) (fun kv _ => 2 - (intOf kv).toNat)
    case atStart => exact ⟨rfl, rfl⟩
    case round =>
      obtain ⟨rfl, rfl⟩ := hrel
      go_wp2
      go_ret
      exact Ret.mk (by rw [HE.out]; rfl) (Below.refl _ _)
end Go.Proofs.Ytkghjaodnkjmoaa
