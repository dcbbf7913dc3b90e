/- Hits that are appended; a region that ends in a store, in a function. -/
import Derived.Test.YtcneilhhpblclaaCrHelp
import Derived.Test.YtcneilhhpblclaaRel12
import Derived.OwnWalk
namespace Go.Proofs.Ytcneilhhpblclaa
open Go.RowKit
set_option linter.unusedVariables false

theorem Try.infoH : (Try.prog.info? 23).map (fun i => (i.zero, i.size, i.bytes)) = some (some (.agg #[.int .i64 0, .int .i64 0, .int .i64 0, .int .i64 0]), 4, 32) := by kernel_rfl
/-- The first k hits, cell by cell. -/
def hbv (h : Nat → Ht) (k : Nat) : List Value := (List.range k).flatMap fun q => [.int .i64 (h q).I, .int .i64 (h q).J, .int .i64 (h q).R, .int .i64 (h q).D]
theorem hbv_succ (h : Nat → Ht) (k : Nat) : hbv h (k + 1) = hbv h k ++ [.int .i64 (h k).I, .int .i64 (h k).J, .int .i64 (h k).R, .int .i64 (h k).D] := by
  simp [hbv, List.range_succ, List.flatMap_append]
theorem hbv_length (h : Nat → Ht) : ∀ k, (hbv h k).length = k * 4
  | 0 => rfl
  | k + 1 => by rw [hbv_succ, List.length_append, hbv_length h k]; simp; omega
theorem hbv_at (h : Nat → Ht) : ∀ (k q r : Nat), q < k → r < 4 → (hbv h k)[q * 4 + r]? = ([.int .i64 (h q).I, .int .i64 (h q).J, .int .i64 (h q).R, .int .i64 (h q).D] : List Value)[r]?
  | 0, q, r, hq, _ => absurd hq (by omega)
  | k + 1, q, r, hq, hr => by
    rw [hbv_succ]
    by_cases e : q = k
    · subst e
      rw [List.getElem?_append_right (by rw [hbv_length]; omega), hbv_length]
      congr 1
      omega
    · rw [List.getElem?_append_left (by rw [hbv_length]; omega)]
      exact hbv_at h k q r (by omega) hr

/-- 'l = append(l, x)': x lies in a new block of its own. -/
theorem append_hit {ops : Array Oper} {rest : List Oper} {o : Oper} {a : Act} {Q : Exit → Act → World → Prop} (hgd : o.guard = none) (s x : Operand)
    (ho : o.op = .call { callee := .builtin .append, args := #[s, x], argTypes := #[31, 31] })
    (base k : Nat) (h : Nat → Ht) (y : Ht) (v : Value) (w : World) (hs : a.eval s = v) (hy : h k = y) (hown : w.ownsRow base 23 4 v k (hbv h k))
    (hx : a.eval x = .slice (some ⟨w.heap.size, 0, none⟩) 1 1) (hk : k ≤ 1000000) (hbase : base ≤ w.heap.size)
    (hh : ∀ v' w', w'.ownsRow base 23 4 v' (k + 1) (hbv h (k + 1)) → Below base w w' → wpList Try.prog ops Q rest (a.put o.dst v') w') :
    wpList Try.prog ops Q (o :: rest) a (w.alloc (.cells #[.int .i64 y.I, .int .i64 y.J, .int .i64 y.R, .int .i64 y.D] 23)) := by
  subst hy
  obtain ⟨i0, hi, hz0, hz1, hz2⟩ := info_parts Try.infoH
  refine wpList_append_own _ hgd s x 31 ho base 23 i0 (.agg #[.int .i64 0, .int .i64 0, .int .i64 0, .int .i64 0]) 4 32 Try.underlying31 hi hz0 hz1 hz2 rfl (by decide) v k (hbv h k) hs (hown.alloc _) ⟨w.heap.size, 0, none⟩ 1 1
    [.int .i64 (h k).I, .int .i64 (h k).J, .int .i64 (h k).R, .int .i64 (h k).D] hx rfl ?_ ?_ ?_ ?_ ?_ ?_
  · intro j u hj
    match j, hj with
    | 0, hj => simp at hj; subst hj; simp [Addr.add]
    | 1, hj => simp at hj; subst hj; simp [Addr.add]
    | 2, hj => simp at hj; subst hj; simp [Addr.add]
    | 3, hj => simp at hj; subst hj; simp [Addr.add]
  · intro u hu
    simp at hu
    rcases hu with rfl | rfl | rfl | rfl <;> rfl
  · unfold maxLen; omega
  · omega
  · simp; omega
  · intro v' w' hown' hg _
    refine hh v' w' (by rw [hbv_succ]; exact hown') ?_
    refine (((Below.refl base w).alloc hbase _).grown hg (by simp; omega) ?_)
    intro g hgg
    exact (hown.lt g hgg).1

theorem hits_own {w : World} {base c : Nat} {v : Value} {h : Nat → Ht} (hw : w.ownsRow base 23 4 v c (hbv h c)) :
    ∃ A k, v = .slice A c k ∧ c ≤ k ∧ k ≤ maxLen ∧ Hs w A c h := by
  rcases hw.2 with ⟨rfl, hn⟩ | ⟨g, cap, cur, rfl, hg, hh, hnc, hcm, _, _⟩
  · subst hn
    exact ⟨none, 0, rfl, Nat.le_refl _, by simp [maxLen], fun h0 => by omega⟩
  · refine ⟨_, cap, rfl, hnc, hcm, fun h0 => ⟨g, 0, rfl, ?_, fun i hi => ?_⟩⟩
    · rcases Nat.lt_or_ge g w.heap.size with hlt | hge
      · exact hlt
      · rw [Array.getElem?_eq_none hge] at hh; cases hh
    · have ca : ∀ r, r < 4 → w.cell? ⟨g, i * 4 + r, none⟩ = ([.int .i64 (h i).I, .int .i64 (h i).J, .int .i64 (h i).R, .int .i64 (h i).D] : List Value)[r]? := by
        intro r hr
        have := World.ownsRow.cellAt hw (i * 4 + r) (by omega)
        rw [this]
        exact hbv_at h c i r hi hr
      rw [Nat.zero_add]
      exact ⟨ca 0 (by omega), ca 1 (by omega), ca 2 (by omega), ca 3 (by omega)⟩

section
variable {P : Program} {ops : Array Oper} {Q : Exit → Act → World → Prop} {m : Nat} {R B : World → Prop}
/-- The beginning, in a function. -/
theorem wp_regionT {id : Nat} {a : Act} {w : World} (hm : P.follows .mixedOrders = true) (h : wpAnyT P .any ops Q m R B ops.size (Array.replicate ops.size false) a w.drew) : (Code.region id ops true).wp P Q a w :=
  wp_region_any hm (wpAny_of_T _ _ _ _ h)
end

end Go.Proofs.Ytcneilhhpblclaa
