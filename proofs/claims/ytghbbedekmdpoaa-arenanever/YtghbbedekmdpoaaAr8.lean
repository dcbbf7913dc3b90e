/- Contracts: All and Count; numbers in a row of the call's own. -/
import Derived.Test.YtghbbedekmdpoaaAr7
namespace Go.Proofs.Ytghbbedekmdpoaa
open Go.RowKit Go.Sort
set_option linter.unusedVariables false

def iv (l : List Int) : List Value := l.map fun z : Int => Value.int .i64 z
theorem iv_append (l m : List Int) : iv (l ++ m) = iv l ++ iv m := by simp [iv]
theorem iv_length (l : List Int) : (iv l).length = l.length := by simp [iv]
/-- v is a row of the call's own that holds these numbers. -/
def Rn (w : World) (base : Nat) (v : Value) (l : List Int) : Prop := w.ownsRow base 3 1 v l.length (iv l)
theorem Rn.nil (w : World) (base : Nat) : Rn w base (.slice none 0 0) [] := World.ownsRow_nil _ _ _ _
theorem Rn.keep {w w' : World} {base : Nat} {v : Value} {l : List Int} (h : Rn w base v l) (hb : Below w.heap.size w w') : Rn w' base v l :=
  World.ownsRow.kept h (grownBy_below hb none) (by cases v.ownBlock <;> simp)
theorem Rn.lt {w : World} {base : Nat} {v : Value} {l : List Int} (h : Rn w base v l) : ∀ k, v.ownBlock = some k → base ≤ k ∧ k < w.heap.size := World.ownsRow.lt h
theorem Kx.extN {w X Y : World} {g base : Nat} {t : TypeId} {cs : Array Value} {v v' : Value} {l : List Int} (h : Kx w g X t cs) (hte : t ≠ 3) (hr : Rn X base v l) (he : Ext X v Y v') (hbs : w.heap.size ≤ base) : Kx w g Y t cs :=
  h.grown he.grown (blk_not_row h.blk hte hr) (fun k hk => Nat.le_trans hbs (hr.lt k hk).1)
/-- Numbers that lie at A. -/
def Is (w : World) (A : Option Addr) (n : Nat) (p : Nat → Int) : Prop :=
  0 < n → ∃ g o, A = some ⟨g, o, none⟩ ∧ g < w.heap.size ∧ ∀ i, i < n → w.cell? ⟨g, o + i, none⟩ = some (.int .i64 (p i))
theorem Is.keep {w w' : World} {A : Option Addr} {n : Nat} {p : Nat → Int} (h : Is w A n p) (hb : Below w.heap.size w w') : Is w' A n p := by
  intro hn
  obtain ⟨g, o, e, hg, hc⟩ := h hn
  exact ⟨g, o, e, Nat.lt_of_lt_of_le hg hb.size, fun i hi => (hb.cell (p := ⟨g, o + i, none⟩) hg).trans (hc i hi)⟩
theorem Rn.is {w : World} {base : Nat} {v : Value} {l : List Int} (h : Rn w base v l) : ∃ A k, v = .slice A l.length k ∧ l.length ≤ k ∧ k ≤ maxLen ∧ Is w A l.length (fun i => l.getD i 0) := by
  rcases h.2 with ⟨rfl, hn⟩ | ⟨g, cap, cur, rfl, hg, hh, hnc, hcm, _, _⟩
  · rw [hn]
    exact ⟨none, 0, rfl, Nat.le_refl _, by simp [maxLen], fun h0 => by omega⟩
  · refine ⟨_, cap, rfl, hnc, hcm, fun h0 => ⟨g, 0, rfl, ?_, fun i hi => ?_⟩⟩
    · rcases Nat.lt_or_ge g w.heap.size with hlt | hge
      · exact hlt
      · rw [Array.getElem?_eq_none hge] at hh; cases hh
    · have := World.ownsRow.cellAt h i (by omega)
      rw [Nat.zero_add, this]
      simp [iv, List.getD, hi]
theorem Try.infoN : (Try.prog.info? 3).map (fun i => (i.zero, i.size, i.bytes)) = some (some (.int .i64 0), 1, 8) := by kernel_rfl
/-- 'append(s, z)': the number lies in a new block of its own. -/
theorem append_int {ops : Array Oper} {rest : List Oper} {o : Oper} {a : Act} {Q : Exit → Act → World → Prop} (hgd : o.guard = none) (s x : Operand)
    (ho : o.op = .call { callee := .builtin .append, args := #[s, x], argTypes := #[37, 37] })
    (base : Nat) (l : List Int) (z : Int) (v : Value) (w : World) (hs : a.eval s = v) (hown : Rn w base v l)
    (hx : a.eval x = .slice (some ⟨w.heap.size, 0, none⟩) 1 1) (hmn : l.length ≤ 1000000) (hbase : base ≤ w.heap.size)
    (h : ∀ v' w', Rn w' base v' (l ++ [z]) → Ext w v w' v' → wpList Try.prog ops Q rest (a.put o.dst v') w') :
    wpList Try.prog ops Q (o :: rest) a (w.alloc (.cells #[.int .i64 z] 3)) := by
  refine wpList_plain hgd fun K hK => ?_
  have hown0 : (w.alloc (.cells #[.int .i64 z] 3)).ownsRow base 3 1 v l.length (iv l) := hown.keep (below_box _)
  obtain ⟨i0, hi, hz0, hz1, hz2⟩ := info_parts Try.infoN
  obtain ⟨v', w', hr, hown', hgr, hwh⟩ := append_where (P := Try.prog) (w.alloc (.cells #[.int .i64 z] 3)) base 37 o.type 3 i0 (.int .i64 0) 1 8 Try.underlying37 hi hz0 hz1 hz2 rfl (by decide) v l.length (iv l) hown0 ⟨w.heap.size, 0, none⟩ 1 1 (iv [z]) (by simp [iv])
    (by
      intro j u hj
      match j, hj with
      | 0, hj => simp [iv] at hj; subst hj; simp [Addr.add])
    (by intro u hu; simp [iv] at hu; subst hu; rfl) (by decide) (by unfold maxLen; omega) (by omega) (by simp; omega)
  unfold Oper.wp execOp
  simp only [ho, resolve, invoke, builtin, Sem.run_bind, Sem.run_pure, Result.andThen_ok, List.map_toArray, List.map_cons, List.map_nil, hs, hx, hr]
  refine hK _ _ (h v' w' ?_ ?_)
  · unfold Rn
    rw [iv_append, List.length_append]
    exact hown'
  · refine (Ext.refl w v).trans (Ext.trans ⟨grownBy_below (below_box _) _, .inl rfl⟩ ⟨hgr, ?_⟩)
    rcases hwh with e | e
    · exact .inl e
    · exact .inr fun k hk => by rw [e] at hk; injection hk; omega

/-- The numbers of the first k places that are Live. -/
def nums (T : Nat → Int) (L : Nat → Bool) : Nat → List Int
  | 0 => []
  | k + 1 => if L k then nums T L k ++ [las T k] else nums T L k
theorem nums_len (T : Nat → Int) (L : Nat → Bool) : ∀ k, (nums T L k).length ≤ k
  | 0 => Nat.le_refl _
  | k + 1 => by
    have := nums_len T L k
    unfold nums
    split
    · rw [List.length_append, List.length_singleton]; omega
    · omega
/-- A slice of numbers comes back. -/
def RetNs (l : List Int) (w : World) (e : Ending) (w' : World) : Prop :=
  ∃ A k, e = .returned (.slice A l.length k) ∧ l.length ≤ k ∧ k ≤ maxLen ∧ Is w' A l.length (fun i => l.getD i 0) ∧ Below w.heap.size w w'
theorem las_hid {T : Nat → Int} {L : Nat → Bool} (hA : okA T L = true) {k : Nat} (hk : k < 64) : ∀ u, Calls Try.prog 23 #[.agg (ar T L), .int .i64 (k : Int)] u (Ret (.int .i64 (las T k)) u) :=
  fun u => last_any T L k u hk (okA_at hA hk).1 (okA_at hA hk).2.1
set_option maxHeartbeats 1000000 in
theorem all_bad (T : Nat → Int) (L : Nat → Bool) (w : World) (hA : okA T L = false) : Calls Try.prog 16 #[.agg (ar T L)] w (RetNs [] w) := by
  have X := Lib.hid (Kx.new w 25 (ar T L))
  have HA := Lib.hid hA
  clear hA
  go_enter Try.func16, Try.ntmps16
  go_wp2_with (refine wpList_load_at (loadVar_ar X.out.blk) rfl rfl rfl ?_)
  generalize w.alloc (.cells (ar T L) 25) = w1 at *
  refine (may_any T L w1).mono ?_
  rw [HA.out]
  rintro e w2 ⟨rfl, b2⟩
  have X2 := Lib.hid (X.out.keep b2)
  clear b2 X
  go_wp2
  go_ret
  exact ⟨none, 0, rfl, Nat.le_refl _, by simp [maxLen], fun h => absurd h (by simp), X2.out.below⟩
set_option maxHeartbeats 1000000 in
theorem all_ok (T : Nat → Int) (L : Nat → Bool) (w : World) (hA : okA T L = true) : Calls Try.prog 16 #[.agg (ar T L)] w (RetNs (nums T L 64) w) := by
  have X := Lib.hid (Kx.new w 25 (ar T L))
  have HA := Lib.hid hA
  clear hA
  go_enter Try.func16, Try.ntmps16
  go_wp2_with (refine wpList_load_at (loadVar_ar X.out.blk) rfl rfl rfl ?_)
  generalize w.alloc (.cells (ar T L) 25) = w1 at *
  refine (may_any T L w1).mono ?_
  rw [HA.out]
  rintro e w2 ⟨rfl, b2⟩
  have X2 := Lib.hid (X.out.keep b2)
  clear b2 X
  go_wp2_with (refine wpList_load_at (loadVar_ls X2.out.blk) rfl rfl rfl ?_)
  go_loopw [3, 11] (fun v i wr => ∃ k : Nat, k ≤ 64 ∧ i = .int .i64 (k : Int) ∧ Hid (Rn wr w.heap.size v (nums T L k)) ∧ Hid (Kx w w.heap.size wr 25 (ar T L))) (fun _ i _ => 64 - (intOf i).toNat)
  case atStart => exact ⟨0, by omega, rfl, Rn.nil _ _, X2.out⟩
  case round =>
    obtain ⟨k, hk, rfl, hN, hX⟩ := hrel
    clear X2
    by_cases hlt : k < 64
    · have hlt' : (k : Int) < 64 := by omega
      have c1 := index_ls L hlt wr
      have HN1 : Hid (nums T L (k + 1) = if L k then nums T L k ++ [las T k] else nums T L k) := rfl
      have HC := Lib.hid (las_hid HA.out hlt)
      have HLn : Hid ((nums T L k).length ≤ 1000000) := by have := nums_len T L k; show _ ≤ _; omega
      generalize las T k = z at *
      generalize L k = l at *
      cases l
      · go_wp2
        go_roundw
        case rel => exact ⟨k + 1, by omega, by go_num, (by rw [HN1.out]; exact hN.out), hX⟩
        case measure => simp [intOf]; omega
      · go_wp2_with (refine wpList_load_at (loadVar_ar hX.out.blk) rfl rfl rfl ?_)
        refine (HC.out wr).mono ?_
        rintro e w3 ⟨rfl, b3⟩
        have X3 := Lib.hid (hX.out.keep b3)
        have N3 := Lib.hid (hN.out.keep b3)
        clear b3 hX hN HC c1
        go_wp2_with (at_builtin; refine append_int rfl (.tmp 16) (.tmp 20) rfl w.heap.size (nums T L k) z _ w3 rfl N3.out rfl HLn.out X3.out.below.size ?_; intro v' w4 hN4 hE4)
        have X4 := Lib.hid (X3.out.extN (by decide) N3.out hE4 (Nat.le_refl _))
        have N4 := Lib.hid hN4
        clear hE4 hN4 X3 N3
        go_wp2
        go_roundw
        case rel => exact ⟨k + 1, by omega, by go_num, (by rw [HN1.out]; exact N4.out), X4⟩
        case measure => simp [intOf]; omega
    · have e : k = 64 := by omega
      subst e
      obtain ⟨A, c, rfl, h1, h2, h3⟩ := hN.out.is
      have HQ := Lib.hid (And.intro h1 (And.intro h2 h3))
      clear h1 h2 h3
      generalize nums T L 64 = ls at *
      go_wp2
      go_ret
      exact ⟨A, c, rfl, HQ.out.1, HQ.out.2.1, HQ.out.2.2, hX.out.below⟩
/-- What All hands back. -/
def lis (T : Nat → Int) (L : Nat → Bool) : List Int := if okA T L then nums T L 64 else []
theorem lis_len (T : Nat → Int) (L : Nat → Bool) : (lis T L).length ≤ 64 := by
  unfold lis
  split
  · exact nums_len T L 64
  · exact Nat.zero_le _
theorem all_any (T : Nat → Int) (L : Nat → Bool) (w : World) : Calls Try.prog 16 #[.agg (ar T L)] w (RetNs (lis T L) w) := by
  unfold lis
  cases h : okA T L
  · exact all_bad T L w h
  · exact all_ok T L w h
theorem count_any (T : Nat → Int) (L : Nat → Bool) (w : World) : Calls Try.prog 18 #[.agg (ar T L)] w (Ret (.int .i64 ((lis T L).length : Int)) w) := by
  have X := Lib.hid (Kx.new w 25 (ar T L))
  go_enter Try.func18, Try.ntmps18
  go_wp2_with (refine wpList_load_at (loadVar_ar X.out.blk) rfl rfl rfl ?_)
  generalize w.alloc (.cells (ar T L) 25) = w1 at *
  refine (all_any T L w1).mono ?_
  rintro e w2 ⟨A, c, rfl, h1, h2, h3, b2⟩
  have B := Lib.hid (X.out.keep b2).below
  clear h1 h2 h3 b2 X
  generalize (lis T L).length = n at *
  go_wp2
  go_ret
  exact Ret.mk rfl B.out
end Go.Proofs.Ytghbbedekmdpoaa
