/- Contracts of package kinds: what a kind, a weapon and a book are as bytes. -/
import Derived.Test.YtpgifcgidelmaaaKe1
namespace Go.Proofs.Ytpgifcgidelmaaa
open Go.RowKit
set_option linter.unusedVariables false

/-- A kind's bytes, a weapon's bytes. -/
noncomputable def kby (f : Nat → Int) : List Nat := flds 1 (lst [f 0]) 1 ++ (flds 2 (lst [f 1, f 3, f 8, f 9, f 10, f 14, f 15, f 19]) 8 ++ (flds 1 (lst [f 4, f 5, f 6, f 7, f 11, f 12, f 13, f 16, f 17, f 18]) 10 ++ le 8 (spd (f 2))))
noncomputable def wby (f : Nat → Int) (b : Bool) : List Nat := flds 2 (lst [f 1]) 1 ++ (flds 1 (lst [f 0, f 3, f 4, if b then 1 else 0]) 4 ++ le 8 (spd (f 2)))
theorem kby_length (f : Nat → Int) : (kby f).length = 35 := by simp [kby, flds_length, le_length]
theorem wby_length (f : Nat → Int) (b : Bool) : (wby f b).length = 14 := by simp [wby, flds_length, le_length]
noncomputable def kbys (K : Nat → Nat → Int) : Nat → List Nat
  | 0 => []
  | n + 1 => kbys K n ++ kby (K n)
noncomputable def wbys (U : Nat → Nat → Int) (F : Nat → Bool) : Nat → List Nat
  | 0 => []
  | n + 1 => wbys U F n ++ wby (U n) (F n)
theorem kbys_length (K : Nat → Nat → Int) : ∀ n, (kbys K n).length = 35 * n
  | 0 => rfl
  | n + 1 => by rw [kbys, List.length_append, kbys_length K n, kby_length]; omega
theorem wbys_length (U : Nat → Nat → Int) (F : Nat → Bool) : ∀ n, (wbys U F n).length = 14 * n
  | 0 => rfl
  | n + 1 => by rw [wbys, List.length_append, wbys_length U F n, wby_length]; omega
/-- A book's bytes. -/
noncomputable def bby (K U : Nat → Nat → Int) (F : Nat → Bool) (n m : Nat) : List Nat := flds 1 (lst [(n : Int), (m : Int)]) 2 ++ (kbys K n ++ wbys U F m)
theorem bby_length (K U : Nat → Nat → Int) (F : Nat → Bool) (n m : Nat) : (bby K U F n m).length = 2 + 35 * n + 14 * m := by
  unfold bby
  rw [List.length_append, List.length_append, flds_length, kbys_length, wbys_length]
  omega
theorem inB_yes {a b v : Int} (h : inB a b v = true) : a ≤ v ∧ v ≤ b := by simpa [inB] using h
/-- The bounds of a kind that may be, of a weapon that may be. -/
theorem okK_bd {f : Nat → Int} {m : Int} (h : okK f m = true) (hm : m ≤ 16) : (0 ≤ f 2 ∧ f 2 ≤ 65536) ∧ ∀ j, j < 20 → j ≠ 2 → 0 ≤ f j ∧ f j ≤ 65535 := by
  rw [okK_ref] at h
  simp only [rA, rB, rC, rD, Bool.and_eq_true, Bool.or_eq_true, decide_eq_true_eq] at h
  obtain ⟨⟨a0, a1, a2, a3, a4⟩, ⟨b0, b1, b2, b3⟩, ⟨c0, c1, c2, c3, c4, c5⟩, ⟨d0, d1, d2, d3, d4⟩, e0⟩ := h
  have a0 := inB_yes a0
  have a1 := inB_yes a1
  have a4 := inB_yes a4
  have b0 := inB_yes b0
  have b1 := inB_yes b1
  have b2 := inB_yes b2
  have b3 := inB_yes b3
  have c0 := inB_yes c0
  have c1 := inB_yes c1
  have c2 := inB_yes c2
  have c3 := inB_yes c3
  have c4 := inB_yes c4
  have c5 := inB_yes c5
  have d0 := inB_yes d0
  have d1 := inB_yes d1
  have d2 := inB_yes d2
  have d3 := inB_yes d3
  have d4 := inB_yes d4
  have e0 : 0 ≤ f 18 ∧ f 18 ≤ 255 := by
    rcases e0 with e0 | e0
    · omega
    · have := inB_yes e0; omega
  refine ⟨⟨a2, a3⟩, fun j hj hne => ?_⟩
  have : j = 0 ∨ j = 1 ∨ j = 3 ∨ j = 4 ∨ j = 5 ∨ j = 6 ∨ j = 7 ∨ j = 8 ∨ j = 9 ∨ j = 10 ∨ j = 11 ∨ j = 12 ∨ j = 13 ∨ j = 14 ∨ j = 15 ∨ j = 16 ∨ j = 17 ∨ j = 18 ∨ j = 19 := by omega
  rcases this with rfl | rfl | rfl | rfl | rfl | rfl | rfl | rfl | rfl | rfl | rfl | rfl | rfl | rfl | rfl | rfl | rfl | rfl | rfl <;> omega
theorem okK_byte {f : Nat → Int} {m : Int} (h : okK f m = true) (hm : m ≤ 16) : ∀ j, j < 20 → j ≠ 1 → j ≠ 2 → j ≠ 3 → j ≠ 8 → j ≠ 9 → j ≠ 10 → j ≠ 14 → j ≠ 15 → j ≠ 19 → 0 ≤ f j ∧ f j ≤ 255 := by
  rw [okK_ref] at h
  simp only [rA, rB, rC, rD, Bool.and_eq_true, Bool.or_eq_true, decide_eq_true_eq] at h
  obtain ⟨⟨a0, a1, a2, a3, a4⟩, ⟨b0, b1, b2, b3⟩, ⟨c0, c1, c2, c3, c4, c5⟩, ⟨d0, d1, d2, d3, d4⟩, e0⟩ := h
  have a0 := inB_yes a0
  have b0 := inB_yes b0
  have b1 := inB_yes b1
  have b2 := inB_yes b2
  have b3 := inB_yes b3
  have d0 := inB_yes d0
  have d1 := inB_yes d1
  have d2 := inB_yes d2
  have d3 := inB_yes d3
  have d4 := inB_yes d4
  have e0 : 0 ≤ f 18 ∧ f 18 ≤ 255 := by
    rcases e0 with e0 | e0
    · omega
    · have := inB_yes e0; omega
  intro j hj _ _ _ _ _ _ _ _ _
  have : j = 0 ∨ j = 4 ∨ j = 5 ∨ j = 6 ∨ j = 7 ∨ j = 11 ∨ j = 12 ∨ j = 13 ∨ j = 16 ∨ j = 17 ∨ j = 18 := by omega
  rcases this with rfl | rfl | rfl | rfl | rfl | rfl | rfl | rfl | rfl | rfl | rfl <;> omega
theorem okW_bd {f : Nat → Int} (h : okW f = true) : 1 ≤ f 0 ∧ f 0 ≤ 32 ∧ 0 ≤ f 1 ∧ f 1 ≤ 9999 ∧ 1 ≤ f 2 ∧ f 2 ≤ 262144 ∧ 1 ≤ f 3 ∧ f 3 ≤ 255 ∧ 0 ≤ f 4 ∧ f 4 ≤ 8 := by
  rw [okW_ref] at h
  simp only [Bool.and_eq_true, decide_eq_true_eq] at h
  obtain ⟨a0, a1, a2, a3, a4, a5⟩ := h
  have a0 := inB_yes a0
  have a1 := inB_yes a1
  have a4 := inB_yes a4
  have a5 := inB_yes a5
  omega
/-- Numbers of a list. -/
theorem lst_bd (l : List Int) {n : Nat} (hn : l.length = n) (h : ∀ v ∈ l, 0 ≤ v ∧ v < 18446744073709551616) : ∀ i, i < n → 0 ≤ lst l i ∧ lst l i < 18446744073709551616 := by
  intro i hi
  have : i < l.length := by omega
  simp only [lst, List.getD, List.getElem?_eq_getElem this, Option.getD_some]
  exact h _ (List.getElem_mem this)

/-- A frame that adds to a row, and holds a struct in a box. -/
structure Wk (w : World) (v0 : Value) (base gk : Nat) (t : TypeId) (cs : Array Value) (W : World) (v : Value) (l : List Nat) : Prop where
  row : Rw W base v l
  ext : Ext w v0 W v
  blk : W.heap[gk]? = some (.cells cs t (0, 0))
  hB : base ≤ W.heap.size
theorem Wk.new {w : World} {v0 : Value} {base : Nat} {l : List Nat} (t : TypeId) (cs : Array Value) (hr : Rw w base v0 l) (hB : base ≤ w.heap.size) : Wk w v0 base w.heap.size t cs (w.alloc (.cells cs t)) v0 l :=
  ⟨hr.keep (below_box _), (Ext.refl w v0).step (below_box _), alloc_blk _ _ _, by simp; omega⟩
theorem Wk.alloc {w : World} {v0 : Value} {base gk : Nat} {t : TypeId} {cs : Array Value} {W : World} {v : Value} {l : List Nat} (h : Wk w v0 base gk t cs W v l) (o : Obj) : Wk w v0 base gk t cs (W.alloc o) v l :=
  ⟨h.row.keep (below_box _), h.ext.step (below_box _), (heap_alloc_old W o (Array.getElem?_eq_some_iff.1 h.blk).1).trans h.blk, by have := h.hB; simp; omega⟩
theorem Wk.step {w : World} {v0 : Value} {base gk : Nat} {t : TypeId} {cs : Array Value} {W w' : World} {v v' : Value} {l l' : List Nat} (h : Wk w v0 base gk t cs W v l) (hte : t ≠ 5) (hr : Rw w' base v' l') (he : Ext W v w' v') : Wk w v0 base gk t cs w' v' l' :=
  ⟨hr, h.ext.trans he, blk_ext h.blk hte h.row he, Nat.le_trans h.hB he.size⟩
theorem Wk.cell {w : World} {v0 : Value} {base gk : Nat} {t : TypeId} {cs : Array Value} {W : World} {v : Value} {l : List Nat} (h : Wk w v0 base gk t cs W v l) (i : Nat) {x : Value} (e : cs[i]? = some x) : W.cell? ⟨gk, i, none⟩ = some x := by
  rw [cell_of_row W gk i cs t (0, 0) h.blk, e]

set_option maxRecDepth 100000 in
set_option maxHeartbeats 2000000 in
theorem withKind_any (base : Nat) (v : Value) (l : List Nat) (f : Nat → Int) (m : Int) (w : World) (hr : Rw w base v l) (ho : okK f m = true) (hm : m ≤ 16) (hl : l.length ≤ 100000) (hB : base ≤ w.heap.size) :
    Calls Try.prog 25 #[v, .agg (kcs f)] w (RetX base v (l ++ kby f) w) := by
  obtain ⟨⟨sp0, sp1⟩, hj⟩ := okK_bd ho hm
  have HJ := Lib.hid hj
  have SP : Hid (-70368744177664 ≤ f 2 ∧ f 2 < 70368744177664) := by constructor <;> omega
  have HL := Lib.hid hl
  have X := Lib.hid (Wk.new (base := base) 46 (kcs f) hr hB)
  have hte : 46 ≠ 5 := by decide
  have HB0 := Lib.hid hB
  clear ho hm hr sp0 sp1 hj hl hB
  go_enter Try.func25, Try.ntmps25
  go_upto_region 1 with fail
  generalize w.alloc (.cells (kcs f) 46) = w0 at *
  have c0 := X.out.cell 0 (x := .int .i64 (f 0)) rfl
  go_wp2_with fail
  refine (fields_any base _ _ 1 _ 1 [f 0] _ (X.out.alloc _).row (alloc_blk _ _ _) rfl (by decide) (lst_bd _ rfl (fun v hv => ?_)) ?_ (by decide) (X.out.alloc _).hB).mono ?_
  · simp only [List.mem_cons, List.not_mem_nil, or_false] at hv
    rcases hv with rfl
    · have := HJ.out 0 (by decide) (by decide); omega
  · have := HL.out; (try simp only [List.length_append, flds_length]); omega
  rintro e w1 ⟨v1, rfl, hr, he⟩
  have X1 := Lib.hid ((X.out.alloc _).step hte hr he)
  clear hr he X c0
  have X := X1
  clear X1
  have c1 := X.out.cell 1 (x := .int .i64 (f 1)) rfl
  have c3 := X.out.cell 3 (x := .int .i64 (f 3)) rfl
  have c8 := X.out.cell 8 (x := .int .i64 (f 8)) rfl
  have c9 := X.out.cell 9 (x := .int .i64 (f 9)) rfl
  have c10 := X.out.cell 10 (x := .int .i64 (f 10)) rfl
  have c14 := X.out.cell 14 (x := .int .i64 (f 14)) rfl
  have c15 := X.out.cell 15 (x := .int .i64 (f 15)) rfl
  have c19 := X.out.cell 19 (x := .int .i64 (f 19)) rfl
  go_wp2_with fail
  refine (fields_any base _ _ 2 _ 8 [f 1, f 3, f 8, f 9, f 10, f 14, f 15, f 19] _ (X.out.alloc _).row (alloc_blk _ _ _) rfl (by decide) (lst_bd _ rfl (fun v hv => ?_)) ?_ (by decide) (X.out.alloc _).hB).mono ?_
  · simp only [List.mem_cons, List.not_mem_nil, or_false] at hv
    rcases hv with rfl | rfl | rfl | rfl | rfl | rfl | rfl | rfl
    · have := HJ.out 1 (by decide) (by decide); omega
    · have := HJ.out 3 (by decide) (by decide); omega
    · have := HJ.out 8 (by decide) (by decide); omega
    · have := HJ.out 9 (by decide) (by decide); omega
    · have := HJ.out 10 (by decide) (by decide); omega
    · have := HJ.out 14 (by decide) (by decide); omega
    · have := HJ.out 15 (by decide) (by decide); omega
    · have := HJ.out 19 (by decide) (by decide); omega
  · have := HL.out; (try simp only [List.length_append, flds_length]); omega
  rintro e w2 ⟨v2, rfl, hr, he⟩
  have X2 := Lib.hid ((X.out.alloc _).step hte hr he)
  clear hr he X c1 c3 c8 c9 c10 c14 c15 c19
  have X := X2
  clear X2
  have c4 := X.out.cell 4 (x := .int .i64 (f 4)) rfl
  have c5 := X.out.cell 5 (x := .int .i64 (f 5)) rfl
  have c6 := X.out.cell 6 (x := .int .i64 (f 6)) rfl
  have c7 := X.out.cell 7 (x := .int .i64 (f 7)) rfl
  have c11 := X.out.cell 11 (x := .int .i64 (f 11)) rfl
  have c12 := X.out.cell 12 (x := .int .i64 (f 12)) rfl
  have c13 := X.out.cell 13 (x := .int .i64 (f 13)) rfl
  have c16 := X.out.cell 16 (x := .int .i64 (f 16)) rfl
  have c17 := X.out.cell 17 (x := .int .i64 (f 17)) rfl
  have c18 := X.out.cell 18 (x := .int .i64 (f 18)) rfl
  go_wp2_with fail
  refine (fields_any base _ _ 1 _ 10 [f 4, f 5, f 6, f 7, f 11, f 12, f 13, f 16, f 17, f 18] _ (X.out.alloc _).row (alloc_blk _ _ _) rfl (by decide) (lst_bd _ rfl (fun v hv => ?_)) ?_ (by decide) (X.out.alloc _).hB).mono ?_
  · simp only [List.mem_cons, List.not_mem_nil, or_false] at hv
    rcases hv with rfl | rfl | rfl | rfl | rfl | rfl | rfl | rfl | rfl | rfl
    · have := HJ.out 4 (by decide) (by decide); omega
    · have := HJ.out 5 (by decide) (by decide); omega
    · have := HJ.out 6 (by decide) (by decide); omega
    · have := HJ.out 7 (by decide) (by decide); omega
    · have := HJ.out 11 (by decide) (by decide); omega
    · have := HJ.out 12 (by decide) (by decide); omega
    · have := HJ.out 13 (by decide) (by decide); omega
    · have := HJ.out 16 (by decide) (by decide); omega
    · have := HJ.out 17 (by decide) (by decide); omega
    · have := HJ.out 18 (by decide) (by decide); omega
  · have := HL.out; (try simp only [List.length_append, flds_length]); omega
  rintro e w3 ⟨v3, rfl, hr, he⟩
  have X3 := Lib.hid ((X.out.alloc _).step hte hr he)
  clear hr he X c4 c5 c6 c7 c11 c12 c13 c16 c17 c18
  have X := X3
  clear X3
  have c2 := X.out.cell 2 (x := .int .i64 (f 2)) rfl
  go_wp2_with fail
  refine (withSpeed_any base _ _ (f 2) _ X.out.row SP.out.1 SP.out.2 ?_ X.out.hB).mono ?_
  · have := HL.out; (try simp only [List.length_append, flds_length]); omega
  rintro e w4 ⟨v4, rfl, hr, he⟩
  have X4 := Lib.hid (X.out.step hte hr he)
  clear hr he X c2
  go_wp2
  go_ret
  refine ⟨v4, rfl, ?_, X4.out.ext⟩
  have := X4.out.row
  unfold kby
  simpa only [List.append_assoc] using this

set_option maxRecDepth 100000 in
set_option maxHeartbeats 2000000 in
theorem withWeapon_any (base : Nat) (v : Value) (l : List Nat) (f : Nat → Int) (b : Bool) (w : World) (hr : Rw w base v l) (ho : okW f = true) (hl : l.length ≤ 100000) (hB : base ≤ w.heap.size) :
    Calls Try.prog 26 #[v, .agg (wcs f b)] w (RetX base v (l ++ wby f b) w) := by
  have HJ := Lib.hid (okW_bd ho)
  have SP : Hid (-70368744177664 ≤ f 2 ∧ f 2 < 70368744177664) := by have := HJ.out; constructor <;> omega
  have HL := Lib.hid hl
  have X := Lib.hid (Wk.new (base := base) 51 (wcs f b) hr hB)
  have hte : 51 ≠ 5 := by decide
  clear ho hr hl hB
  obtain ⟨u, hu⟩ : ∃ u : Int, (if b then 1 else 0) = u := ⟨_, rfl⟩
  have HU : Hid (0 ≤ u ∧ u ≤ 1) := by rw [← hu]; cases b <;> exact ⟨by decide, by decide⟩
  have HY : Hid (wby f b = flds 2 (lst [f 1]) 1 ++ (flds 1 (lst [f 0, f 3, f 4, u]) 4 ++ le 8 (spd (f 2)))) := by show _ = _; unfold wby; rw [hu]
  go_enter Try.func26, Try.ntmps26
  go_upto_region 1 with fail
  generalize w.alloc (.cells (wcs f b) 51) = w0 at *
  have c5 := X.out.cell 5 (x := .bool b) rfl
  go_upto_if 7 with fail
  go_cut [5] (fun s5 wx => s5 = .int .i64 u ∧ wx = w0)
  case first =>
    cases b
    · have hu' : Hid ((0 : Int) = u) := by show _ = _; simpa using hu
      clear hu
      go_wp2
      go_meet
      exact ⟨congrArg (Value.int .i64) hu'.out, rfl⟩
    · have hu' : Hid ((1 : Int) = u) := by show _ = _; simpa using hu
      clear hu
      go_wp2
      go_meet
      exact ⟨congrArg (Value.int .i64) hu'.out, rfl⟩
  case rest =>
    obtain ⟨rfl, rfl⟩ := hcut
    rename World => w0
    clear hu c5
    have c1 := X.out.cell 1 (x := .int .i64 (f 1)) rfl
    go_wp2_with fail
    refine (fields_any base _ _ 2 _ 1 [f 1] _ (X.out.alloc _).row (alloc_blk _ _ _) rfl (by decide) (lst_bd _ rfl (fun v hv => ?_)) ?_ (by decide) (X.out.alloc _).hB).mono ?_
    · simp only [List.mem_cons, List.not_mem_nil, or_false] at hv
      subst hv
      have := HJ.out
      omega
    · have := HL.out; (try simp only [List.length_append, flds_length]); omega
    rintro e w1 ⟨v1, rfl, hr, he⟩
    have X1 := Lib.hid ((X.out.alloc _).step hte hr he)
    clear hr he X c1
    have c0 := X1.out.cell 0 (x := .int .i64 (f 0)) rfl
    have c3 := X1.out.cell 3 (x := .int .i64 (f 3)) rfl
    have c4 := X1.out.cell 4 (x := .int .i64 (f 4)) rfl
    go_wp2_with fail
    refine (fields_any base _ _ 1 _ 4 [f 0, f 3, f 4, u] _ (X1.out.alloc _).row (alloc_blk _ _ _) rfl (by decide) (lst_bd _ rfl (fun v hv => ?_)) ?_ (by decide) (X1.out.alloc _).hB).mono ?_
    · simp only [List.mem_cons, List.not_mem_nil, or_false] at hv
      have := HJ.out
      have := HU.out
      rcases hv with rfl | rfl | rfl | rfl <;> omega
    · have := HL.out; (try simp only [List.length_append, flds_length]); omega
    rintro e w2 ⟨v2, rfl, hr, he⟩
    have X2 := Lib.hid ((X1.out.alloc _).step hte hr he)
    clear hr he X1 c0 c3 c4
    have c2 := X2.out.cell 2 (x := .int .i64 (f 2)) rfl
    go_wp2_with fail
    refine (withSpeed_any base _ _ (f 2) _ X2.out.row SP.out.1 SP.out.2 ?_ X2.out.hB).mono ?_
    · have := HL.out; (try simp only [List.length_append, flds_length]); omega
    rintro e w4 ⟨v4, rfl, hr, he⟩
    have X4 := Lib.hid (X2.out.step hte hr he)
    clear hr he X2 c2
    go_wp2
    go_ret
    refine ⟨v4, rfl, ?_, X4.out.ext⟩
    have := X4.out.row
    rw [HY.out]
    simpa only [List.append_assoc] using this
end Go.Proofs.Ytpgifcgidelmaaa
