/- Contracts: nearest, Nearest, Within. -/
import Derived.Test.YtkghjaodnkjmoaaNr12
namespace Go.Proofs.Ytkghjaodnkjmoaa
open Go.RowKit Go.Shelf
set_option linter.unusedVariables false

section
variable (X Y : Nat → Int)
theorem run_len {w : World} {m : Nat} {es : Array MapEntry} {clock : Nat} (ty : TypeId) (hm : w.heap[m]? = some (.map es clock)) : (Builtin.len_ #[54] ty #[.map (some m)]).run Try.prog w = .ok (.int .i64 (es.size : Int)) w := by
  simp [Builtin.len_, run_underlying Try.underlying54, MapKept.run_getObj_map hm, Result.andThen, goInt]
theorem run_field0 (a b c : Int) (w : World) : (Instr.field 58 (.agg #[.int .i64 a, .int .i64 b, .int .i64 c]) 0).run Try.prog w = .ok (.int .i64 a) w := by
  simp [Instr.field, run_underlying Try.underlying58, part, Try.isAgg3, Result.andThen, asAgg]
theorem Ix.len {w : World} {p n : Nat} (h : Ix X Y w p n) : ∃ m es clock, w.cell? ⟨p, 0, none⟩ = some (.map (some m)) ∧ w.heap[m]? = some (.map es clock) ∧ (es.size = 0 ↔ n = 0) := by
  obtain ⟨lt, m, es, clock, f, h0, hm, M, h1, h2⟩ := h
  refine ⟨m, es, clock, h0, hm, ?_, ?_⟩
  · intro he
    apply Classical.byContradiction
    intro hn
    have hg : grp X Y n (sqv (X 0)) (sqv (Y 0)) ≠ [] := by
      intro hq
      have : 0 ∈ grp X Y n (sqv (X 0)) (sqv (Y 0)) := mem_grp.2 ⟨by omega, rfl, rfl⟩
      rw [hq] at this
      simp at this
    obtain ⟨A, c, e, _⟩ := h2 _ _ hg
    obtain ⟨x, hx, _⟩ := M.has _ _ _ e
    have : es = #[] := Array.eq_empty_of_size_eq_zero he
    subst this
    simp at hx
  · intro hn
    subst hn
    apply Classical.byContradiction
    intro he
    obtain ⟨x, hx⟩ : ∃ x, x ∈ es.toList := ⟨es[0], by simp⟩
    obtain ⟨a, b, _, _, _, hf⟩ := M.key x hx
    rw [h1 a b (by simp [grp])] at hf
    cases hf

set_option maxHeartbeats 2000000 in
theorem nearest_any (l : List Nat) (A : Option Addr) (c n : Nat) (x y : Int) (w : World) (h0 : 0 < l.length) (hl : l.length ≤ 256) (hE : Es X Y w A l) (hn : ∀ e ∈ l, e < n) (hO : oks X Y n) (hx : 0 ≤ x ∧ x ≤ 67108864) (hy : 0 ≤ y ∧ y ≤ 67108864) :
    Calls Try.prog 22 #[.slice A l.length c, .int .i64 x, .int .i64 y] w fun e w' =>
      ∃ m, Mn X Y x y l m ∧ e = .returned (.agg #[.int .i64 (m : Int), .int .i64 (X m), .int .i64 (Y m)]) ∧ Below w.heap.size w w' := by
  have k1 := (Kx.new w 2 #[.int .i64 x])
  have k2 := (Kx.next k1.below 2 #[.int .i64 y])
  have k3 := (Kx.next k2.below 58 #[.int .i64 0, .int .i64 0, .int .i64 0])
  have b1 := (k1.alloc (.cells #[.int .i64 y] 2)).alloc (.cells #[.int .i64 0, .int .i64 0, .int .i64 0] 58)
  have b2 := k2.alloc (.cells #[.int .i64 0, .int .i64 0, .int .i64 0] 58)
  simp only [size_alloc] at b1 b2 k3
  have MF := Lib.hid (minFunc_any X Y x y l A c w.heap.size (w.heap.size + 1) n _ h0 hl (hE.keep X Y k3.below) hn hO hx hy (b1.cell 0 rfl) (b2.cell 0 rfl))
  have K3 : Hid (Kx w (w.heap.size + 2) (((w.alloc (.cells #[.int .i64 x] 2)).alloc (.cells #[.int .i64 y] 2)).alloc (.cells #[.int .i64 0, .int .i64 0, .int .i64 0] 58)) 58 #[.int .i64 0, .int .i64 0, .int .i64 0]) := k3
  clear k1 k2 k3 b1 b2 hE hn hO hx hy
  generalize l.length = L at *
  go_enter Try.func22, Try.ntmps22
  go_wp2_with fail
  refine MF.out.mono ?_
  rintro e w1 ⟨m, hM, rfl, b1⟩
  have K4 := Lib.hid (K3.out.keep b1)
  have K5 := Lib.hid ((K3.out.keep b1).row2 #[.int .i64 (m : Int), .int .i64 (X m), .int .i64 (Y m)])
  have HM := Lib.hid hM
  clear b1 hM K3 MF
  go_wp2_with (refine wpList_store_blk (c' := #[.int .i64 (m : Int), .int .i64 (X m), .int .i64 (Y m)]) Try.sizeE K4.out.blk rfl rfl rfl rfl rfl rfl (en_one _ _ _) ?_)
  refine bodyPost_ret (v := .agg #[.int .i64 (m : Int), .int .i64 (X m), .int .i64 (Y m)]) ?_ rfl ⟨m, HM.out, rfl, K5.out.below⟩
  exact results_cell_row Try.results22 _ _ (w.heap.size + 2) _ _ (0, 0) _ rfl K5.out.blk Try.underlying58 rfl Try.sizeE

/-- The nearest of those of a reach is the nearest of all. -/
theorem mn_all {n : Nat} {x y r : Int} {m : Nat} (hr : 0 ≤ r) (h : Mn X Y x y (wlist X Y n x y r) m) : Mn X Y x y (List.range n) m := by
  have hp := wlist_perm X Y n x y r hr
  have hm := win_mem.1 (hp.mem_iff.1 h.1)
  refine ⟨by simp [hm.1], fun e he => ?_⟩
  have hen : e < n := by simpa using he
  by_cases hd : dst X Y x y e ≤ r * r
  · exact h.2 e (hp.mem_iff.2 (win_mem.2 ⟨hen, hd⟩))
  · right
    unfold nlt
    omega

/-- What Nearest hands back. -/
def RetNr (n : Nat) (x y : Int) (w : World) (e : Ending) (w' : World) : Prop :=
  Below w.heap.size w w' ∧ ((¬ (sp x = true ∧ sp y = true) ∧ e = .returned (.tuple #[.int .i64 0, .int .i64 1])) ∨ ((sp x = true ∧ sp y = true) ∧ n = 0 ∧ e = .returned (.tuple #[.int .i64 0, .int .i64 6])) ∨
    ((sp x = true ∧ sp y = true) ∧ ∃ m, Mn X Y x y (List.range n) m ∧ e = .returned (.tuple #[.int .i64 (m : Int), .int .i64 0])))
set_option maxRecDepth 100000 in
set_option maxHeartbeats 2000000 in
theorem nearestM_any (p n : Nat) (x y : Int) (w : World) (hI : Ix X Y w p n) (hO : oks X Y n) (hn : n ≤ 256) :
    Calls Try.prog 14 #[.pointer (some ⟨p, 0, none⟩), .int .i64 x, .int .i64 y] w (RetNr X Y n x y w) := by
  have KX := Lib.hid (Kx.new w 2 #[.int .i64 x, .int .i64 y])
  have HU := Lib.hid (upto2 x y w.heap.size 2 (w.alloc (.cells #[.int .i64 x, .int .i64 y] 2)) (by simp) (by simp))
  have HI := Lib.hid hI
  have HO := Lib.hid hO
  clear hI hO
  by_cases hs : sp x = true ∧ sp y = true
  · have HS : Hid ((sp x && sp y) = true) := by show _ = _; rw [hs.1, hs.2]; rfl
    have HSs := Lib.hid hs
    clear hs
    go_enter Try.func14, Try.ntmps14
    go_wp2_with fail
    refine HU.out.mono ?_
    rw [HS.out]
    rintro e w1 ⟨rfl, b1⟩
    have K1 := Lib.hid (KX.out.keep b1)
    clear b1 KX HU
    obtain ⟨mm, es, clock, c0, hm, hz⟩ := (HI.out.keep X Y K1.out.below).len X Y
    have hlen := run_len 3 hm
    generalize es.size = z at *
    clear hm
    by_cases hn0 : n = 0
    · have he : z = 0 := hz.2 hn0
      subst he
      clear hz
      go_wp2
      go_ret2
      exact ⟨K1.out.below, .inr (.inl ⟨HSs.out, hn0, rfl⟩)⟩
    · have he : ¬ (z : Int) = 0 := fun h => hn0 (hz.1 (by omega))
      have he2 : ¬ z = 0 := fun h => hn0 (hz.1 h)
      have SM := Lib.hid (some_any X Y p n x y w1 (HI.out.keep X Y K1.out.below) HO.out (by omega) hn (sp_iff.1 HSs.out.1) (sp_iff.1 HSs.out.2))
      clear hz hn0
      go_wp2_with fail
      refine SM.out.mono ?_
      rintro e w2 ⟨k, A, c, hk, hl0, rfl, q1, q2, q3, b2⟩
      have hrk : 0 ≤ rk k := by have := rk_small hk; omega
      have hp := wlist_perm X Y n x y (rk k) hrk
      have NE := Lib.hid (nearest_any X Y (wlist X Y n x y (rk k)) A c n x y w2 hl0 (Nat.le_trans (wlist_len X Y n x y (rk k) hrk) hn) q3 (fun e he => (win_mem.1 (hp.mem_iff.1 he)).1) HO.out (sp_iff.1 HSs.out.1) (sp_iff.1 HSs.out.2))
      have HM := Lib.hid (fun m h => mn_all X Y (n := n) (x := x) (y := y) (m := m) hrk h)
      have K2 := Lib.hid (K1.out.keep b2)
      clear hk hl0 q1 q2 q3 b2 hp hrk SM K1
      generalize wlist X Y n x y (rk k) = wl at *
      generalize wl.length = L at *
      go_wp2_with fail
      refine NE.out.mono ?_
      rintro e w3 ⟨m, hm, rfl, b3⟩
      have HR : Hid (Mn X Y x y (List.range n) m ∧ Below w.heap.size w w3) := ⟨HM.out m hm, (K2.out.keep b3).below⟩
      clear hm b3 NE K2 HM
      have hf := run_field0 (m : Int) (X m) (Y m) w3
      go_wp2
      go_ret2
      exact ⟨HR.out.2, .inr (.inr ⟨HSs.out, m, HR.out.1, rfl⟩)⟩
  · have HS : Hid ((sp x && sp y) = false) := by
      show _ = _
      cases h1 : sp x <;> cases h2 : sp y <;> simp_all
    have HSs := Lib.hid hs
    clear hs
    go_enter Try.func14, Try.ntmps14
    go_wp2_with fail
    refine HU.out.mono ?_
    rw [HS.out]
    rintro e w1 ⟨rfl, b1⟩
    have K1 := Lib.hid (KX.out.keep b1)
    clear b1 KX HU
    go_wp2
    go_ret2
    exact ⟨K1.out.below, .inl ⟨HSs.out, rfl⟩⟩

/-- What Within hands back. -/
def RetWi (n : Nat) (x y r : Int) (w : World) (e : Ending) (w' : World) : Prop :=
  Below w.heap.size w w' ∧ ((¬ (sp x = true ∧ sp y = true ∧ sp r = true) ∧ e = .returned (.tuple #[.slice none 0 0, .int .i64 1])) ∨
    ((sp x = true ∧ sp y = true ∧ sp r = true) ∧ ∃ A k, e = .returned (.tuple #[.slice A (wsel X Y n x y r 0).length k, .int .i64 0]) ∧ (wsel X Y n x y r 0).length ≤ k ∧ k ≤ maxLen ∧ Is w' A (wsel X Y n x y r 0).length (fun i => (wsel X Y n x y r 0).getD i 0)))
set_option maxRecDepth 100000 in
set_option maxHeartbeats 2000000 in
theorem withinM_any (p n : Nat) (x y r : Int) (w : World) (hI : Ix X Y w p n) (hO : oks X Y n) (hn : n ≤ 256) :
    Calls Try.prog 10 #[.pointer (some ⟨p, 0, none⟩), .int .i64 x, .int .i64 y, .int .i64 r] w (RetWi X Y n x y r w) := by
  have KX := Lib.hid (Kx.new w 2 #[.int .i64 x, .int .i64 y, .int .i64 r])
  have HU := Lib.hid (upto3 x y r w.heap.size 3 (w.alloc (.cells #[.int .i64 x, .int .i64 y, .int .i64 r] 2)) (by simp) (by simp) (by simp))
  have HI := Lib.hid hI
  have HO := Lib.hid hO
  clear hI hO
  by_cases hs : sp x = true ∧ sp y = true ∧ sp r = true
  · have HS : Hid ((sp x && (sp y && sp r)) = true) := by show _ = _; rw [hs.1, hs.2.1, hs.2.2]; rfl
    have HSs := Lib.hid hs
    clear hs
    go_enter Try.func10, Try.ntmps10
    go_wp2_with fail
    refine HU.out.mono ?_
    rw [HS.out]
    rintro e w1 ⟨rfl, b1⟩
    have K1 := Lib.hid (KX.out.keep b1)
    clear b1 KX HU
    have IX := Lib.hid (indexes_any X Y p n x y r 0 w1 (HI.out.keep X Y K1.out.below) HO.out hn (sp_iff.1 HSs.out.1) (sp_iff.1 HSs.out.2.1) ⟨(sp_iff.1 HSs.out.2.2).1, by have := (sp_iff.1 HSs.out.2.2).2; omega⟩)
    go_wp2_with fail
    refine IX.out.mono ?_
    rintro e w2 ⟨A, k, rfl, q1, q2, q3, b2, -⟩
    have HR : Hid (Below w.heap.size w w2 ∧ (wsel X Y n x y r 0).length ≤ k ∧ k ≤ maxLen ∧ Is w2 A (wsel X Y n x y r 0).length (fun i => (wsel X Y n x y r 0).getD i 0)) := ⟨(K1.out.keep b2).below, q1, q2, q3⟩
    clear q1 q2 q3 b2 IX K1
    obtain ⟨ls, hls⟩ : ∃ ls, wsel X Y n x y r 0 = ls := ⟨_, rfl⟩
    rw [hls] at HR ⊢
    have HL := Lib.hid hls
    clear hls
    go_wp2
    go_ret2
    refine ⟨HR.out.1, .inr ⟨HSs.out, ?_⟩⟩
    rw [HL.out]
    exact ⟨A, k, rfl, HR.out.2.1, HR.out.2.2.1, HR.out.2.2.2⟩
  · have HS : Hid ((sp x && (sp y && sp r)) = false) := by
      show _ = _
      cases h1 : sp x <;> cases h2 : sp y <;> cases h3 : sp r <;> simp_all
    have HSs := Lib.hid hs
    clear hs
    go_enter Try.func10, Try.ntmps10
    go_wp2_with fail
    refine HU.out.mono ?_
    rw [HS.out]
    rintro e w1 ⟨rfl, b1⟩
    have K1 := Lib.hid (KX.out.keep b1)
    clear b1 KX HU
    go_wp2
    go_ret2
    exact ⟨K1.out.below, .inl ⟨HSs.out, rfl⟩⟩
end
end Go.Proofs.Ytkghjaodnkjmoaa
