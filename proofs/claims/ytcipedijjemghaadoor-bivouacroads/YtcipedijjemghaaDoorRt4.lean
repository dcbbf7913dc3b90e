/- Contracts: visitAll. -/
import Derived.Test.YtcipedijjemghaaDoorRt2
import Derived.Test.YtcipedijjemghaaDoorRtMath2
import Derived.Test.YtcipedijjemghaaDoorRh5
import Derived.Deep.WholeRow
namespace Go.Proofs.YtcipedijjemghaaDoor
open Go.RowKit Go.Sort Go.Shelf
set_option linter.unusedVariables false
set_option linter.unusedSimpArgs false
attribute [local go_sem] Oper.semAt_some

/-- The steps' cells. -/
def stA : Array Value := #[.int .i64 1, .int .i64 0, .int .i64 2, .int .i64 1, .int .i64 1, .int .i64 3, .int .i64 0, .int .i64 1, .int .i64 2, .int .i64 (-1), .int .i64 1, .int .i64 3,
  .int .i64 (-1), .int .i64 0, .int .i64 2, .int .i64 (-1), .int .i64 (-1), .int .i64 3, .int .i64 0, .int .i64 (-1), .int .i64 2, .int .i64 1, .int .i64 (-1), .int .i64 3]
/-- The table of steps lies as the text lays it. -/
def Tst (w : World) : Prop := ∀ i : Nat, i < 24 → w.cell? ⟨0, i, none⟩ = stA[i]?
theorem Tst.keep {w w' : World} (h : Tst w) (hb : Below w.heap.size w w') : Tst w' := fun i hi => by
  have hc := h i hi
  have hs : stA[i]? = some stA[i]! := by rw [getElem!_pos stA i hi]; exact Array.getElem?_eq_getElem hi
  rw [hs] at hc ⊢
  exact kc hb hc
theorem run_load13 {P : Program} (W : World) (ad : Addr) (ty : TypeId) (cs : List Value) (d : TypeDesc) (hu : P.underlying ty = some d) (hd : (match d with | .struct _ | .array _ _ => true | _ => false) = true) (hi : (P.info? ty).map (·.size) = some cs.length)
    (h : ∀ j v, cs[j]? = some v → W.cell? (ad.add j) = some v) : (loadVar ty ad).run P W = .ok (.agg cs.toArray) W := by
  have hl := run_loadCells_list (P := P) W ad cs h
  cases hq : P.info? ty with
  | none => simp [hq] at hi
  | some i =>
    have hs : i.size = cs.length := by simpa [hq] using hi
    have hagg : (isAgg ty).run P W = .ok true W := by
      unfold isAgg
      rw [Sem.run_bind, run_underlying hu W]
      cases d <;> simp_all
    simp [loadVar, Sem.run_bind, hagg, sizeOf, typeInfo, hq, hs, hl]
theorem load_steps {w : World} (h : Tst w) : (loadVar 80 ⟨0, 0, none⟩).run Tryd.prog w = .ok (.agg stA) w := by
  have := run_load13 (P := Tryd.prog) w ⟨0, 0, none⟩ 80 stA.toList _ Tryd.underlying80 rfl (by kernel_rfl) (fun j v hv => by
    have hj : j < 24 := by
      rcases Nat.lt_or_ge j 24 with h | h
      · exact h
      · rw [List.getElem?_eq_none (by simpa [stA] using h)] at hv; cases hv
    have e : (⟨0, 0, none⟩ : Addr).add j = ⟨0, j, none⟩ := by unfold Addr.add; split <;> simp_all
    rw [e, h j hj, ← Array.getElem?_toList]; exact hv)
  simpa using this
theorem index_step {s : Nat} (hs : s < 8) (w : World) : (Instr.index 80 (.agg stA) (.int .i64 (s : Int))).run Tryd.prog w = .ok (.agg #[.int .i64 (dI s), .int .i64 (dJ s), .int .i64 (prc s)]) w := by
  have : s = 0 ∨ s = 1 ∨ s = 2 ∨ s = 3 ∨ s = 4 ∨ s = 5 ∨ s = 6 ∨ s = 7 := by omega
  rcases this with rfl | rfl | rfl | rfl | rfl | rfl | rfl | rfl <;> rfl
section
variable {ops : Array Oper} {rest : List Oper} {o : Oper} {a : Act} {Q : Exit → Act → World → Prop}
theorem wpList_load13 {w : World} {ty : TypeId} {x : Operand} {ad : Addr} {v : Value} (hl : (loadVar ty ad).run Tryd.prog w = .ok v w) (hgd : o.guard = none) (ho : o.op = .load ty x) (hx : a.eval x = .pointer (some ad))
    (h : wpList Tryd.prog ops Q rest (a.put o.dst v) w) : wpList Tryd.prog ops Q (o :: rest) a w := by
  refine wpList_plain hgd fun K hK => ?_
  unfold Oper.wp execOp
  simp only [ho, hx, Instr.loadAt, Instr.sureAddr, Sem.run_bind, Sem.run_pure, Result.andThen_ok, hl]
  exact hK _ _ h
end

/-- Nothing that lay has turned but blocks of P. -/
structure Tp (P : Nat → Prop) (w w' : World) : Prop where
  os : w'.os = w.os
  tape : w'.tape = w.tape
  output : w'.output = w.output
  size : w.heap.size ≤ w'.heap.size
  block : ∀ k, k < w.heap.size → ¬ P k → w'.heap[k]? = w.heap[k]?
theorem Tp.refl (P : Nat → Prop) (w : World) : Tp P w w := ⟨rfl, rfl, rfl, Nat.le_refl _, fun _ _ _ => rfl⟩
theorem Tp.trans {P R : Nat → Prop} {w w1 w2 : World} (h : Tp P w w1) (k : Tp R w1 w2) (hr : ∀ q, q < w.heap.size → R q → P q) : Tp P w w2 :=
  ⟨k.os.trans h.os, k.tape.trans h.tape, k.output.trans h.output, Nat.le_trans h.size k.size, fun q hq hp =>
    (k.block q (Nat.lt_of_lt_of_le hq h.size) (fun e => hp (hr q hq e))).trans (h.block q hq hp)⟩
theorem Tp.ofB {P : Nat → Prop} {w w' : World} (h : Below w.heap.size w w') : Tp P w w' := ⟨h.os, h.tape, h.output, h.size, fun k hk _ => h.block k hk⟩
theorem Tp.ofG {w w' : World} {b : Nat} (h : w.grownBy w' (some b)) : Tp (fun k => k = b) w w' := ⟨h.os, h.tape, h.output, h.size, fun k hk hn => h.block k hk (fun e => hn (by injection e))⟩
theorem Tp.ofT {hb : Nat} {v : Value} {w w' : World} (h : Tw hb v w w') : Tp (fun k => k = hb ∨ v.ownBlock = some k) w w' := ⟨h.os, h.tape, h.output, h.size, fun k hk hn => h.block k hk (fun e => hn (.inl e)) (fun e => hn (.inr e.symm))⟩
theorem Tp.below {P : Nat → Prop} {B : Nat} {w w' : World} (h : Tp P w w') (hB : B ≤ w.heap.size) (hP : ∀ k, P k → B ≤ k) : Below B w w' :=
  ⟨h.os, h.tape, h.output, h.size, fun k hk => h.block k (by omega) (fun e => by have := hP k e; omega)⟩
def Pq (rg hb : Nat) (v : Value) (k : Nat) : Prop := k = rg ∨ k = hb ∨ v.ownBlock = some k
theorem Nw.pq {w : World} {rg hb : Nat} {v v' : Value} (h : Nw w v v') : ∀ q, q < w.heap.size → Pq rg hb v' q → Pq rg hb v q := by
  intro q hq hp
  rcases hp with e | e | e
  · exact .inl e
  · exact .inr (.inl e)
  · rcases h with h | h
    · exact .inr (.inr (by rw [← h]; exact e))
    · have := h q e; omega
/-- Costs, and a heap, since world w. -/
structure Vst (w : World) (base rg hb : Nat) (v0 : Value) (N : Nat) (F : Nat → Int) (v : Value) (hl : List (Int × Int)) (wr : World) : Prop where
  ir : Ir wr rg N F
  hp : Hp wr base hb v hl
  ho : Hpo hl
  tp : Tp (Pq rg hb v0) w wr
  nw : Nw w v0 v
section
variable {w : World} {base rg hb N : Nat} {v0 v : Value} {F : Nat → Int} {hl : List (Int × Int)} {wr : World}
theorem Vst.start (hi : Ir w rg N F) (hp : Hp w base hb v hl) (ho : Hpo hl) : Vst w base rg hb v N F v hl w := ⟨hi, hp, ho, Tp.refl _ _, Nw.refl _ _⟩
theorem Vst.keep (h : Vst w base rg hb v0 N F v hl wr) {w' : World} (hb' : Below wr.heap.size wr w') : Vst w base rg hb v0 N F v hl w' :=
  ⟨h.ir.keep hb', h.hp.keep hb', h.ho, h.tp.trans (R := Pq rg hb v0) (Tp.ofB hb') (fun _ _ e => e), h.nw⟩
theorem Vst.ne (h : Vst w base rg hb v0 N F v hl wr) : rg ≠ hb ∧ some rg ≠ v.ownBlock := by
  obtain ⟨cs, h1, h2⟩ := h.ir
  refine ⟨fun e => ?_, blk_not_row h1 (by decide) h.hp.row⟩
  have := h.hp.blk
  rw [← e, h1] at this
  injection this with this
  injection this with _ this
  exact absurd this (by decide)
theorem Vst.set (h : Vst w base rg hb v0 N F v hl wr) {i : Nat} (hi : i < N) (z : Int) : Vst w base rg hb v0 N (upd F i z) v hl (wr.setCell ⟨rg, i, none⟩ (.int .i64 z)) := by
  obtain ⟨n1, n2⟩ := h.ne
  have G := grown_set wr rg i (.int .i64 z)
  exact ⟨h.ir.set hi z, ⟨h.hp.ge, (G.block hb h.hp.lt (by simpa using Ne.symm n1)).trans h.hp.blk, h.hp.row.kept G (.inr (Ne.symm n2)), h.hp.len⟩, h.ho, h.tp.trans (Tp.ofG G) (fun q _ e => .inl e), h.nw⟩
theorem Vst.put (h : Vst w base rg hb v0 N F v hl wr) {w' : World} {v' : Value} {l' : List (Int × Int)} (h1 : Hp w' base hb v' l') (h2 : Hpo l') (h3 : Tw hb v wr w') (h4 : Nw wr v v') : Vst w base rg hb v0 N F v' l' w' := by
  obtain ⟨n1, n2⟩ := h.ne
  refine ⟨h.ir.block (h3.block rg h.ir.lt n1 n2), h1, h2, h.tp.trans (Tp.ofT h3) (fun q hq e => ?_), h.nw.trans h4 h.tp.size⟩
  rcases e with e | e
  · exact .inr (.inl e)
  · exact h.nw.pq q hq (.inr (.inr e))
/-- A block that is none of them. -/
theorem Vst.row_far (h : Vst w base rg hb v0 N F v hl wr) {b : Nat} (hb : w.heap.size ≤ b) (hv : ∀ k, v.ownBlock = some k → k < w.heap.size ∨ b < k) : some b ≠ v.ownBlock := fun e => by
  have := hv b e.symm
  omega
end

/-- All about one cell is visited. -/
def RetVis (W H : Int) (O : Nat → Bool) (N b : Nat) (u : Int) (base rg hb : Nat) (v0 : Value) (S : Nat) (w : World) (e : Ending) (w' : World) : Prop :=
  e = .returned (.tuple #[]) ∧ ∃ F v hl, Vst w base rg hb v0 N F v hl w' ∧ Dj W H O N b u F hl (-1) 0 ∧ sumR F N + hl.length ≤ S

set_option maxHeartbeats 8000000 in
theorem visitAll13_any (W H : Int) (O : Nat → Bool) (n ca b Kr : Nat) (u : Int) (A : Option Addr) (base rg hb c S : Nat) (x : Int) (v0 : Value) (F0 : Nat → Int) (hl0 : List (Int × Int)) (w W0 : World)
    (hL : Lnd W H n) (hO : Bo W0 A n O) (hT : Tst W0) (hb0 : Below W0.heap.size W0 w) (hbase : W0.heap.size ≤ base) (hbw : base ≤ w.heap.size) (hrg : W0.heap.size ≤ rg) (hKr : n ≤ Kr)
    (hI : Ir w rg n F0) (hH : Hp w base hb v0 hl0) (hHo : Hpo hl0) (hD : Dj W H O n b u F0 hl0 (c : Int) 0) (hc : c < n) (hx : F0 c = x) (hx2 : x ≠ 1048576) (hS : sumR F0 n + hl0.length ≤ S) (hSm : S ≤ 4999999990) :
    Calls Tryd.prog 43 #[.agg #[.int .i64 W, .int .i64 H, .slice A n ca], .slice (some ⟨rg, 0, none⟩) n Kr, .pointer (some ⟨hb, 0, none⟩), .agg #[.int .i64 (c : Int), .int .i64 x]] w (RetVis W H O n b u base rg hb v0 S w) := by
  have hN := hL.bd
  have hop : isL W H O (c : Int) := ((hD.wj.bd hN.2 hc).2.2 (by rw [hx]; exact hx2)).2
  have hxb := (hD.wj.bd hN.2 hc).2.2 (by rw [hx]; exact hx2)
  have hx0 := (hD.wj.bd hN.2 hc).1
  rw [hx] at hxb hx0
  have CA := Lib.hid (fun s u' (hu : Below W0.heap.size W0 u') hs => after13_any W H O (c : Int) s A n ca u' W0 hL hO hu hs hop)
  have LS := Lib.hid (fun u' (hu : Below W0.heap.size W0 u') => load_steps (hT.keep hu))
  have V0 := Lib.hid (Vst.start hI hH hHo)
  have HD0 := Lib.hid hD
  have hlt := hH.lt
  have hrl := hI.lt
  have HRL := Lib.hid (fun k => hH.row.lt k)
  have HBW := Lib.hid hb0
  have HPB : Hid (∀ k, Pq rg hb v0 k → W0.heap.size ≤ k) := by
    intro k hk
    rcases hk with e | e | e
    · omega
    · have := hH.ge; omega
    · have := (hH.row.lt k e).1; omega
  have K0 := Lib.hid ((Kx.new w 24 #[.int .i64 W, .int .i64 H, .slice A n ca]).alloc (.cells #[.int .i64 (c : Int), .int .i64 x] 72))
  have K1 : Hid (Kx w (w.heap.size + 1) ((w.alloc (.cells #[.int .i64 W, .int .i64 H, .slice A n ca] 24)).alloc (.cells #[.int .i64 (c : Int), .int .i64 x] 72)) 72 #[.int .i64 (c : Int), .int .i64 x]) := by
    have := Kx.next (newBox (w := w) (.cells #[.int .i64 W, .int .i64 H, .slice A n ca] 24)) 72 #[.int .i64 (c : Int), .int .i64 x]
    rw [size_alloc] at this
    exact this
  have V1 := Lib.hid (V0.out.keep K0.out.below)
  have LS1 := Lib.hid (LS.out _ (HBW.out.trans (K0.out.below.mono HBW.out.size)))
  clear hb0 hI hH hHo hD hT
  go_enter Tryd.func43, Tryd.ntmps43
  go_wp2_with (refine wpList_load13 (ty := 80) (x := .global 0) (ad := ⟨0, 0, none⟩) (v := .agg stA) ?_ rfl rfl rfl ?_; exact LS1.out)
  generalize (w.alloc (.cells #[.int .i64 W, .int .i64 H, .slice A n ca] 24)).alloc (.cells #[.int .i64 (c : Int), .int .i64 x] 72) = w1 at *
  go_loopw [14] (fun s14 wr => ∃ (s : Nat) (F : Nat → Int) (v : Value) (hl : List (Int × Int)), s14 = .int .i64 (s : Int) ∧ s ≤ 8 ∧ Hid (Vst w base rg hb v0 n F v hl wr) ∧ Hid (Dj W H O n b u F hl (c : Int) s) ∧ F c = x ∧ sumR F n + hl.length ≤ S ∧ Hid (wr.heap[w.heap.size]? = some (.cells #[.int .i64 W, .int .i64 H, .slice A n ca] 24 (0, 0))) ∧ Hid (wr.heap[w.heap.size + 1]? = some (.cells #[.int .i64 (c : Int), .int .i64 x] 72 (0, 0))) ∧ Hid (∀ k, v.ownBlock = some k → k < w.heap.size ∨ w.heap.size + 2 ≤ k)) (fun s14 _ => 8 - (intOf s14).toNat)
  case atStart => exact ⟨0, F0, v0, hl0, rfl, by omega, V1.out, HD0.out, hx, hS, K0.out.blk, K1.out.blk, fun k hk => .inl (HRL.out k hk).2⟩
  case round =>
    obtain ⟨s, F, v, hl, rfl, hs, hV, hDj, hFc, hSum, hB4, hB7, hRow⟩ := hrel
    obtain ⟨p1, p2⟩ := prc_bd s
    by_cases hs8 : s < 8
    · have hsI : decide ((s : Int) < 8) = true := decide_eq_true (by omega)
      have hidx := index_step hs8 wr
      have KX := Lib.hid (Kx.new wr 79 #[.int .i64 (dI s), .int .i64 (dJ s), .int .i64 (prc s)])
      have VX := Lib.hid (hV.out.keep KX.out.below)
      have hb : Hid (RowKit.Below W0.heap.size W0 (wr.alloc (.cells #[.int .i64 (dI s), .int .i64 (dJ s), .int .i64 (prc s)] 79))) := HBW.out.trans (VX.out.tp.below HBW.out.size HPB.out)
      have C := Lib.hid (CA.out s _ hb.out hs8)
      have B4 : Hid (_ = _) := (KX.out.below.block _ (Array.getElem?_eq_some_iff.1 hB4.out).1).trans hB4.out
      have B7 : Hid (_ = _) := (KX.out.below.block _ (Array.getElem?_eq_some_iff.1 hB7.out).1).trans hB7.out
      have hwz : w.heap.size + 2 ≤ wr.heap.size := (Array.getElem?_eq_some_iff.1 hB7.out).1
      have e0 : (wr.alloc (.cells #[.int .i64 (dI s), .int .i64 (dJ s), .int .i64 (prc s)] 79)).cell? ⟨w.heap.size, 0, none⟩ = some (.int .i64 W) := by rw [cell_of_row _ _ 0 _ _ (0, 0) B4.out]; rfl
      have e1 : (wr.alloc (.cells #[.int .i64 (dI s), .int .i64 (dJ s), .int .i64 (prc s)] 79)).cell? ⟨w.heap.size, 1, none⟩ = some (.int .i64 H) := by rw [cell_of_row _ _ 1 _ _ (0, 0) B4.out]; rfl
      have e2 : (wr.alloc (.cells #[.int .i64 (dI s), .int .i64 (dJ s), .int .i64 (prc s)] 79)).cell? ⟨w.heap.size, 2, none⟩ = some (.slice A n ca) := by rw [cell_of_row _ _ 2 _ _ (0, 0) B4.out]; rfl
      have e3 : (wr.alloc (.cells #[.int .i64 (dI s), .int .i64 (dJ s), .int .i64 (prc s)] 79)).cell? ⟨w.heap.size + 1, 0, none⟩ = some (.int .i64 (c : Int)) := by rw [cell_of_row _ _ 0 _ _ (0, 0) B7.out]; rfl
      clear hV hB4 hB7
      go_wp2_with fail
      refine C.out.mono ?_
      rintro e w5 ⟨rfl, b5⟩
      have V5 := Lib.hid (VX.out.keep b5)
      have K5 := Lib.hid (KX.out.keep b5)
      have D4 : Hid (_ = _) := (b5.block _ (Array.getElem?_eq_some_iff.1 B4.out).1).trans B4.out
      have D7 : Hid (_ = _) := (b5.block _ (Array.getElem?_eq_some_iff.1 B7.out).1).trans B7.out
      clear b5 VX KX B4 B7 hb C e0 e1 e2 e3 hidx
      have e4 : w5.cell? ⟨w.heap.size + 1, 1, none⟩ = some (.int .i64 x) := by rw [cell_of_row _ _ 1 _ _ (0, 0) D7.out]; rfl
      have e5 : w5.cell? ⟨wr.heap.size, 2, none⟩ = some (.int .i64 (prc s)) := K5.out.cell 2 rfl
      cases hd : decide (0 ≤ goL W H O (c : Int) s) with
      | false =>
        have hn : ¬ 0 ≤ goL W H O (c : Int) s := of_decide_eq_false hd
        have HJ := Lib.hid (hDj.out.skip (fun m hm hg => absurd (by omega) hn))
        clear hd hn
        go_wp2
        go_roundw
        case rel => exact ⟨s + 1, F, v, hl, by go_num, by omega, V5.out, HJ.out, hFc, hSum, D4.out, D7.out, hRow.out⟩
        case measure => simp [intOf]; omega
      | true =>
        have hg0 : 0 ≤ goL W H O (c : Int) s := of_decide_eq_true hd
        obtain ⟨m, hm⟩ : ∃ m : Nat, goL W H O (c : Int) s = (m : Int) := ⟨(goL W H O (c : Int) s).toNat, by omega⟩
        have hmn : m < n := by
          have := (go_is hg0).2.2.1
          have := hL.sz
          omega
        have hmI : (m : Int) < (n : Int) := by omega
        have hFb := hDj.out.wj.bd hN.2 hmn
        have e6 : w5.cell? ⟨rg, m, none⟩ = some (.int .i64 (F m)) := V5.out.ir.cell hmn
        have e7 : w5.frozen? ⟨rg, m, none⟩ = false := V5.out.ir.frozen m
        rw [hm]
        clear hd hg0
        by_cases hlt : x + prc s < F m
        · have hltd : decide (x + prc s < F m) = true := decide_eq_true hlt
          have VS := Lib.hid (V5.out.set hmn (x + prc s))
          have G := grown_set w5 rg m (.int .i64 (x + prc s))
          have D4' : Hid (_ = _) := (G.block _ (Array.getElem?_eq_some_iff.1 D4.out).1 (by simp; omega)).trans D4.out
          have D7' : Hid (_ = _) := (G.block _ (Array.getElem?_eq_some_iff.1 D7.out).1 (by simp; omega)).trans D7.out
          have hbs : base ≤ (w5.setCell ⟨rg, m, none⟩ (.int .i64 (x + prc s))).heap.size := Nat.le_trans hbw VS.out.tp.size
          have hw5 : w.heap.size + 2 ≤ (w5.setCell ⟨rg, m, none⟩ (.int .i64 (x + prc s))).heap.size := (Array.getElem?_eq_some_iff.1 D7'.out).1
          have PC := Lib.hid (put13_any base hb v hl (m : Int) (x + prc s) _ VS.out.hp VS.out.ho (by omega) hbs)
          have HG := Lib.hid (fun l' hl' => hDj.out.go (l' := l') hN.2 hs8 hc hmn (by rw [hFc]; exact hx2) hm (by rw [hFc]; exact hlt) hl')
          rw [hFc] at HG
          have HSM := sumR_upd_le (R := F) (m := m) (v := x + prc s) (by omega) hlt hmn
          clear V5 D4 D7 G hlt hm
          go_wp2_with fail
          refine PC.out.mono ?_
          rintro e w7 ⟨rfl, v', l', q1, q2, q3, q4, q5, q6⟩
          have V7 := Lib.hid (VS.out.put q1 q2 q5 q6)
          obtain ⟨j1, j2⟩ := HG.out l' q3
          have HJ := Lib.hid j1
          have F4 : Hid (_ = _) := (q5.block _ (Array.getElem?_eq_some_iff.1 D4'.out).1 (by omega) (fun e => by have := hRow.out _ e.symm; omega)).trans D4'.out
          have F7 : Hid (_ = _) := (q5.block _ (Array.getElem?_eq_some_iff.1 D7'.out).1 (by omega) (fun e => by have := hRow.out _ e.symm; omega)).trans D7'.out
          have HR7 : Hid (∀ k, v'.ownBlock = some k → k < w.heap.size ∨ w.heap.size + 2 ≤ k) := by
            intro k hk
            rcases q6 with e | e
            · exact hRow.out k (by rw [← e]; exact hk)
            · have := e k hk
              right; omega
          have hs7 : sumR (upd F m (x + prc s)) n + l'.length ≤ S := by omega
          clear q1 q2 q3 q5 q6 j1 PC HG VS D4' D7' hRow hDj
          go_wp2
          go_roundw
          case rel => exact ⟨s + 1, _, v', l', by go_num, by omega, V7.out, HJ.out, j2, hs7, F4.out, F7.out, HR7.out⟩
          case measure => simp [intOf]; omega
        · have hltd : decide (x + prc s < F m) = false := decide_eq_false hlt
          have HJ := Lib.hid (hDj.out.skip (fun m' hm' hg => by
            have : m' = m := by omega
            subst this
            omega))
          clear hlt hm
          go_wp2
          go_roundw
          case rel => exact ⟨s + 1, F, v, hl, by go_num, by omega, V5.out, HJ.out, hFc, hSum, D4.out, D7.out, hRow.out⟩
          case measure => simp [intOf]; omega
    · have hsI : decide ((s : Int) < 8) = false := decide_eq_false (by omega)
      obtain rfl : s = 8 := by omega
      have HJ := Lib.hid hDj.out.ended
      clear hs8
      go_wp2
      go_end0
      exact ⟨rfl, F, v, hl, hV.out, HJ.out, hSum⟩
end Go.Proofs.YtcipedijjemghaaDoor
