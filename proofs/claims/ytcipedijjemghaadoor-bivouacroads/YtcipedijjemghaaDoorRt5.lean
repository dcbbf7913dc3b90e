/- Contracts: spread. -/
import Derived.Test.YtcipedijjemghaaDoorRt4
import Derived.Test.YtcipedijjemghaaDoorGr8
namespace Go.Proofs.YtcipedijjemghaaDoor
open Go.RowKit Go.Sort Go.Shelf
set_option linter.unusedVariables false
set_option linter.unusedSimpArgs false
attribute [local go_sem] Oper.semAt_some

/-- Costs and a heap, in a call. -/
structure Sps (w : World) (base rg hb N : Nat) (F : Nat → Int) (v : Value) (l : List (Int × Int)) (wr : World) : Prop where
  ir : Ir wr rg N F
  hp : Hp wr base hb v l
  ho : Hpo l
  bel : RowKit.Below w.heap.size w wr
section
variable {w : World} {base rg hb N : Nat} {v : Value} {F : Nat → Int} {l : List (Int × Int)} {wr : World}
theorem Sps.keep (h : Sps w base rg hb N F v l wr) {w' : World} (hb' : RowKit.Below wr.heap.size wr w') : Sps w base rg hb N F v l w' := ⟨h.ir.keep hb', h.hp.keep hb', h.ho, h.bel.trans (hb'.mono h.bel.size)⟩
theorem Sps.ne (h : Sps w base rg hb N F v l wr) : rg ≠ hb ∧ some rg ≠ v.ownBlock := (Vst.start h.ir h.hp h.ho).ne
theorem Sps.tw (h : Sps w base rg hb N F v l wr) (hbase : w.heap.size ≤ base) {w' : World} {v' : Value} {l' : List (Int × Int)} (h1 : Hp w' base hb v' l') (h2 : Hpo l') (h3 : Tw hb v wr w') : Sps w base rg hb N F v' l' w' := by
  obtain ⟨n1, n2⟩ := h.ne
  refine ⟨h.ir.block (h3.block rg h.ir.lt n1 n2), h1, h2, h.bel.trans (h3.below h.bel.size (by have := h.hp.ge; omega) (fun k hk => by have := (h.hp.row.lt k hk).1; omega))⟩
theorem Sps.vis (h : Sps w base rg hb N F v l wr) (hbase : w.heap.size ≤ base) (hrg : w.heap.size ≤ rg) {w' : World} {v' : Value} {F' : Nat → Int} {l' : List (Int × Int)} (k : Vst wr base rg hb v N F' v' l' w') : Sps w base rg hb N F' v' l' w' := by
  refine ⟨k.ir, k.hp, k.ho, h.bel.trans (k.tp.below h.bel.size (fun q hq => ?_))⟩
  rcases hq with e | e | e
  · omega
  · have := h.hp.ge; omega
  · have := (h.hp.row.lt q e).1; omega
/-- A box of the call's own is written. -/
theorem Sps.far (h : Sps w base rg hb N F v l wr) {b : Nat} {w' : World} (G : wr.grownBy w' (some b)) (hb' : w.heap.size ≤ b) (n1 : rg ≠ b) (n2 : hb ≠ b) (n3 : v.ownBlock ≠ some b) : Sps w base rg hb N F v l w' :=
  ⟨h.ir.block (G.block rg h.ir.lt (by simpa using n1)), ⟨h.hp.ge, (G.block hb h.hp.lt (by simpa using n2)).trans h.hp.blk, h.hp.row.kept G (.inr n3), h.hp.len⟩, h.ho, h.bel.trans (grownBy_below G (fun r e => by injection e with e; omega) h.bel.size)⟩
end
/-- One is taken, or there is none. -/
def RetTk (base hb : Nat) (v : Value) (l : List (Int × Int)) (w : World) (e : Ending) (w' : World) : Prop :=
  ∃ c x ok v' l', e = .returned (.tuple #[.agg #[.int .i64 c, .int .i64 x], .bool ok]) ∧ Hp w' base hb v' l' ∧ Hpo l' ∧ Tw hb v w w' ∧ Nw w v v' ∧
    ((ok = true ∧ (∀ y, y ∈ l ↔ y = (c, x) ∨ y ∈ l') ∧ (∀ y ∈ l, x ≤ y.2) ∧ l'.length + 1 = l.length) ∨ (ok = false ∧ l = [] ∧ l' = []))
theorem take13_any (base hb : Nat) (v : Value) (l : List (Int × Int)) (w : World) (hH : Hp w base hb v l) (ho : Hpo l) :
    Calls Tryd.prog 42 #[.pointer (some ⟨hb, 0, none⟩)] w (RetTk base hb v l w) := by
  by_cases h0 : l = []
  · subst h0
    refine (take13_none base hb v w hH).mono ?_
    rintro e w' ⟨rfl, h1, h2⟩
    exact ⟨0, 0, false, v, [], rfl, h1, Hpo.nil, Tw.ofB h2, Nw.refl _ _, .inr ⟨rfl, rfl, rfl⟩⟩
  · have hl : 0 < l.length := List.length_pos_iff.2 h0
    refine (take13_some base hb v l w hH ho hl).mono ?_
    rintro e w' ⟨rfl, v', l', q1, q2, q3, q4, q5, q6⟩
    exact ⟨(at13 l 0).1, (at13 l 0).2, true, v', l', rfl, q1, q2, q5, q6, .inl ⟨rfl, q3, fun y hy => ho.least hy, q4⟩⟩
/-- What has been taken. -/
def Pd (W H : Int) (O : Nat → Bool) (N b : Nat) (u : Int) (F : Nat → Int) (l' : List (Int × Int)) (ok : Bool) (c x : Int) : Prop :=
  ∃ L, Dj W H O N b u F L (-1) 0 ∧ ((ok = true ∧ (∀ y, y ∈ L ↔ y = (c, x) ∨ y ∈ l') ∧ (∀ y ∈ L, x ≤ y.2)) ∨ (ok = false ∧ L = [] ∧ l' = []))
/-- The measure. -/
def mu13 (n rg hb : Nat) (s11 : Value) (wr : World) : Nat := sumR (fun i => valAt wr rg i) n + lenAt wr hb + (match s11 with | .bool true => 1 | _ => 0)
theorem mu13_is {n base rg hb : Nat} {F : Nat → Int} {v : Value} {l : List (Int × Int)} {wr : World} (hi : Ir wr rg n F) (hp : Hp wr base hb v l) (ok : Bool) : mu13 n rg hb (.bool ok) wr = sumR F n + l.length + (if ok = true then 1 else 0) := by
  unfold mu13
  rw [sumR_congr (R := fun i => valAt wr rg i) (Q := F) (fun i h => hi.val h)]
  have : lenAt wr hb = l.length := by
    unfold lenAt
    obtain ⟨A, cap, rfl, _⟩ := hp.row.slice
    rw [hp.c0]
  rw [this]
  cases ok <;> rfl

/-- Costs come back. -/
def RetSpr (W H : Int) (O : Nat → Bool) (n b : Nat) (u : Int) (w : World) (e : Ending) (w' : World) : Prop :=
  ∃ rg F, e = .returned (.slice (some ⟨rg, 0, none⟩) n n) ∧ w.heap.size ≤ rg ∧ Ir w' rg n F ∧ Exa W H O n b u F ∧ RowKit.Below w.heap.size w w'
theorem none13 {W H : Int} {O : Nat → Bool} {n b : Nat} {u : Int} (h : O b = false) : Exa W H O n b u (fun _ => 1048576) := by
  have hn : ∀ k : Nat, cst W H O b k = -1 := fun k => cst_none fun c hc => by
    have := hc.ends.2.2.2
    rw [Int.toNat_natCast, h] at this
    cases this
  exact fun k hk => ⟨fun _ => rfl, fun h0 => by rw [hn k] at h0; omega⟩

set_option maxHeartbeats 8000000 in
theorem spread13_any (W H : Int) (O : Nat → Bool) (n ca b : Nat) (u : Int) (A : Option Addr) (w : World) (hL : Lnd W H n) (hO : Bo w A n O) (hT : Tst w) (hnc : n ≤ ca) (hcm : ca ≤ maxLen) (hb : b < n) (hu : u = -1 ∨ ∃ v : Nat, v < n ∧ u = (v : Int)) :
    Calls Tryd.prog 25 #[.agg #[.int .i64 W, .int .i64 H, .slice A n ca], .int .i64 (b : Int), .int .i64 u] w (RetSpr W H O n b u w) := by
  have hn := hL.bd
  unfold maxLen at hcm
  have hmk := run_make_row' (P := Tryd.prog) 26 3 (.int .i64 0) 8 Tryd.underlying26 Tryd.infoI rfl .i64 .i64 n (by omega) (by omega)
  obtain ⟨g, o, rfl, hg, hcl⟩ := hO (by omega)
  have HO := Lib.hid hO
  have HT := Lib.hid hT
  have HL := Lib.hid hL
  have HC := Lib.hid hcl
  have K0 := Lib.hid (Kx.new w 24 #[.int .i64 W, .int .i64 H, .slice (some ⟨g, o, none⟩) n ca])
  have HM := Lib.hid (Ir.made (w.alloc (.cells #[.int .i64 W, .int .i64 H, .slice (some ⟨g, o, none⟩) n ca] 24)) n)
  have K1 := Lib.hid (K0.out.alloc (.cells (madeCells #[.int .i64 0] n) 3))
  rw [size_alloc] at HM
  have hbI : (b : Int) < (n : Int) := by omega
  clear hO hT hL hcl
  go_enter Tryd.func25, Tryd.ntmps25
  go_wp2
  go_loopw [18] (fun t wr => ∃ k : Nat, k ≤ n ∧ t = .int .i64 (k : Int) ∧ Hid (Ir wr (w.heap.size + 1) n (fun i => if i < k then 1048576 else 0)) ∧ Hid (RowKit.Below w.heap.size w wr) ∧ Hid (wr.heap[w.heap.size]? = some (.cells #[.int .i64 W, .int .i64 H, .slice (some ⟨g, o, none⟩) n ca] 24 (0, 0)))) (fun t _ => n - (intOf t).toNat)
  case atStart => exact ⟨0, by omega, rfl, HM.out.congr (fun i _ => by simp), K1.out.below, K1.out.blk⟩
  case round =>
    obtain ⟨k, hk, rfl, hI, hB, hX⟩ := hrel
    by_cases hkn : k < n
    · have hkI : decide ((k : Int) < (n : Int)) = true := decide_eq_true (by omega)
      have hkJ : (k : Int) < (n : Int) := by omega
      have e0 := hI.out.cell hkn
      have e1 := hI.out.frozen k
      have HI2 := Lib.hid ((hI.out.set hkn 1048576).congr (Q := fun i => if i < k + 1 then 1048576 else 0) (fun i hi => by
        by_cases h : i = k
        · subst h; rw [upd_same]; simp
        · rw [upd_other _ _ _ h]
          by_cases h2 : i < k
          · simp [h2, Nat.lt_succ_of_lt h2]
          · have : ¬ i < k + 1 := by omega
            simp [h2, this]))
      have G := grown_set wr (w.heap.size + 1) k (.int .i64 1048576)
      have HB2 : Hid (RowKit.Below w.heap.size w (wr.setCell ⟨w.heap.size + 1, k, none⟩ (.int .i64 1048576))) := hB.out.trans (grownBy_below G (fun r e => by injection e with e; omega) hB.out.size)
      have HX2 : Hid (_ = _) := (G.block _ (Array.getElem?_eq_some_iff.1 hX.out).1 (by simp)).trans hX.out
      clear G
      go_wp2
      go_roundw
      case rel => exact ⟨k + 1, by omega, by go_num, HI2.out, HB2.out, HX2.out⟩
      case measure => simp [intOf]; omega
    · have hkI : decide ((k : Int) < (n : Int)) = false := decide_eq_false (by omega)
      obtain rfl : k = n := by omega
      have HI2 := Lib.hid (hI.out.congr (Q := fun _ => 1048576) (fun i hi => by simp [hi]))
      have e2 : wr.cell? ⟨w.heap.size, 2, none⟩ = some (.slice (some ⟨g, o, none⟩) k ca) := by rw [cell_of_row _ _ 2 _ _ (0, 0) hX.out]; rfl
      have e3 : wr.cell? ⟨g, o + b, none⟩ = some (.bool (O b)) := (hB.out.cell (p := ⟨g, o + b, none⟩) hg).trans (HC.out b hb)
      cases hob : O b with
      | false =>
        rw [hob] at e3
        have HE := Lib.hid (none13 (W := W) (H := H) (n := k) (u := u) hob)
        clear hkn hob
        go_wp2
        go_ret
        exact ⟨w.heap.size + 1, _, rfl, by omega, HI2.out, HE.out, hB.out⟩
      | true =>
        rw [hob] at e3
        have hisb : isL W H O (b : Int) := ⟨by omega, by have := HL.out.sz; omega, by rw [Int.toNat_natCast]; exact hob⟩
        have HDJ := Lib.hid (Dj.start (N := k) (u := u) hb hisb)
        have e4 := HI2.out.cell hb
        have e5 := HI2.out.frozen b
        have HI3 := Lib.hid (HI2.out.set hb 0)
        have G := grown_set wr (w.heap.size + 1) b (.int .i64 0)
        have HB3 : Hid (RowKit.Below w.heap.size w (wr.setCell ⟨w.heap.size + 1, b, none⟩ (.int .i64 0))) := hB.out.trans (grownBy_below G (fun r e => by injection e with e; omega) hB.out.size)
        have HX3 : Hid ((wr.setCell ⟨w.heap.size + 1, b, none⟩ (.int .i64 0)).heap[w.heap.size]? = some (.cells #[.int .i64 W, .int .i64 H, .slice (some ⟨g, o, none⟩) k ca] 24 (0, 0))) := (G.block _ (Array.getElem?_eq_some_iff.1 hX.out).1 (by simp)).trans hX.out
        have NH := Lib.hid (newHeap13_any (wr.setCell ⟨w.heap.size + 1, b, none⟩ (.int .i64 0)))
        clear hkn hob G hI hB hX HI2
        go_wp2_with fail
        refine NH.out.mono ?_
        rintro e w2 ⟨hb2, rfl, q1, q2⟩
        have HI4 := Lib.hid (HI3.out.keep q2)
        have HB4 := Lib.hid (HB3.out.trans (q2.mono HB3.out.size))
        have HX4 : Hid (w2.heap[w.heap.size]? = some (.cells #[.int .i64 W, .int .i64 H, .slice (some ⟨g, o, none⟩) k ca] 24 (0, 0))) := (q2.block _ (Array.getElem?_eq_some_iff.1 HX3.out).1).trans HX3.out
        have hbs : w.heap.size ≤ (wr.setCell ⟨w.heap.size + 1, b, none⟩ (.int .i64 0)).heap.size := HB3.out.size
        have hrb : w.heap.size + 1 < (wr.setCell ⟨w.heap.size + 1, b, none⟩ (.int .i64 0)).heap.size := HI3.out.lt
        have hbw2 := q2.size
        generalize (wr.setCell ⟨w.heap.size + 1, b, none⟩ (.int .i64 0)).heap.size = base at *
        have PC := Lib.hid (put13_any base hb2 (.slice none 0 0) [] (b : Int) 0 w2 q1 Hpo.nil (by simp) hbw2)
        have S2 : Hid (Sps w base (w.heap.size + 1) hb2 k (upd (fun _ => 1048576) b 0) (.slice none 0 0) [] w2) := ⟨HI4.out, q1, Hpo.nil, HB4.out⟩
        have hhb := q1.ge
        clear q1 q2 HI3 HB3 HX3 HI4 HB4 NH e2 e3 e4 e5
        go_wp2_with fail
        refine PC.out.mono ?_
        rintro e w3 ⟨rfl, v3, l3, q1, q2, q3, q4, q5, q6⟩
        have S3 := Lib.hid (S2.out.tw hbs q1 q2 q5)
        have HX5 : Hid (w3.heap[w.heap.size]? = some (.cells #[.int .i64 W, .int .i64 H, .slice (some ⟨g, o, none⟩) k ca] 24 (0, 0))) := (q5.block _ (Array.getElem?_eq_some_iff.1 HX4.out).1 (by omega) (by simp [Value.ownBlock])).trans HX4.out
        have HL3 : Hid (∀ e, e ∈ l3 ↔ e ∈ [((b : Int), (0 : Int))]) := fun e => (q3 e).trans (by simp)
        have hsum : sumR (upd (fun _ => 1048576) b 0) k + l3.length ≤ 4294967297 := by
          have h1 := sumR_le (R := upd (fun _ => 1048576) b 0) (M := 1048576) (n := k) (fun i _ => by unfold upd; split <;> simp)
          have h2 : k * 1048576 ≤ 4096 * 1048576 := Nat.mul_le_mul_right _ hn.2
          simp only [List.length_nil] at q4
          omega
        have HD3 : Hid (Dj W H O k b u (upd (fun _ => 1048576) b 0) l3 (-1) 0) := ⟨HDJ.out.wj, fun q hq hf => (HDJ.out.todo q hq hf).imp (fun e => (HL3.out _).2 e) (fun e => e), fun e he => HDJ.out.ent e ((HL3.out e).1 he)⟩
        have TC := Lib.hid (take13_any base hb2 v3 l3 w3 q1 q2)
        clear q1 q2 q3 q5 q6 S2 HX4 PC HL3 HDJ
        go_wp2_with fail
        refine TC.out.mono ?_
        rintro e w4 ⟨c, x, ok, v4, l4, rfl, q1, q2, q5, q6, q7⟩
        have S4 := Lib.hid (S3.out.tw hbs q1 q2 q5)
        have HX6 : Hid (w4.heap[w.heap.size]? = some (.cells #[.int .i64 W, .int .i64 H, .slice (some ⟨g, o, none⟩) k ca] 24 (0, 0))) := (q5.block _ (Array.getElem?_eq_some_iff.1 HX5.out).1 (by omega) (fun e => by have := (S3.out.hp.row.lt _ e.symm).1; omega)).trans HX5.out
        have HP4 : Hid (Pd W H O k b u (upd (fun _ => 1048576) b 0) l4 ok c x) := ⟨l3, HD3.out, q7.imp (fun h => ⟨h.1, h.2.1, h.2.2.1⟩) (fun h => h)⟩
        have hs4 : sumR (upd (fun _ => 1048576) b 0) k + l4.length + (if ok = true then 1 else 0) ≤ 4294967297 := by
          rcases q7 with ⟨r1, _, _, r4⟩ | ⟨r1, r2, r3⟩
          · rw [if_pos r1]; omega
          · rw [r1, r3]; simp; omega
        have S5 := Lib.hid (S4.out.keep (newBox (.cells #[.int .i64 c, .int .i64 x] 72)))
        have HX7 : Hid (_ = _) := ((newBox (w := w4) (.cells #[.int .i64 c, .int .i64 x] 72)).block _ (Array.getElem?_eq_some_iff.1 HX6.out).1).trans HX6.out
        have HB7 : Hid ((w4.alloc (.cells #[.int .i64 c, .int .i64 x] 72)).heap[w4.heap.size]? = some (.cells #[.int .i64 c, .int .i64 x] 72 (0, 0))) := World.alloc_heap_new _ _
        have HR7 : Hid (v4.ownBlock ≠ some w4.heap.size) := fun e => by have := (q1.row.lt _ e).2; omega
        have hw4 : w.heap.size ≤ w4.heap.size := S4.out.bel.size
        have hr4 := S4.out.ir.lt
        have hh4 := q1.lt
        clear q1 q2 q5 q6 q7 S3 S4 HX5 HX6 TC HD3
        go_wp2
        go_loopw [10, 11] (fun s10 s11 wr => ∃ (F : Nat → Int) (v : Value) (l : List (Int × Int)) (ok : Bool) (c x : Int) (b10 : Nat), s10 = .pointer (some ⟨b10, 0, none⟩) ∧ s11 = .bool ok ∧ Hid (Sps w base (w.heap.size + 1) hb2 k F v l wr) ∧ Hid (Pd W H O k b u F l ok c x) ∧ sumR F k + l.length + (if ok = true then 1 else 0) ≤ 4294967297 ∧ Hid (wr.heap[w.heap.size]? = some (.cells #[.int .i64 W, .int .i64 H, .slice (some ⟨g, o, none⟩) k ca] 24 (0, 0))) ∧ Hid (wr.heap[b10]? = some (.cells #[.int .i64 c, .int .i64 x] 72 (0, 0))) ∧ Hid (v.ownBlock ≠ some b10) ∧ hb2 < b10 ∧ w.heap.size + 1 < b10) (fun s10 s11 wr => mu13 k (w.heap.size + 1) hb2 s11 wr)
        case atStart => exact ⟨_, v4, l4, ok, c, x, w4.heap.size, rfl, rfl, S5.out, HP4.out, hs4, HX7.out, HB7.out, HR7.out, hh4, hr4⟩
        case round =>
          obtain ⟨F, v, l, ok, c, x, b10, rfl, rfl, hSp, hPd, hsum, hX, hBx, hR, hb10, hb11⟩ := hrel
          clear S5 HP4 HX7 HB7 HR7 hs4
          have hmu0 := mu13_is hSp.out.ir hSp.out.hp ok
          obtain ⟨L, hDL, hcase⟩ := hPd.out
          rcases hcase with ⟨rfl, hl1, hl2⟩ | ⟨rfl, rfl, rfl⟩
          · rw [if_pos rfl] at hsum hmu0
            have hent := hDL.ent _ ((hl1 _).2 (.inl rfl))
            simp only at hent
            obtain ⟨cN, hcN⟩ : ∃ cN : Nat, c = (cN : Int) := ⟨c.toNat, by omega⟩
            subst hcN
            have hck : cN < k := by omega
            simp only [Int.toNat_natCast] at hent
            have e0 : wr.cell? ⟨b10, 0, none⟩ = some (.int .i64 (cN : Int)) := by rw [cell_of_row _ _ 0 _ _ (0, 0) hBx.out]; rfl
            have e1 : wr.cell? ⟨b10, 1, none⟩ = some (.int .i64 x) := by rw [cell_of_row _ _ 1 _ _ (0, 0) hBx.out]; rfl
            have hckI : (cN : Int) < (k : Int) := by omega
            by_cases hcu : (cN : Int) = u
            · have hne : ((cN : Int) != u) = false := by simp [hcu]
              have HE : Hid (Exa W H O k b u F) := by
                show Exa _ _ _ _ _ _ _
                rw [← hcu] at hDL ⊢
                exact hDL.found hn.2 HL.out.sz ((hl1 _).2 (.inl rfl)) hl2
              clear hDL hl1 hl2 hcu hPd hent
              go_wp2
              go_ret
              exact ⟨w.heap.size + 1, F, rfl, by omega, hSp.out.ir, HE.out, hSp.out.bel⟩
            · have hne : ((cN : Int) != u) = true := by simp [hcu]
              have e2 := hSp.out.ir.cell hck
              have HDL := Lib.hid hDL
              have HL1 := Lib.hid hl1
              have HCU := Lib.hid hcu
              clear hDL hl1 hl2 hPd hcu
              go_wp2
              have k0 := cell_regrown e0
              have k1 := cell_regrown e1
              have k2 := cell_regrown e2
              refine wp_region_quiet_below (by kernel_rfl) (by kernel_rfl) ?_
              repeat (go_big_quiet_step (fail))
              refine wpQuiet_nil ?_
              intro _ hw'
              obtain ⟨⟨dq, osq⟩, hw''⟩ := hw'
              subst hw''
              have hb3 := below_regrown wr dq osq
              have S6 := Lib.hid (hSp.out.keep hb3)
              have HX6 : Hid (_ = _) := (hb3.block _ (Array.getElem?_eq_some_iff.1 hX.out).1).trans hX.out
              have HB6 : Hid (_ = _) := (hb3.block _ (Array.getElem?_eq_some_iff.1 hBx.out).1).trans hBx.out
              clear k0 k1 k2 hb3 e0 e1 e2 hSp hX hBx
              generalize Go.Sort.grow (redrawn wr dq) osq = w5 at *
              by_cases hxf : x = F cN
              · have hxd : (x == F cN) = true := by simp [hxf]
                have HDB := Lib.hid (HDL.out.begin HL1.out HCU.out)
                have hxn : x ≠ 1048576 := by omega
                have hhb2 : base ≤ hb2 := S6.out.hp.ge
                have e3 : w5.cell? ⟨w.heap.size, 0, none⟩ = some (.int .i64 W) := by rw [cell_of_row _ _ 0 _ _ (0, 0) HX6.out]; rfl
                have e4 : w5.cell? ⟨w.heap.size, 1, none⟩ = some (.int .i64 H) := by rw [cell_of_row _ _ 1 _ _ (0, 0) HX6.out]; rfl
                have e5 : w5.cell? ⟨w.heap.size, 2, none⟩ = some (.slice (some ⟨g, o, none⟩) k ca) := by rw [cell_of_row _ _ 2 _ _ (0, 0) HX6.out]; rfl
                have e6 : w5.cell? ⟨b10, 0, none⟩ = some (.int .i64 (cN : Int)) := by rw [cell_of_row _ _ 0 _ _ (0, 0) HB6.out]; rfl
                have e7 : w5.cell? ⟨b10, 1, none⟩ = some (.int .i64 x) := by rw [cell_of_row _ _ 1 _ _ (0, 0) HB6.out]; rfl
                have VC := Lib.hid (visitAll13_any W H O k ca b k u (some ⟨g, o, none⟩) base (w.heap.size + 1) hb2 cN (sumR F k + l.length) x v F l w5 w HL.out HO.out HT.out S6.out.bel hbs (by have := S6.out.hp.lt; omega) (by omega) (Nat.le_refl _) S6.out.ir S6.out.hp S6.out.ho HDB.out hck hxf.symm hxn (Nat.le_refl _) (by omega))
                clear HDL HL1 hxf hent HDB
                go_wp2_with fail
                refine VC.out.mono ?_
                rintro e w7 ⟨rfl, F5, v5, l5, hV, hD5, hs5⟩
                have S7 := Lib.hid (S6.out.vis hbs (by omega) hV)
                have HD5 := Lib.hid hD5
                have HX7 : Hid (w7.heap[w.heap.size]? = some (.cells #[.int .i64 W, .int .i64 H, .slice (some ⟨g, o, none⟩) k ca] 24 (0, 0))) := (hV.tp.block _ (Array.getElem?_eq_some_iff.1 HX6.out).1 (fun e => by
                  rcases e with e | e | e
                  · omega
                  · omega
                  · have := (S6.out.hp.row.lt _ e).1; omega)).trans HX6.out
                have HB7 : Hid (w7.heap[b10]? = some (.cells #[.int .i64 (cN : Int), .int .i64 x] 72 (0, 0))) := (hV.tp.block _ (Array.getElem?_eq_some_iff.1 HB6.out).1 (fun e => by
                  rcases e with e | e | e
                  · omega
                  · omega
                  · exact hR.out e)).trans HB6.out
                clear hV hD5 S6 HX6 HB6 VC e3 e4 e5 e6 e7
                clear hR
                have S6 := S7
                have HX6 := HX7
                have HB6 := HB7
                clear S7 HX7 HB7
                generalize w5.heap.size = zz at *
                clear zz
                generalize w7 = w5 at *
                have TK := Lib.hid ((S6.out.keep (newBox (.cells #[.int .i64 (cN : Int), .int .i64 x] 72))))
                have TC := Lib.hid (take13_any base hb2 v5 l5 _ TK.out.hp TK.out.ho)
                have HX8 : Hid ((w5.alloc (.cells #[.int .i64 (cN : Int), .int .i64 x] 72)).heap[w.heap.size]? = some (.cells #[.int .i64 W, .int .i64 H, .slice (some ⟨g, o, none⟩) k ca] 24 (0, 0))) := ((newBox (w := w5) (.cells #[.int .i64 (cN : Int), .int .i64 x] 72)).block _ (Array.getElem?_eq_some_iff.1 HX6.out).1).trans HX6.out
                have HB8 : Hid ((w5.alloc (.cells #[.int .i64 (cN : Int), .int .i64 x] 72)).heap[w5.heap.size]? = some (.cells #[.int .i64 (cN : Int), .int .i64 x] 72 (0, 0))) := World.alloc_heap_new _ _
                have hr5 := S6.out.ir.lt
                have hh5 := S6.out.hp.lt
                have hw5 : w.heap.size ≤ w5.heap.size := S6.out.bel.size
                have HR8 : Hid (∀ q, v5.ownBlock = some q → q < w5.heap.size) := fun q e => (S6.out.hp.row.lt q e).2
                have f0 : w5.cell? ⟨b10, 0, none⟩ = some (.int .i64 (cN : Int)) := by rw [cell_of_row _ _ 0 _ _ (0, 0) HB6.out]; rfl
                have f1 : w5.cell? ⟨b10, 1, none⟩ = some (.int .i64 x) := by rw [cell_of_row _ _ 1 _ _ (0, 0) HB6.out]; rfl
                clear S6 HX6 HB6
                go_wp2_with fail
                refine TC.out.mono ?_
                rintro e w9 ⟨c9, x9, ok9, v9, l9, rfl, q1, q2, q5, q6, q7⟩
                have S9 := Lib.hid (TK.out.tw hbs q1 q2 q5)
                have HB9 : Hid (w9.heap[w5.heap.size]? = some (.cells #[.int .i64 (cN : Int), .int .i64 x] 72 (0, 0))) := (q5.block _ (Array.getElem?_eq_some_iff.1 HB8.out).1 (by omega) (fun e => by have := HR8.out _ e.symm; omega)).trans HB8.out
                have HX9 : Hid (w9.heap[w.heap.size]? = some (.cells #[.int .i64 W, .int .i64 H, .slice (some ⟨g, o, none⟩) k ca] 24 (0, 0))) := (q5.block _ (Array.getElem?_eq_some_iff.1 HX8.out).1 (by omega) (fun e => by have := (TK.out.hp.row.lt _ e.symm).1; omega)).trans HX8.out
                have HP9 : Hid (Pd W H O k b u F5 l9 ok9 c9 x9) := ⟨l5, HD5.out, q7.imp (fun h => ⟨h.1, h.2.1, h.2.2.1⟩) (fun h => h)⟩
                have hs9 : sumR F5 k + l9.length + (if ok9 = true then 1 else 0) ≤ sumR F5 k + l5.length := by
                  rcases q7 with ⟨r1, _, _, r4⟩ | ⟨r1, r2, r3⟩
                  · rw [if_pos r1]; omega
                  · rw [r1, r3]; simp
                have HR9 : Hid (v9.ownBlock ≠ some w5.heap.size) := fun e => by
                  rcases q6 with h | h
                  · have := HR8.out _ (h.symm.trans e); omega
                  · have := h _ e; rw [size_alloc] at this; omega
                have GG := grown_two w9 w5.heap.size 0 1 (.int .i64 c9) (.int .i64 x9)
                have S10 : Hid (Sps w base (w.heap.size + 1) hb2 k F5 v9 l9 ((w9.setCell ⟨w5.heap.size, 0, none⟩ (.int .i64 c9)).setCell ⟨w5.heap.size, 1, none⟩ (.int .i64 x9))) := S9.out.far GG hw5 (by omega) (by omega) HR9.out
                have HX10 : Hid (_ = _) := (GG.block _ (Array.getElem?_eq_some_iff.1 HX9.out).1 (by simp; omega)).trans HX9.out
                have HB10 : Hid (((w9.setCell ⟨w5.heap.size, 0, none⟩ (.int .i64 c9)).setCell ⟨w5.heap.size, 1, none⟩ (.int .i64 x9)).heap[w5.heap.size]? = some (.cells #[.int .i64 c9, .int .i64 x9] 72 (0, 0))) := by
                  show _ = _
                  rw [setCell_blk (setCell_blk HB9.out _) _]; rfl
                have hmu := mu13_is S10.out.ir S10.out.hp ok9
                have f2 : w9.cell? ⟨w5.heap.size, 0, none⟩ = some (.int .i64 (cN : Int)) := by rw [cell_of_row _ _ 0 _ _ (0, 0) HB9.out]; rfl
                have f3 : w9.cell? ⟨w5.heap.size, 1, none⟩ = some (.int .i64 x) := by rw [cell_of_row _ _ 1 _ _ (0, 0) HB9.out]; rfl
                have f4 : w9.frozen? ⟨w5.heap.size, 0, none⟩ = false := by simp [World.frozen?, HB9.out]
                have f5 : w9.frozen? ⟨w5.heap.size, 1, none⟩ = false := by simp [World.frozen?, HB9.out]
                clear q1 q2 q5 q6 q7 TC TK HB8 HX8 HR8 f0 f1 GG S9 HX9 HB9 HD5
                go_wp2
                go_roundw
                case rel => exact ⟨F5, v9, l9, ok9, c9, x9, w5.heap.size, rfl, rfl, S10.out, HP9.out, by omega, HX10.out, HB10.out, HR9.out, by omega, by omega⟩
                case measure => rw [hmu, hmu0]; omega
              · have hxd : (x == F cN) = false := by simp [hxf]
                have HD5 := Lib.hid (HDL.out.stale HL1.out (by rw [Int.toNat_natCast]; exact hxf))
                have hs5 : sumR F k + l.length ≤ sumR F k + l.length := Nat.le_refl _
                generalize v = v5 at *
                generalize l = l5 at *
                clear HDL HL1 hxf hent
                have TK := Lib.hid ((S6.out.keep (newBox (.cells #[.int .i64 (cN : Int), .int .i64 x] 72))))
                have TC := Lib.hid (take13_any base hb2 v5 l5 _ TK.out.hp TK.out.ho)
                have HX8 : Hid ((w5.alloc (.cells #[.int .i64 (cN : Int), .int .i64 x] 72)).heap[w.heap.size]? = some (.cells #[.int .i64 W, .int .i64 H, .slice (some ⟨g, o, none⟩) k ca] 24 (0, 0))) := ((newBox (w := w5) (.cells #[.int .i64 (cN : Int), .int .i64 x] 72)).block _ (Array.getElem?_eq_some_iff.1 HX6.out).1).trans HX6.out
                have HB8 : Hid ((w5.alloc (.cells #[.int .i64 (cN : Int), .int .i64 x] 72)).heap[w5.heap.size]? = some (.cells #[.int .i64 (cN : Int), .int .i64 x] 72 (0, 0))) := World.alloc_heap_new _ _
                have hr5 := S6.out.ir.lt
                have hh5 := S6.out.hp.lt
                have hw5 : w.heap.size ≤ w5.heap.size := S6.out.bel.size
                have HR8 : Hid (∀ q, v5.ownBlock = some q → q < w5.heap.size) := fun q e => (S6.out.hp.row.lt q e).2
                have f0 : w5.cell? ⟨b10, 0, none⟩ = some (.int .i64 (cN : Int)) := by rw [cell_of_row _ _ 0 _ _ (0, 0) HB6.out]; rfl
                have f1 : w5.cell? ⟨b10, 1, none⟩ = some (.int .i64 x) := by rw [cell_of_row _ _ 1 _ _ (0, 0) HB6.out]; rfl
                clear S6 HX6 HB6
                go_wp2_with fail
                refine TC.out.mono ?_
                rintro e w9 ⟨c9, x9, ok9, v9, l9, rfl, q1, q2, q5, q6, q7⟩
                have S9 := Lib.hid (TK.out.tw hbs q1 q2 q5)
                have HB9 : Hid (w9.heap[w5.heap.size]? = some (.cells #[.int .i64 (cN : Int), .int .i64 x] 72 (0, 0))) := (q5.block _ (Array.getElem?_eq_some_iff.1 HB8.out).1 (by omega) (fun e => by have := HR8.out _ e.symm; omega)).trans HB8.out
                have HX9 : Hid (w9.heap[w.heap.size]? = some (.cells #[.int .i64 W, .int .i64 H, .slice (some ⟨g, o, none⟩) k ca] 24 (0, 0))) := (q5.block _ (Array.getElem?_eq_some_iff.1 HX8.out).1 (by omega) (fun e => by have := (TK.out.hp.row.lt _ e.symm).1; omega)).trans HX8.out
                have HP9 : Hid (Pd W H O k b u F l9 ok9 c9 x9) := ⟨l5, HD5.out, q7.imp (fun h => ⟨h.1, h.2.1, h.2.2.1⟩) (fun h => h)⟩
                have hs9 : sumR F k + l9.length + (if ok9 = true then 1 else 0) ≤ sumR F k + l5.length := by
                  rcases q7 with ⟨r1, _, _, r4⟩ | ⟨r1, r2, r3⟩
                  · rw [if_pos r1]; omega
                  · rw [r1, r3]; simp
                have HR9 : Hid (v9.ownBlock ≠ some w5.heap.size) := fun e => by
                  rcases q6 with h | h
                  · have := HR8.out _ (h.symm.trans e); omega
                  · have := h _ e; rw [size_alloc] at this; omega
                have GG := grown_two w9 w5.heap.size 0 1 (.int .i64 c9) (.int .i64 x9)
                have S10 : Hid (Sps w base (w.heap.size + 1) hb2 k F v9 l9 ((w9.setCell ⟨w5.heap.size, 0, none⟩ (.int .i64 c9)).setCell ⟨w5.heap.size, 1, none⟩ (.int .i64 x9))) := S9.out.far GG hw5 (by omega) (by omega) HR9.out
                have HX10 : Hid (_ = _) := (GG.block _ (Array.getElem?_eq_some_iff.1 HX9.out).1 (by simp; omega)).trans HX9.out
                have HB10 : Hid (((w9.setCell ⟨w5.heap.size, 0, none⟩ (.int .i64 c9)).setCell ⟨w5.heap.size, 1, none⟩ (.int .i64 x9)).heap[w5.heap.size]? = some (.cells #[.int .i64 c9, .int .i64 x9] 72 (0, 0))) := by
                  show _ = _
                  rw [setCell_blk (setCell_blk HB9.out _) _]; rfl
                have hmu := mu13_is S10.out.ir S10.out.hp ok9
                have f2 : w9.cell? ⟨w5.heap.size, 0, none⟩ = some (.int .i64 (cN : Int)) := by rw [cell_of_row _ _ 0 _ _ (0, 0) HB9.out]; rfl
                have f3 : w9.cell? ⟨w5.heap.size, 1, none⟩ = some (.int .i64 x) := by rw [cell_of_row _ _ 1 _ _ (0, 0) HB9.out]; rfl
                have f4 : w9.frozen? ⟨w5.heap.size, 0, none⟩ = false := by simp [World.frozen?, HB9.out]
                have f5 : w9.frozen? ⟨w5.heap.size, 1, none⟩ = false := by simp [World.frozen?, HB9.out]
                clear q1 q2 q5 q6 q7 TC TK HB8 HX8 HR8 f0 f1 GG S9 HX9 HB9 HD5
                go_wp2
                go_roundw
                case rel => exact ⟨F, v9, l9, ok9, c9, x9, w5.heap.size, rfl, rfl, S10.out, HP9.out, by omega, HX10.out, HB10.out, HR9.out, by omega, by omega⟩
                case measure => rw [hmu, hmu0]; omega
          · rw [if_neg (by simp)] at hsum hmu0
            have HE := Lib.hid (hDL.done hn.2 HL.out.sz)
            clear hDL hPd
            go_wp2
            go_ret
            exact ⟨w.heap.size + 1, F, rfl, by omega, hSp.out.ir, HE.out, hSp.out.bel⟩
end Go.Proofs.YtcipedijjemghaaDoor
