/- Rows of numbers; contracts: descend, Way. -/
import Derived.Test.YtcipedijjemghaaDoorRt6
import Derived.Deep.LoopGhost
import Derived.WalkMore
namespace Go.Proofs.YtcipedijjemghaaDoor
open Go.RowKit Go.Sort Go.Shelf
set_option linter.unusedVariables false
set_option linter.unusedSimpArgs false
attribute [local go_sem] Oper.semAt_some

def iv (l : List Int) : List Value := l.map fun z : Int => Value.int .i64 z
theorem iv_append (l m : List Int) : iv (l ++ m) = iv l ++ iv m := by simp [iv]
theorem iv_length (l : List Int) : (iv l).length = l.length := by simp [iv]
/-- v is a row of the call's own that holds these numbers. -/
def Rn (w : World) (base : Nat) (v : Value) (l : List Int) : Prop := w.ownsRow base 3 1 v l.length (iv l)
theorem Rn.nil (w : World) (base : Nat) : Rn w base (.slice none 0 0) [] := World.ownsRow_nil _ _ _ _
theorem Rn.keep {w w' : World} {base : Nat} {v : Value} {l : List Int} (h : Rn w base v l) (hb : RowKit.Below w.heap.size w w') : Rn w' base v l :=
  World.ownsRow.kept h (below_grownBy (row := none) hb) (by cases v.ownBlock <;> simp)
theorem Rn.lt {w : World} {base : Nat} {v : Value} {l : List Int} (h : Rn w base v l) : ∀ k, v.ownBlock = some k → base ≤ k ∧ k < w.heap.size := World.ownsRow.lt h
/-- Numbers that lie at A. -/
def Is (w : World) (A : Option Addr) (n : Nat) (p : Nat → Int) : Prop :=
  0 < n → ∃ g o, A = some ⟨g, o, none⟩ ∧ g < w.heap.size ∧ ∀ i, i < n → w.cell? ⟨g, o + i, none⟩ = some (.int .i64 (p i))
theorem Is.keep {w w' : World} {A : Option Addr} {n : Nat} {p : Nat → Int} (h : Is w A n p) (hb : RowKit.Below w.heap.size w w') : Is w' A n p := by
  intro hn
  obtain ⟨g, o, e, hg, hc⟩ := h hn
  exact ⟨g, o, e, Nat.lt_of_lt_of_le hg hb.size, fun i hi => (hb.cell (p := ⟨g, o + i, none⟩) hg).trans (hc i hi)⟩
theorem Rn.is {w : World} {base : Nat} {v : Value} {l : List Int} (h : Rn w base v l) : ∃ A k, v = .slice A l.length k ∧ l.length ≤ k ∧ k ≤ maxLen ∧ Is w A l.length (fun i => l.getD i 0) := by
  rcases h.2 with ⟨rfl, hn⟩ | ⟨g, cap, cur, rfl, hg, hh, hnc, hcm, _, _⟩
  · rw [hn]
    exact ⟨none, 0, rfl, Nat.le_refl _, by simp [maxLen], fun h0 => by omega⟩
  · refine ⟨_, cap, rfl, hnc, hcm, fun h0 => ⟨g, 0, rfl, ?_, fun i hi => ?_⟩⟩
    · rcases Nat.lt_or_ge g w.heap.size with hlt | hge
      · exact hlt
      · rw [Array.getElem?_eq_none hge] at hh; cases hh
    · have := World.ownsRow.cellAt h i (by omega)
      rw [Nat.zero_add, this]
      simp [iv, List.getD, hi]
theorem Tryd.infoN13 : (Tryd.prog.info? 3).map (fun i => (i.zero, i.size, i.bytes)) = some (some (.int .i64 0), 1, 8) := by kernel_rfl
/-- 'append(s, z)': the number lies in a new block of its own. -/
theorem append_int {ops : Array Oper} {rest : List Oper} {o : Oper} {a : Act} {Q : Exit → Act → World → Prop} (hgd : o.guard = none) (s x : Operand)
    (ho : o.op = .call { callee := .builtin .append, args := #[s, x], argTypes := #[26, 26] })
    (base : Nat) (l : List Int) (z : Int) (v : Value) (w : World) (hs : a.eval s = v) (hown : Rn w base v l)
    (hx : a.eval x = .slice (some ⟨w.heap.size, 0, none⟩) 1 1) (hmn : l.length ≤ 1000000) (hbase : base ≤ w.heap.size)
    (h : ∀ v' w', Rn w' base v' (l ++ [z]) → Ext w v w' v' → wpList Tryd.prog ops Q rest (a.put o.dst v') w') :
    wpList Tryd.prog ops Q (o :: rest) a (w.alloc (.cells #[.int .i64 z] 3)) := by
  refine wpList_plain hgd fun K hK => ?_
  have hown0 : (w.alloc (.cells #[.int .i64 z] 3)).ownsRow base 3 1 v l.length (iv l) := hown.keep (newBox _)
  obtain ⟨i0, hi, hz0, hz1, hz2⟩ := info_parts Tryd.infoN13
  obtain ⟨v', w', hr, hown', hgr, hwh⟩ := append_where (P := Tryd.prog) (w.alloc (.cells #[.int .i64 z] 3)) base 26 o.type 3 i0 (.int .i64 0) 1 8 Tryd.underlying26 hi hz0 hz1 hz2 rfl (by decide) v l.length (iv l) hown0 ⟨w.heap.size, 0, none⟩ 1 1 (iv [z]) (by simp [iv])
    (by
      intro j u hj
      match j, hj with
      | 0, hj => simp [iv] at hj; subst hj; simp [Addr.add])
    (by intro u hu; simp [iv] at hu; subst hu; rfl) (by decide) (by unfold maxLen; omega) (by omega) (by simp; omega)
  unfold Oper.wp execOp
  simp only [ho, resolve, invoke, builtin, Sem.run_bind, Sem.run_pure, Result.andThen_ok, List.map_toArray, List.map_cons, List.map_nil, hs, hx, hr]
  refine hK _ _ (h v' w' ?_ ?_)
  · unfold Rn
    rw [iv_append, List.length_append]
    exact hown'
  · refine (Ext.refl w v).trans (Ext.trans ⟨below_grownBy (newBox _), .inl rfl⟩ ⟨hgr, ?_⟩)
    rcases hwh with e | e
    · exact .inl e
    · exact .inr fun k hk => by rw [e] at hk; injection hk; omega



theorem Rn.one {X : World} {base g : Nat} {z : Int} (h : X.heap[g]? = some (.cells #[.int .i64 z] 3 (0, 0))) (hg : base ≤ g) : Rn X base (.slice (some ⟨g, 0, none⟩) 1 1) [z] :=
  ⟨by simp [iv], .inr ⟨g, 1, _, rfl, hg, h, Nat.le_refl _, by unfold maxLen; omega, rfl, rfl⟩⟩
theorem Rn.big {w : World} {base : Nat} {v : Value} {l : List Int} (h : Rn w base v l) (h0 : 0 < l.length) : ∃ g cap, v = .slice (some ⟨g, 0, none⟩) l.length cap ∧ l.length ≤ cap ∧ cap ≤ maxLen := by
  rcases h.2 with ⟨rfl, hn⟩ | ⟨g, cap, cur, rfl, hg, hh, hnc, hcm, _, _⟩
  · omega
  · exact ⟨g, cap, rfl, hnc, hcm⟩

section
variable {W H : Int} {O : Nat → Bool} {n b f : Nat} {F : Nat → Int}
/-- Where costs are right below a cell's, the step that leads on is told by them. -/
theorem exa_at (h : Exa W H O n b (f : Int) F) (h0 : 0 ≤ cst W H O b f) {k : Nat} (hk : k < n) (hc : 0 ≤ cst W H O b k) (hl : cst W H O b k ≤ cst W H O b f) : F k = cst W H O b k ∧ F k ≤ 12285 :=
  ((h k hk).2 hc).2 (.inr (.inr hl))
theorem exa_nx (h : Exa W H O n b (f : Int) F) (h0 : 0 ≤ cst W H O b f) {c m s : Nat} (hs : s < 8) (hc : c < n) (hm : m < n) (hcc : 0 ≤ cst W H O b c) (hl : cst W H O b c ≤ cst W H O b f) (e : goL W H O c s = (m : Int)) : F m + prc s = F c ↔ wrk W H O (cst W H O b) c s := by
  have hp := prc_bd s
  have hFc := exa_at h h0 hc hcc hl
  constructor
  · intro hq
    have hm2 := h m hm
    rcases cst_or (W := W) (H := H) (O := O) (b : Int) (m : Int) with ⟨hd, _⟩ | ⟨hd, _⟩
    · have := hm2.1 hd; omega
    · have h3 := (hm2.2 hd).1
      have h4 := cst_step (b := (b : Int)) (k := (c : Int)) hs (by rw [e]; omega) (by rw [e]; exact hd)
      rw [e] at h4
      refine ⟨by rw [e]; omega, by rw [e]; exact hd, ?_⟩
      rw [e]
      omega
  · rintro ⟨q1, q2, q3⟩
    rw [e] at q2 q3
    have := exa_at h h0 hm q2 (by omega)
    omega
end

theorem bdrew13 (w : World) (k : Nat) : RowKit.Below w.heap.size w (w.drewN k) := ⟨rfl, rfl, rfl, Nat.le_refl _, fun _ _ => rfl⟩
/-- A way comes back, in new memory, or an error. -/
def RetWy (W H : Int) (O : Nat → Bool) (n : Nat) (f t most : Int) (w : World) (e : Ending) (w' : World) : Prop :=
  RowKit.Below w.heap.size w w' ∧ ((er13 W H O n f t ≠ 0 ∧ e = .returned (.tuple #[.slice none 0 0, .int .i64 (er13 W H O n f t)])) ∨
    (er13 W H O n f t = 0 ∧ most < cst W H O t f ∧ e = .returned (.tuple #[.slice none 0 0, .int .i64 10])) ∨
    (er13 W H O n f t = 0 ∧ cst W H O t f ≤ most ∧ ∃ A k l, e = .returned (.tuple #[.slice A l.length k, .int .i64 0]) ∧ l.length ≤ k ∧ k ≤ maxLen ∧ l.length ≤ 12286 ∧ Is w' A l.length (fun i => l.getD i 0) ∧ Pth W H O (cst W H O t) t f l))
/-- A path comes back. -/
def RetDs (W H : Int) (O : Nat → Bool) (t f : Int) (w : World) (e : Ending) (w' : World) : Prop :=
  RowKit.Below w.heap.size w w' ∧ ∃ A k l, e = .returned (.slice A l.length k) ∧ l.length ≤ k ∧ k ≤ maxLen ∧ l.length ≤ 12286 ∧ Is w' A l.length (fun i => l.getD i 0) ∧ Pth W H O (cst W H O t) t f l

set_option maxHeartbeats 8000000 in
theorem descend13_any (W H : Int) (O : Nat → Bool) (n ca rg f t : Nat) (A : Option Addr) (F : Nat → Int) (w : World) (hl : Lin w A n ca O) (hL : Lnd W H n) (hI : Ir w rg n F) (hE : Exa W H O n t (f : Int) F) (hf : f < n) (ht : t < n) (h0 : 0 ≤ cst W H O t f) :
    Calls Tryd.prog 28 #[.agg #[.int .i64 W, .int .i64 H, .slice A n ca], .slice (some ⟨rg, 0, none⟩) n n, .int .i64 (f : Int)] w (RetDs W H O t f w) := by
  have hn := hL.bd
  have CA := Lib.hid (fun c s u' (hu : RowKit.Below w.heap.size w u') hs hop => after13_any W H O c s A n ca u' w hL hl.bo hu hs hop)
  have LS := Lib.hid (fun u' (hu : RowKit.Below w.heap.size w u') => load_steps (hl.tb.keep hu))
  have HI := Lib.hid hI
  have HE := Lib.hid hE
  have H0 := Lib.hid h0
  have hFf := exa_at hE h0 hf h0 (Int.le_refl _)
  have hc0 : cst W H O t f ≤ 12285 := by omega
  have hisf : isL W H O (f : Int) := (cst_wk h0).ends.1
  have K0 := Lib.hid ((Kx.new w 24 #[.int .i64 W, .int .i64 H, .slice A n ca]).alloc (.cells #[.int .i64 (f : Int)] 3))
  have R0 : Hid (Rn ((w.alloc (.cells #[.int .i64 W, .int .i64 H, .slice A n ca] 24)).alloc (.cells #[.int .i64 (f : Int)] 3)) w.heap.size (.slice (some ⟨w.heap.size + 1, 0, none⟩) 1 1) [(f : Int)]) := by
    refine Rn.one ?_ (by omega)
    have := World.alloc_heap_new (w.alloc (.cells #[.int .i64 W, .int .i64 H, .slice A n ca] 24)) (.cells #[.int .i64 (f : Int)] 3)
    rw [size_alloc] at this
    exact this
  have hrl := hI.lt
  clear hl hI hE h0 hFf
  go_enter Tryd.func28, Tryd.ntmps28
  go_wp2
  go_step3
  go_wp2
  go_step3
  go_wp2
  generalize (w.alloc (.cells #[.int .i64 W, .int .i64 H, .slice A n ca] 24)).alloc (.cells #[.int .i64 (f : Int)] 3) = w1 at *
  go_loopg [7, 8] 12285 (fun gg s7 s8 wr => ∃ (pre : List Int) (c : Nat) (v : Value), s7 = v ∧ cst W H O t c ≤ (gg : Int) ∧ s8 = .int .i64 (c : Int) ∧ c < n ∧ Hid (isL W H O (c : Int)) ∧ Hid (0 ≤ cst W H O t c ∧ cst W H O t c ≤ cst W H O t f) ∧ (pre.length : Int) + cst W H O t c ≤ 12285 ∧ Hid (Rn wr w.heap.size v (pre ++ [(c : Int)])) ∧ Hid (∀ r, Pth W H O (cst W H O t) t c r → Pth W H O (cst W H O t) t f (pre ++ r)) ∧ Hid (RowKit.Below w.heap.size w wr) ∧ Hid (wr.heap[w.heap.size]? = some (.cells #[.int .i64 W, .int .i64 H, .slice A n ca] 24 (0, 0))))
  case atStart => exact ⟨[], f, _, rfl, by exact hc0, rfl, hf, hisf, ⟨H0.out, Int.le_refl _⟩, by simpa using hc0, R0.out, fun r hr => hr, K0.out.below, K0.out.blk⟩
  case round =>
    obtain ⟨pre, c, v, rfl, hgk, rfl, hcn, his, hco, hlen, hRn, hPr, hB, hX⟩ := hrel
    obtain ⟨hc1, hc2⟩ := hco.out
    obtain ⟨wo, hwo⟩ : ∃ x, x = wr := ⟨_, rfl⟩
    subst hwo
    obtain ⟨gz, hgz⟩ : ∃ x, x = gk := ⟨_, rfl⟩
    subst hgz
    have hFc := exa_at HE.out H0.out hcn hc1 hc2
    have hcnI : (c : Int) < (n : Int) := by omega
    have e0 := (HI.out.keep hB.out).cell hcn
    obtain ⟨g, cap, hs7, hcap, hcapm⟩ := hRn.out.big (by simp)
    subst hs7
    have hll : (pre ++ [(c : Int)]).length = pre.length + 1 := by simp
    rw [hll] at hRn hcap
    unfold maxLen at hcapm
    by_cases hz : cst W H O t c = 0
    · have hF0 : F c = 0 := by omega
      rw [hF0] at e0
      have hct : c = t := by have := cst_zero hz; omega
      subst c
      have HP := Lib.hid (hPr.out [(t : Int)] Pth.last)
      have hplen : pre.length ≤ 12285 := by omega
      clear hc1 hc2 hFc hz hPr hco hlen hF0
      go_wp2
      first | (rw [Exit.noGoto_ret]; go_ret) | go_ret
      refine ⟨hB.out, ?_⟩
      obtain ⟨A', k', e1, e2, e3, e4⟩ := hRn.out.is
      have hl2 : (pre ++ [(t : Int)]).length = pre.length + 1 := by simp
      rw [hl2] at e1 e2 e4
      injection e1 with e5 e6 e7
      exact ⟨some ⟨g, 0, none⟩, cap, pre ++ [(t : Int)], by rw [hl2]; rfl, by rw [hl2]; exact hcap, by unfold maxLen; exact hcapm, by rw [hl2]; omega, by rw [hl2, e5]; exact e4, HP.out⟩
    · have hpos : 0 < cst W H O t c := by omega
      obtain ⟨gy, rfl⟩ : ∃ gy, gz = gy + 1 := ⟨gz - 1, by omega⟩
      have hFpos : decide (0 < F c) = true := decide_eq_true (by omega)
      have hFp : 0 < F c := by omega
      have HNX := Lib.hid (nx_ex hpos)
      have LS1 := Lib.hid (LS.out wo hB.out)
      have HCC := Lib.hid (And.intro hc1 (And.intro hc2 hpos))
      have HFc := Lib.hid hFc
      have hFb := hFc.2
      clear hc1 hc2 hpos hz hFc
      go_wp2_with (refine wpList_load13 (ty := 80) (x := .global 0) (ad := ⟨0, 0, none⟩) (v := .agg stA) ?_ rfl rfl rfl ?_; exact LS1.out)
      clear LS1
      go_loopg [7, 8, 22] 8 (fun gg s7 s8 s22 wi => ∃ s : Nat, s7 = .slice (some ⟨g, 0, none⟩) (pre.length + 1) cap ∧ s8 = .int .i64 (c : Int) ∧ s22 = .int .i64 (s : Int) ∧ s ≤ 8 ∧ s + gg = 8 ∧ Hid (∀ q, q < s → ¬ wrk W H O (cst W H O t) c q) ∧ Hid (RowKit.Below wo.heap.size wo wi))
      case atStart => exact ⟨0, by first | rfl | rw [hll], rfl, rfl, by omega, by omega, fun q hq => absurd hq (by omega), Below.refl _ _⟩
      case round =>
        obtain ⟨s, rfl, rfl, rfl, hs, hsg, hno, hBi⟩ := hrel
        obtain ⟨wi, hwi⟩ : ∃ x, x = wr := ⟨_, rfl⟩
        subst hwi
        by_cases hs8 : s < 8
        · obtain ⟨gi, rfl⟩ : ∃ gi, gk = gi + 1 := ⟨gk - 1, by omega⟩
          have hsI : decide ((s : Int) < 8) = true := decide_eq_true (by omega)
          have hidx := index_step hs8 wi
          obtain ⟨p1, p2⟩ := prc_bd s
          have KX := Lib.hid (Kx.new wi 79 #[.int .i64 (dI s), .int .i64 (dJ s), .int .i64 (prc s)])
          have BX := Lib.hid (hBi.out.trans (KX.out.below.mono hBi.out.size))
          have BW := Lib.hid (hB.out.trans (BX.out.mono hB.out.size))
          have C := Lib.hid (CA.out (c : Int) s _ BW.out hs8 his.out)
          have B4 : Hid (_ = _) := (BX.out.block _ (Array.getElem?_eq_some_iff.1 hX.out).1).trans hX.out
          have c0 : (wi.alloc (.cells #[.int .i64 (dI s), .int .i64 (dJ s), .int .i64 (prc s)] 79)).cell? ⟨w.heap.size, 0, none⟩ = some (.int .i64 W) := by rw [cell_of_row _ _ 0 _ _ (0, 0) B4.out]; rfl
          have c1 : (wi.alloc (.cells #[.int .i64 (dI s), .int .i64 (dJ s), .int .i64 (prc s)] 79)).cell? ⟨w.heap.size, 1, none⟩ = some (.int .i64 H) := by rw [cell_of_row _ _ 1 _ _ (0, 0) B4.out]; rfl
          have c2 : (wi.alloc (.cells #[.int .i64 (dI s), .int .i64 (dJ s), .int .i64 (prc s)] 79)).cell? ⟨w.heap.size, 2, none⟩ = some (.slice A n ca) := by rw [cell_of_row _ _ 2 _ _ (0, 0) B4.out]; rfl
          go_wp2_with fail
          refine C.out.mono ?_
          rintro e w5 ⟨rfl, b5⟩
          have K5 := Lib.hid (KX.out.keep b5)
          have B5 := Lib.hid (BX.out.trans (b5.mono BX.out.size))
          clear b5 KX BX BW B4 C c0 c1 c2 hidx
          have e5 : w5.cell? ⟨wi.heap.size, 2, none⟩ = some (.int .i64 (prc s)) := K5.out.cell 2 rfl
          cases hd : decide (0 ≤ goL W H O (c : Int) s) with
          | false =>
            have hn' : ¬ 0 ≤ goL W H O (c : Int) s := of_decide_eq_false hd
            have HNO : Hid (∀ q, q < s + 1 → ¬ wrk W H O (cst W H O t) c q) := fun q hq => by
              by_cases e : q = s
              · subst e; exact fun h => hn' h.1
              · exact hno.out q (by omega)
            clear hd hn'
            go_wp2
            go_quiet (fail)
            have B6 := Lib.hid (B5.out.trans ((bdrew13 w5 nq).mono B5.out.size))
            clear e5 K5 B5
            generalize w5.drewN nq = w6 at *
            go_wp2
            go_roundg gi
            case rel => exact ⟨s + 1, rfl, rfl, by go_num, by omega, by omega, HNO.out, B6.out⟩
            all_goals omega
          | true =>
            have hg0 : 0 ≤ goL W H O (c : Int) s := of_decide_eq_true hd
            obtain ⟨m, hm⟩ : ∃ m : Nat, goL W H O (c : Int) s = (m : Int) := ⟨(goL W H O (c : Int) s).toNat, by omega⟩
            have hism := (go_is hg0).2
            rw [hm] at hism
            have hmn : m < n := by
              have := hism.2.1
              have := hL.sz
              omega
            have hmI : (m : Int) < (n : Int) := by omega
            have HW := Lib.hid (exa_nx HE.out H0.out hs8 hcn hmn HCC.out.1 HCC.out.2.1 hm)
            have BW5 := Lib.hid (hB.out.trans (B5.out.mono hB.out.size))
            have e6 := (HI.out.keep BW5.out).cell hmn
            have e7 := (HI.out.keep BW5.out).cell hcn
            have hFm : 0 ≤ F m ∧ F m ≤ 1048576 := by
              have := HE.out m hmn
              rcases cst_or (W := W) (H := H) (O := O) (t : Int) (m : Int) with ⟨hd, _⟩ | ⟨hd, _⟩
              · have := this.1 hd; omega
              · have := (this.2 hd).1; omega
            rw [hm]
            have HM := Lib.hid hm
            have HIS := Lib.hid hism
            clear hd hg0 hm hism
            by_cases hq : F m + prc s = F c
            · have hqd : (F m + prc s == F c) = true := by simp [hq]
              have hwk := HW.out.1 hq
              have hnx : IsNx W H O (cst W H O t) c (m : Int) := ⟨s, hs8, hwk, hno.out, HM.out⟩
              have hw3 := hwk.2.2
              have hw2 := hwk.2.1
              rw [HM.out] at hw2 hw3
              have HN2 := Lib.hid (And.intro hw2 (And.intro hw3 hnx))
              clear hwk hnx hw2 hw3 hq HW
              go_wp2
              go_quiet (fail)
              have B6 := Lib.hid (BW5.out.trans ((bdrew13 w5 nq).mono BW5.out.size))
              have R6 : Hid (Rn (w5.drewN nq) w.heap.size (.slice (some ⟨g, 0, none⟩) (pre.length + 1) cap) (pre ++ [(c : Int)])) := hRn.out.keep (B5.out.trans ((bdrew13 w5 nq).mono B5.out.size))
              have X6 : Hid ((w5.drewN nq).heap[w.heap.size]? = some (.cells #[.int .i64 W, .int .i64 H, .slice A n ca] 24 (0, 0))) := ((B5.out.trans ((bdrew13 w5 nq).mono B5.out.size)).block _ (Array.getElem?_eq_some_iff.1 hX.out).1).trans hX.out
              have hpl : pre.length ≤ 12285 := by have := HCC.out.1; omega
              clear e5 e6 e7 K5 B5 BW5
              generalize w5.drewN nq = w6 at *
              have hb6 := B6.out.size
              have hlq : (pre ++ [(c : Int)]).length ≤ 1000000 := by rw [hll]; omega
              go_wp2_with (at_builtin; refine append_int rfl (.tmp 47) (.tmp 49) rfl w.heap.size (pre ++ [(c : Int)]) (m : Int) _ w6 rfl R6.out rfl hlq hb6 ?_; intro v' w7 hr7 he7; (have R7 := Lib.hid hr7); (have E7 := Lib.hid he7); clear hr7 he7)
              have B7 := Lib.hid (B6.out.trans (E7.out.belowB B6.out.size (fun k hk => (R6.out.lt k hk).1)))
              have X7 : Hid (w7.heap[w.heap.size]? = some (.cells #[.int .i64 W, .int .i64 H, .slice A n ca] 24 (0, 0))) := (E7.out.grown.block _ (Array.getElem?_eq_some_iff.1 X6.out).1 (blk_not_row X6.out (by decide) R6.out)).trans X6.out
              clear E7 R6 B6 X6
              have HPT : Hid (∀ r, Pth W H O (cst W H O t) t m r → Pth W H O (cst W H O t) t f ((pre ++ [(c : Int)]) ++ r)) := by
                intro r hr
                have := hPr.out ((c : Int) :: r) (Pth.more HCC.out.2.2 HN2.out.2.2 hr)
                simpa using this
              have HCM : Hid (0 ≤ cst W H O t m ∧ cst W H O t m ≤ cst W H O t f) := by
                have h1 := HN2.out.1
                have h2 := HN2.out.2.1
                have h3 := HCC.out
                exact ⟨h1, by omega⟩
              have hgm : cst W H O t m ≤ (gy : Int) := by have h2 := HN2.out.2.1; omega
              have hlm : ((pre ++ [(c : Int)]).length : Int) + cst W H O t m ≤ 12285 := by
                have h2 := HN2.out.2.1
                rw [hll]; push_cast; omega
              clear hPr HN2 hRn hB hX
              go_wp2
              go_roundg gy
              case rel => exact ⟨pre ++ [(c : Int)], m, v', rfl, hgm, rfl, hmn, HIS.out, HCM.out, hlm, R7.out, HPT.out, B7.out, X7.out⟩
              all_goals omega
            · have hqd : (F m + prc s == F c) = false := by simp [hq]
              have HNO : Hid (∀ q, q < s + 1 → ¬ wrk W H O (cst W H O t) c q) := fun q hq' => by
                by_cases e : q = s
                · subst e; exact fun h => hq (HW.out.2 h)
                · exact hno.out q (by omega)
              clear hq HW
              go_wp2
              go_quiet (fail)
              have B6 := Lib.hid (B5.out.trans ((bdrew13 w5 nq).mono B5.out.size))
              clear e5 e6 e7 K5 B5 BW5
              generalize w5.drewN nq = w6 at *
              go_wp2
              go_roundg gi
              case rel => exact ⟨s + 1, rfl, rfl, by go_num, by omega, by omega, HNO.out, B6.out⟩
              all_goals omega
        · obtain rfl : s = 8 := by omega
          obtain ⟨q, hq, hw⟩ := HNX.out
          exact absurd hw (hno.out q hq)
set_option maxHeartbeats 4000000 in
theorem way13_any2 (W H : Int) (O : Nat → Bool) (n ca : Nat) (f t most : Int) (A : Option Addr) (w : World) (hl : Lin w A n ca O) :
    Calls Tryd.prog 16 #[.agg #[.int .i64 W, .int .i64 H, .slice A n ca], .int .i64 f, .int .i64 t, .int .i64 most] w (RetWy W H O n f t most w) := by
  have K0 := Lib.hid (Kx.new w 24 #[.int .i64 W, .int .i64 H, .slice A n ca])
  have BC := Lib.hid (between13_any W H O n ca f t A _ (hl.keep K0.out.below))
  have HLI := Lib.hid hl
  obtain ⟨er, her⟩ : ∃ x, er13 W H O n f t = x := ⟨_, rfl⟩
  have HER := Lib.hid her
  clear hl her
  go_enter Tryd.func16, Tryd.ntmps16
  go_wp2_with fail
  refine BC.out.mono ?_
  rintro e w1 ⟨b1, hc⟩
  have BL := Lib.hid (K0.out.below.trans (b1.mono K0.out.below.size))
  have K1 := Lib.hid (K0.out.keep b1)
  have hsz := K0.out.below.size
  clear b1 K0 BC
  rw [HER.out] at hc
  rcases hc with ⟨h1, rfl⟩ | ⟨h1, rg, F, rfl, q1, q2, q3, q4, q5, q6, q7⟩
  · have hk1 : (er != 0) = true := by simp [h1]
    have HN := Lib.hid h1
    clear h1
    go_wp2
    go_ret2
    exact ⟨BL.out, .inl ⟨by rw [HER.out]; exact HN.out, by rw [HER.out]; rfl⟩⟩
  · obtain ⟨fN, hfN⟩ : ∃ fN : Nat, f = (fN : Int) := ⟨f.toNat, by omega⟩
    subst hfN
    obtain ⟨tN, htN⟩ : ∃ tN : Nat, t = (tN : Int) := ⟨t.toNat, by omega⟩
    subst htN
    simp only [Int.toNat_natCast] at q7
    have hfn : fN < n := by omega
    have e0 := q2.cell hfn
    have hF := exa_at q7 q6 hfn q6 (Int.le_refl _)
    subst h1
    have hfI : (fN : Int) < (n : Int) := q4.2
    have hcst : Hid (cst W H O (tN : Int) (fN : Int) = F fN) := hF.1.symm
    by_cases hm : most < F fN
    · have hmd : decide (most < F fN) = true := decide_eq_true hm
      have HM : Hid (most < cst W H O (tN : Int) (fN : Int)) := by show _ < _; rw [hcst.out]; exact hm
      clear q1 q2 q3 q4 q5 q6 q7 hF hm
      go_wp2
      go_ret2
      exact ⟨BL.out, .inr (.inl ⟨HER.out, HM.out, rfl⟩)⟩
    · have hmd : decide (most < F fN) = false := decide_eq_false hm
      have HM : Hid (cst W H O (tN : Int) (fN : Int) ≤ most) := by show _ ≤ _; rw [hcst.out]; omega
      have c0 := K1.out.cell 0 rfl
      have c1 := K1.out.cell 1 rfl
      have c2 := K1.out.cell 2 rfl
      have DC := Lib.hid (descend13_any W H O n ca rg fN tN A F w1 (HLI.out.keep BL.out) q3 q2 q7 hfn (by omega) q6)
      clear q1 q2 q3 q4 q5 q6 q7 hF hm
      go_wp2_with fail
      refine DC.out.mono ?_
      rintro e w2 ⟨b2, A', k', l, rfl, r1, r2, r3, r4, r5⟩
      have B2 := Lib.hid (BL.out.trans (b2.mono BL.out.size))
      have HR := Lib.hid (And.intro r1 (And.intro r2 (And.intro r3 (And.intro r4 r5))))
      clear b2 r1 r2 r4 r5 c0 c1 c2 DC
      go_wp2
      go_ret2
      exact ⟨B2.out, .inr (.inr ⟨HER.out, HM.out, A', k', l, rfl, HR.out.1, HR.out.2.1, HR.out.2.2.1, HR.out.2.2.2.1, HR.out.2.2.2.2⟩)⟩
end Go.Proofs.YtcipedijjemghaaDoor
