/- Contracts: check, between, Cost, Costs. -/
import Derived.Test.YtcipedijjemghaaDoorRt5
namespace Go.Proofs.YtcipedijjemghaaDoor
open Go.RowKit Go.Sort Go.Shelf
set_option linter.unusedVariables false
set_option linter.unusedSimpArgs false
attribute [local go_sem] Oper.semAt_some

/-- What is wrong with the first m cells. -/
def rng13 (n : Nat) (p : Nat → Int) (m : Nat) : Bool := (List.range m).all fun i => decide (0 ≤ p i) && decide (p i < (n : Int))
theorem rng13_iff {n : Nat} {p : Nat → Int} {m : Nat} : rng13 n p m = true ↔ ∀ i, i < m → 0 ≤ p i ∧ p i < (n : Int) := by simp [rng13]
def ckv (W H : Int) (n : Nat) (p : Nat → Int) (m : Nat) : Int := if lnB W H n = true then (if rng13 n p m = true then 0 else 4) else 1

set_option maxHeartbeats 4000000 in
theorem check13_any (W H : Int) (A : Option Addr) (n ca m gc : Nat) (p : Nat → Int) (w : World) (hnc : n ≤ ca) (hcm : ca ≤ maxLen) (hm : m ≤ 2) (hp : ∀ i, i < m → w.cell? ⟨gc, i, none⟩ = some (.int .i64 (p i))) :
    Calls Tryd.prog 24 #[.agg #[.int .i64 W, .int .i64 H, .slice A n ca], .slice (some ⟨gc, 0, none⟩) m m] w (Ret (.int .i64 (ckv W H n p m)) w) := by
  have CV := Lib.hid (fun u => valid13_any W H A n ca u (by omega))
  have K0 := Lib.hid (Kx.new w 24 #[.int .i64 W, .int .i64 H, .slice A n ca])
  have HP := Lib.hid hp
  unfold maxLen at hcm
  clear hp
  go_enter Tryd.func24, Tryd.ntmps24
  go_wp2_with fail
  refine (CV.out _).mono ?_
  rintro e w1 ⟨rfl, b1⟩
  have K1 := Lib.hid (K0.out.keep b1)
  clear b1 K0 CV
  have HE0 : Hid (∀ v, lnB W H n = v → ckv W H n p m = if v = true then (if rng13 n p m = true then 0 else 4) else 1) := by
    intro v hv; unfold ckv; rw [hv]
  cases hln : lnB W H n with
  | false =>
    have HE := Lib.hid (HE0.out _ hln)
    clear HE0 hln
    go_wp2
    go_ret
    exact Ret.mk (by rw [HE.out]; rfl) K1.out.below
  | true =>
    have HE1 := Lib.hid (HE0.out _ hln)
    clear HE0 hln
    go_wp2
    go_loopw [12] (fun t wr => ∃ k : Nat, k ≤ m ∧ t = .int .i64 (k : Int) ∧ Hid (rng13 n p k = true) ∧ Hid (Kx w w.heap.size wr 24 #[.int .i64 W, .int .i64 H, .slice A n ca])) (fun t _ => m - (intOf t).toNat)
    case atStart => exact ⟨0, by omega, rfl, (rfl : rng13 n p 0 = true), K1.out⟩
    case round =>
      obtain ⟨k, hk, rfl, hR, hK⟩ := hrel
      by_cases hkm : k < m
      · have hkI : decide ((k : Int) < (m : Int)) = true := decide_eq_true (by omega)
        have hkJ : (k : Int) < (m : Int) := by omega
        have e0 := kc hK.out.below (HP.out k hkm)
        have e2 := hK.out.cell 2 rfl
        have HB : Hid (¬ (0 ≤ p k ∧ p k < (n : Int)) → rng13 n p m = false) := by
          intro h
          cases hr : rng13 n p m with
          | false => rfl
          | true => exact absurd (rng13_iff.1 hr k hkm) h
        have HG : Hid (0 ≤ p k → p k < (n : Int) → rng13 n p (k + 1) = true) := by
          intro h1 h2
          refine rng13_iff.2 fun i hi => ?_
          by_cases e : i = k
          · subst e; exact ⟨h1, h2⟩
          · exact rng13_iff.1 hR.out i (by omega)
        generalize p k = z at *
        by_cases hz0 : z < 0
        · have hzd : decide (z < 0) = true := decide_eq_true hz0
          have HE : Hid (ckv W H n p m = 4) := by
            show _ = _
            rw [HE1.out, HB.out (by omega)]; rfl
          clear hkm HB HG
          go_wp2
          go_ret
          exact Ret.mk (by rw [HE.out]; rfl) hK.out.below
        · have hzd : decide (z < 0) = false := decide_eq_false hz0
          by_cases hzn : (n : Int) ≤ z
          · have hze : decide ((n : Int) ≤ z) = true := decide_eq_true hzn
            have HE : Hid (ckv W H n p m = 4) := by
              show _ = _
              rw [HE1.out, HB.out (by omega)]; rfl
            clear hkm HB HG
            go_wp2
            go_ret
            exact Ret.mk (by rw [HE.out]; rfl) hK.out.below
          · have hze : decide ((n : Int) ≤ z) = false := decide_eq_false hzn
            have HR2 := Lib.hid (HG.out (by omega) (by omega))
            clear HB HG
            go_wp2
            go_roundw
            case rel => exact ⟨k + 1, by omega, by go_num, HR2.out, hK.out⟩
            case measure => simp [intOf]; omega
      · have hkI : decide ((k : Int) < (m : Int)) = false := decide_eq_false (by omega)
        obtain rfl : k = m := by omega
        have HE : Hid (ckv W H n p k = 0) := by
          show _ = _
          rw [HE1.out, hR.out]; rfl
        clear hkm
        go_wp2
        go_ret
        exact Ret.mk (by rw [HE.out]; rfl) hK.out.below

/-- The error of a pair of cells. -/
noncomputable def er13 (W H : Int) (O : Nat → Bool) (n : Nat) (f t : Int) : Int :=
  if lnB W H n = true then (if decide ((0 ≤ f ∧ f < (n : Int)) ∧ (0 ≤ t ∧ t < (n : Int))) = true then (if cst W H O t f = -1 then 6 else 0) else 4) else 1
theorem er13_ck {W H : Int} {O : Nat → Bool} {n : Nat} {f t : Int} : (ckv W H n (fun i => if i = 0 then f else t) 2 ≠ 0 → er13 W H O n f t = ckv W H n (fun i => if i = 0 then f else t) 2) ∧ (ckv W H n (fun i => if i = 0 then f else t) 2 = 0 → Lnd W H n ∧ (0 ≤ f ∧ f < (n : Int)) ∧ (0 ≤ t ∧ t < (n : Int)) ∧ er13 W H O n f t = if cst W H O t f = -1 then 6 else 0) := by
  have hr : rng13 n (fun i => if i = 0 then f else t) 2 = decide ((0 ≤ f ∧ f < (n : Int)) ∧ (0 ≤ t ∧ t < (n : Int))) := by
    by_cases h : (0 ≤ f ∧ f < (n : Int)) ∧ (0 ≤ t ∧ t < (n : Int))
    · rw [decide_eq_true h]
      refine rng13_iff.2 fun i hi => ?_
      have : i = 0 ∨ i = 1 := by omega
      rcases this with rfl | rfl
      · exact h.1
      · exact h.2
    · rw [decide_eq_false h]
      cases hr : rng13 n (fun i => if i = 0 then f else t) 2 with
      | false => rfl
      | true =>
        have := rng13_iff.1 hr
        exact absurd ⟨this 0 (by omega), this 1 (by omega)⟩ h
  unfold ckv er13
  rw [hr]
  by_cases hl : lnB W H n = true
  · rw [if_pos hl, if_pos hl]
    by_cases h : (0 ≤ f ∧ f < (n : Int)) ∧ (0 ≤ t ∧ t < (n : Int))
    · rw [decide_eq_true h, if_pos rfl, if_pos rfl]
      exact ⟨fun h => absurd rfl h, fun _ => ⟨lnB_yes.1 hl, h.1, h.2, rfl⟩⟩
    · rw [decide_eq_false h]
      exact ⟨fun _ => rfl, fun h => by simp at h⟩
  · rw [if_neg hl, if_neg hl]
    exact ⟨fun _ => rfl, fun h => by simp at h⟩
/-- Costs come back, or an error. -/
def RetBt (W H : Int) (O : Nat → Bool) (n : Nat) (f t : Int) (w : World) (e : Ending) (w' : World) : Prop :=
  RowKit.Below w.heap.size w w' ∧ ((er13 W H O n f t ≠ 0 ∧ e = .returned (.tuple #[.slice none 0 0, .int .i64 (er13 W H O n f t)])) ∨
    (er13 W H O n f t = 0 ∧ ∃ rg F, e = .returned (.tuple #[.slice (some ⟨rg, 0, none⟩) n n, .int .i64 0]) ∧ w.heap.size ≤ rg ∧ Ir w' rg n F ∧ Lnd W H n ∧ (0 ≤ f ∧ f < (n : Int)) ∧ (0 ≤ t ∧ t < (n : Int)) ∧ 0 ≤ cst W H O t f ∧ Exa W H O n t.toNat f F))
/-- A land that came in. -/
structure Lin (w : World) (A : Option Addr) (n ca : Nat) (O : Nat → Bool) : Prop where
  bo : Bo w A n O
  nc : n ≤ ca
  cm : ca ≤ maxLen
  tb : Tst w
theorem Lin.keep {w w' : World} {A : Option Addr} {n ca : Nat} {O : Nat → Bool} (h : Lin w A n ca O) (hb : RowKit.Below w.heap.size w w') : Lin w' A n ca O := ⟨h.bo.keep hb, h.nc, h.cm, h.tb.keep hb⟩

set_option maxHeartbeats 4000000 in
theorem between13_any (W H : Int) (O : Nat → Bool) (n ca : Nat) (f t : Int) (A : Option Addr) (w : World) (hl : Lin w A n ca O) :
    Calls Tryd.prog 27 #[.agg #[.int .i64 W, .int .i64 H, .slice A n ca], .int .i64 f, .int .i64 t] w (RetBt W H O n f t w) := by
  have K0 := Lib.hid ((Kx.new w 24 #[.int .i64 W, .int .i64 H, .slice A n ca]).alloc (.cells #[.int .i64 f, .int .i64 t] 3))
  have HLI := Lib.hid hl
  have CC := Lib.hid (check13_any W H A n ca 2 (w.heap.size + 1) (fun i => if i = 0 then f else t) ((w.alloc (.cells #[.int .i64 W, .int .i64 H, .slice A n ca] 24)).alloc (.cells #[.int .i64 f, .int .i64 t] 3)) hl.nc hl.cm (by omega) (by
    intro i hi
    have hs : (w.alloc (.cells #[.int .i64 W, .int .i64 H, .slice A n ca] 24)).heap.size = w.heap.size + 1 := size_alloc _ _
    rw [← hs, cell_new _ _ _ _ _ rfl]
    have : i = 0 ∨ i = 1 := by omega
    rcases this with rfl | rfl <;> rfl))
  have HER := Lib.hid (er13_ck (W := W) (H := H) (O := O) (n := n) (f := f) (t := t))
  clear hl
  go_enter Tryd.func27, Tryd.ntmps27
  go_wp2_with fail
  refine CC.out.mono ?_
  rintro e w1 ⟨rfl, b1⟩
  have K1 := Lib.hid (K0.out.keep b1)
  clear b1 K0 CC
  have LI := Lib.hid (HLI.out.keep K1.out.below)
  obtain ⟨er1, er2⟩ := HER.out
  have HE2 := Lib.hid er2
  generalize hck : ckv W H n (fun i => if i = 0 then f else t) 2 = ck at *
  clear hck er2 HER
  by_cases hk0 : ck = 0
  · obtain ⟨L, ⟨f0, f1⟩, ⟨t0, t1⟩, ER⟩ := HE2.out hk0
    subst hk0
    have c0 := K1.out.cell 0 rfl
    have c1 := K1.out.cell 1 rfl
    have c2 := K1.out.cell 2 rfl
    obtain ⟨fN, hfN⟩ : ∃ fN : Nat, f = (fN : Int) := ⟨f.toNat, by omega⟩
    obtain ⟨tN, htN⟩ : ∃ tN : Nat, t = (tN : Int) := ⟨t.toNat, by omega⟩
    subst hfN htN
    have SC := Lib.hid (spread13_any W H O n ca tN (fN : Int) A w1 L LI.out.bo LI.out.tb LI.out.nc LI.out.cm (by omega) (.inr ⟨fN, by omega, rfl⟩))
    have HL := Lib.hid L
    have HER := Lib.hid ER
    have hf : fN < n := by omega
    clear er1 HE2 L ER
    go_wp2_with fail
    refine SC.out.mono ?_
    rintro e w2 ⟨rg, F, rfl, q1, q2, q3, q4⟩
    have e0 := q2.cell hf
    have q3' := q3 fN hf
    have BL := Lib.hid (K1.out.below.trans (q4.mono K1.out.below.size))
    have HQ := Lib.hid (And.intro q1 (And.intro q2 q3))
    have hws := K1.out.below.size
    clear q2 q3 q4 SC c0 c1 c2
    rcases cst_or (W := W) (H := H) (O := O) (tN : Int) (fN : Int) with ⟨hc, _⟩ | ⟨hc, _⟩
    · have hF := q3'.1 hc
      rw [hF] at e0
      have ER6 : Hid (er13 W H O n (fN : Int) (tN : Int) = 6) := by show _ = _; rw [HER.out, if_pos hc]
      clear q3' hc hF
      go_wp2
      go_ret2
      refine ⟨BL.out, .inl ⟨by rw [ER6.out]; decide, ?_⟩⟩
      rw [ER6.out]
      rfl
    · have hF := (q3'.2 hc).2 (.inr (.inr (Int.le_refl _)))
      have hne : (F fN == 1048576) = false := by simp; omega
      have ER0 : Hid (er13 W H O n (fN : Int) (tN : Int) = 0) := by show _ = _; rw [HER.out, if_neg (by omega)]
      have HC := Lib.hid hc
      clear q3' hc hF
      go_wp2
      go_ret2
      refine ⟨BL.out, .inr ⟨ER0.out, rg, F, rfl, by omega, HQ.out.2.1, HL.out, by omega, by omega, HC.out, ?_⟩⟩
      rw [Int.toNat_natCast]
      exact HQ.out.2.2
  · have hk1 : (ck != 0) = true := by simp [hk0]
    have ER := Lib.hid (er1 hk0)
    have HK0 := Lib.hid hk0
    clear er1 HE2 hk0
    go_wp2
    go_ret2
    refine ⟨K1.out.below, .inl ⟨by rw [ER.out]; exact HK0.out, ?_⟩⟩
    rw [ER.out]
    rfl

/-- A cost, or an error. -/
noncomputable def vl13 (W H : Int) (O : Nat → Bool) (n : Nat) (f t : Int) : Int := if er13 W H O n f t = 0 then cst W H O t f else 0
def RetCo (W H : Int) (O : Nat → Bool) (n : Nat) (f t : Int) (w : World) (e : Ending) (w' : World) : Prop :=
  Ret (.tuple #[.int .i64 (vl13 W H O n f t), .int .i64 (er13 W H O n f t)]) w e w' ∧ 0 ≤ vl13 W H O n f t ∧ vl13 W H O n f t ≤ 12285
set_option maxHeartbeats 4000000 in
theorem cost13_any (W H : Int) (O : Nat → Bool) (n ca : Nat) (f t : Int) (A : Option Addr) (w : World) (hl : Lin w A n ca O) :
    Calls Tryd.prog 15 #[.agg #[.int .i64 W, .int .i64 H, .slice A n ca], .int .i64 f, .int .i64 t] w (RetCo W H O n f t w) := by
  unfold RetCo
  have K0 := Lib.hid (Kx.new w 24 #[.int .i64 W, .int .i64 H, .slice A n ca])
  have BC := Lib.hid (between13_any W H O n ca f t A _ (hl.keep K0.out.below))
  obtain ⟨er, her⟩ : ∃ x, er13 W H O n f t = x := ⟨_, rfl⟩
  rw [her]
  obtain ⟨rs, hrs⟩ : ∃ x, vl13 W H O n f t = x := ⟨_, rfl⟩
  rw [hrs]
  unfold vl13 at hrs
  rw [her] at hrs
  have HRS := Lib.hid hrs
  have HER := Lib.hid her
  clear hl hrs her
  go_enter Tryd.func15, Tryd.ntmps15
  go_wp2_with fail
  refine BC.out.mono ?_
  rintro e w1 ⟨b1, hc⟩
  have BL := Lib.hid (K0.out.below.trans (b1.mono K0.out.below.size))
  clear b1 K0 BC
  rw [HER.out] at hc
  rcases hc with ⟨h1, rfl⟩ | ⟨h1, rg, F, rfl, q1, q2, q3, q4, q5, q6, q7⟩
  · have hr := HRS.out
    rw [if_neg h1] at hr
    subst hr
    have hk1 : (er != 0) = true := by simp [h1]
    clear h1 HRS HER
    go_wp2
    go_ret2
    exact ⟨Ret.mk rfl BL.out, by omega, by omega⟩
  · obtain ⟨fN, hfN⟩ : ∃ fN : Nat, f = (fN : Int) := ⟨f.toNat, by omega⟩
    subst hfN
    have e0 := q2.cell (i := fN) (by omega)
    have et : ((t.toNat : Nat) : Int) = t := by omega
    have hF := ((q7 fN (by omega)).2 (by rw [et]; exact q6)).2 (.inr (.inr (Int.le_refl _)))
    rw [et] at hF
    have hr := HRS.out
    rw [if_pos h1, ← hF.1] at hr
    subst hr h1
    have hfI : (fN : Int) < (n : Int) := q4.2
    have hf0 : (0 : Int) ≤ (fN : Int) := q4.1
    have hFb := hF.2
    have hF0 : 0 ≤ F fN := by omega
    clear q1 q2 q3 q4 q5 q6 q7 hF et HRS HER
    go_wp2
    go_ret2
    exact ⟨Ret.mk rfl BL.out, hF0, hFb⟩

/-- All costs come back, or an error. -/
def RetCs (W H : Int) (O : Nat → Bool) (n : Nat) (t : Int) (w : World) (e : Ending) (w' : World) : Prop :=
  RowKit.Below w.heap.size w w' ∧ ((¬ Lnd W H n ∧ e = .returned (.tuple #[.slice none 0 0, .int .i64 1])) ∨ (Lnd W H n ∧ ¬ (0 ≤ t ∧ t < (n : Int)) ∧ e = .returned (.tuple #[.slice none 0 0, .int .i64 4])) ∨
    (Lnd W H n ∧ (0 ≤ t ∧ t < (n : Int)) ∧ ∃ rg, e = .returned (.tuple #[.slice (some ⟨rg, 0, none⟩) n n, .int .i64 0]) ∧ Ir w' rg n (fun k => cst W H O t k)))
set_option maxHeartbeats 4000000 in
theorem costs13_any (W H : Int) (O : Nat → Bool) (n ca : Nat) (t : Int) (A : Option Addr) (w : World) (hl : Lin w A n ca O) :
    Calls Tryd.prog 10 #[.agg #[.int .i64 W, .int .i64 H, .slice A n ca], .int .i64 t] w (RetCs W H O n t w) := by
  have K0 := Lib.hid ((Kx.new w 24 #[.int .i64 W, .int .i64 H, .slice A n ca]).alloc (.cells #[.int .i64 t] 3))
  have HLI := Lib.hid hl
  have CC := Lib.hid (check13_any W H A n ca 1 (w.heap.size + 1) (fun _ => t) ((w.alloc (.cells #[.int .i64 W, .int .i64 H, .slice A n ca] 24)).alloc (.cells #[.int .i64 t] 3)) hl.nc hl.cm (by omega) (by
    intro i hi
    have hs : (w.alloc (.cells #[.int .i64 W, .int .i64 H, .slice A n ca] 24)).heap.size = w.heap.size + 1 := size_alloc _ _
    rw [← hs, cell_new _ _ _ _ _ rfl]
    obtain rfl : i = 0 := by omega
    rfl))
  have HCK : Hid ((¬ Lnd W H n ∧ ckv W H n (fun _ => t) 1 = 1) ∨ (Lnd W H n ∧ ¬ (0 ≤ t ∧ t < (n : Int)) ∧ ckv W H n (fun _ => t) 1 = 4) ∨ (Lnd W H n ∧ (0 ≤ t ∧ t < (n : Int)) ∧ ckv W H n (fun _ => t) 1 = 0)) := by
    show _ ∨ _
    unfold ckv
    by_cases hl : lnB W H n = true
    · rw [if_pos hl]
      by_cases hr : rng13 n (fun _ => t) 1 = true
      · rw [if_pos hr]
        exact .inr (.inr ⟨lnB_yes.1 hl, rng13_iff.1 hr 0 (by omega), rfl⟩)
      · rw [if_neg hr]
        exact .inr (.inl ⟨lnB_yes.1 hl, fun h => hr (rng13_iff.2 fun i _ => h), rfl⟩)
    · rw [if_neg hl]
      exact .inl ⟨fun h => hl (lnB_yes.2 h), rfl⟩
  clear hl
  go_enter Tryd.func10, Tryd.ntmps10
  go_wp2_with fail
  refine CC.out.mono ?_
  rintro e w1 ⟨rfl, b1⟩
  have K1 := Lib.hid (K0.out.keep b1)
  clear b1 K0 CC
  have LI := Lib.hid (HLI.out.keep K1.out.below)
  rcases HCK.out with ⟨h1, h2⟩ | ⟨h1, h2, h3⟩ | ⟨h1, h2, h3⟩
  · have HN := Lib.hid h1
    rw [h2]
    clear h1 h2 HCK
    go_wp2
    go_ret2
    exact ⟨K1.out.below, .inl ⟨HN.out, rfl⟩⟩
  · have HN := Lib.hid (And.intro h1 h2)
    rw [h3]
    clear h1 h2 h3 HCK
    go_wp2
    go_ret2
    exact ⟨K1.out.below, .inr (.inl ⟨HN.out.1, HN.out.2, rfl⟩)⟩
  · rw [h3]
    have HN := Lib.hid (And.intro h1 h2)
    obtain ⟨tN, htN⟩ : ∃ tN : Nat, t = (tN : Int) := ⟨t.toNat, by omega⟩
    subst htN
    have c0 := K1.out.cell 0 rfl
    have c1 := K1.out.cell 1 rfl
    have c2 := K1.out.cell 2 rfl
    have SC := Lib.hid (spread13_any W H O n ca tN (-1) A w1 h1 LI.out.bo LI.out.tb LI.out.nc LI.out.cm (by omega) (.inl rfl))
    clear h1 h2 h3 HCK
    go_wp2_with fail
    refine SC.out.mono ?_
    rintro e w2 ⟨rg, F, rfl, q1, q2, q3, q4⟩
    have BL := Lib.hid (K1.out.below.trans (q4.mono K1.out.below.size))
    have HX := Lib.hid q3
    have HI := Lib.hid q2
    have hws := K1.out.below.size
    have hnb := HN.out.1.bd
    clear q2 q3 q4 SC c0 c1 c2
    go_wp2
    go_loopw [21] (fun s wr => ∃ k : Nat, k ≤ n ∧ s = .int .i64 (k : Int) ∧ Hid (Ir wr rg n (fun i => if i < k then cst W H O (tN : Int) (i : Int) else F i)) ∧ Hid (RowKit.Below w.heap.size w wr)) (fun s _ => n - (intOf s).toNat)
    case atStart => exact ⟨0, by omega, rfl, HI.out.congr (fun i _ => by simp), BL.out⟩
    case round =>
      obtain ⟨k, hk, rfl, hI, hB⟩ := hrel
      by_cases hkn : k < n
      · have hkI : decide ((k : Int) < (n : Int)) = true := decide_eq_true (by omega)
        have hkJ : (k : Int) < (n : Int) := by omega
        have e0 := hI.out.cell hkn
        have e1 := hI.out.frozen k
        have hx := HX.out k hkn
        simp only [Nat.lt_irrefl, if_false] at e0
        rcases cst_or (W := W) (H := H) (O := O) (tN : Int) (k : Int) with ⟨hc, _⟩ | ⟨hc, _⟩
        · have hF := hx.1 hc
          rw [hF] at e0
          have HI2 := Lib.hid ((hI.out.set hkn (-1)).congr (Q := fun i => if i < k + 1 then cst W H O (tN : Int) (i : Int) else F i) (fun i hi => by
            by_cases h : i = k
            · subst h; rw [upd_same]; simp [hc]
            · rw [upd_other _ _ _ h]
              by_cases h2 : i < k
              · simp [h2, Nat.lt_succ_of_lt h2]
              · have : ¬ i < k + 1 := by omega
                simp [h2, this]))
          have G := grown_set wr rg k (.int .i64 (-1))
          have HB2 : Hid (RowKit.Below w.heap.size w (wr.setCell ⟨rg, k, none⟩ (.int .i64 (-1)))) := hB.out.trans (grownBy_below G (fun r e => by injection e with e; omega) hB.out.size)
          clear G hx hc hF
          go_wp2
          go_roundw
          case rel => exact ⟨k + 1, by omega, by go_num, HI2.out, HB2.out⟩
          case measure => simp [intOf]; omega
        · have hF := (hx.2 hc).2 (.inl (by decide))
          have hne : (F k == 1048576) = false := by simp; omega
          have HI2 := Lib.hid (hI.out.congr (Q := fun i => if i < k + 1 then cst W H O (tN : Int) (i : Int) else F i) (fun i hi => by
            by_cases h : i = k
            · subst h; simp [hF.1]
            · by_cases h2 : i < k
              · simp [h2, Nat.lt_succ_of_lt h2]
              · have : ¬ i < k + 1 := by omega
                simp [h2, this]))
          clear hx hc hF
          go_wp2
          go_roundw
          case rel => exact ⟨k + 1, by omega, by go_num, HI2.out, hB.out⟩
          case measure => simp [intOf]; omega
      · have hkI : decide ((k : Int) < (n : Int)) = false := decide_eq_false (by omega)
        obtain rfl : k = n := by omega
        have HI2 := Lib.hid (hI.out.congr (Q := fun i => cst W H O (tN : Int) (i : Int)) (fun i hi => by simp [hi]))
        clear hkn
        go_wp2
        go_ret2
        exact ⟨hB.out, .inr (.inr ⟨HN.out.1, HN.out.2, rg, rfl, HI2.out⟩)⟩

theorem er13_zero {W H : Int} {O : Nat → Bool} {n : Nat} {f t : Int} : er13 W H O n f t = 0 ↔ Lnd W H n ∧ (0 ≤ f ∧ f < (n : Int)) ∧ (0 ≤ t ∧ t < (n : Int)) ∧ 0 ≤ cst W H O t f := by
  unfold er13
  by_cases hl : lnB W H n = true
  · rw [if_pos hl]
    by_cases h : (0 ≤ f ∧ f < (n : Int)) ∧ (0 ≤ t ∧ t < (n : Int))
    · rw [decide_eq_true h, if_pos rfl]
      rcases cst_or (W := W) (H := H) (O := O) t f with ⟨e, _⟩ | ⟨e, _⟩
      · rw [if_pos e]
        exact ⟨fun h => absurd h (by decide), fun h => by omega⟩
      · rw [if_neg (by omega)]
        exact ⟨fun _ => ⟨lnB_yes.1 hl, h.1, h.2, e⟩, fun _ => rfl⟩
    · rw [decide_eq_false h]
      exact ⟨fun e => by simp at e, fun q => absurd ⟨q.2.1, q.2.2.1⟩ h⟩
  · rw [if_neg hl]
    exact ⟨fun h => absurd h (by decide), fun q => absurd (lnB_yes.2 q.1) hl⟩
theorem er13_symm (W H : Int) (O : Nat → Bool) (n : Nat) (f t : Int) : er13 W H O n f t = er13 W H O n t f := by
  unfold er13
  have : decide ((0 ≤ f ∧ f < (n : Int)) ∧ (0 ≤ t ∧ t < (n : Int))) = decide ((0 ≤ t ∧ t < (n : Int)) ∧ (0 ≤ f ∧ f < (n : Int))) := decide_eq_decide.2 And.comm
  rw [this, cst_symm]
theorem vl13_symm (W H : Int) (O : Nat → Bool) (n : Nat) (f t : Int) : vl13 W H O n f t = vl13 W H O n t f := by
  unfold vl13
  rw [er13_symm, cst_symm]
theorem er13_tri {W H : Int} {O : Nat → Bool} {n : Nat} {f m t : Int} (h1 : er13 W H O n f m = 0) (h2 : er13 W H O n m t = 0) : er13 W H O n f t = 0 ∧ vl13 W H O n f t ≤ vl13 W H O n f m + vl13 W H O n m t := by
  obtain ⟨a1, a2, a3, a4⟩ := er13_zero.1 h1
  obtain ⟨b1, b2, b3, b4⟩ := er13_zero.1 h2
  obtain ⟨c1, c2⟩ := cst_tri a4 b4
  have h3 := er13_zero.2 ⟨a1, a2, b3, c1⟩
  refine ⟨h3, ?_⟩
  unfold vl13
  rw [if_pos h1, if_pos h2, if_pos h3]
  exact c2
end Go.Proofs.YtcipedijjemghaaDoor
