/- The law NearMore. -/
import Derived.Test.YtkghjaodnkjmoaaNr21
import Derived.Test.YtkghjaodnkjmoaaStill8
namespace Go.Proofs.Ytkghjaodnkjmoaa
open Go.RowKit Go.Sort Go.Shelf
set_option linter.unusedVariables false

theorem getD_lt {l : List Int} {i : Nat} (h : i < l.length) : l.getD i 0 = l[i] := by simp [List.getD, h]
/-- How many of the first i of a list are among those that a test lets through; and where they stand. -/
theorem among {p : Int → Bool} (bl al : List Int) (h : al = bl.filter p) : ∃ cn : Nat → Nat, cn 0 = 0 ∧ cn bl.length = al.length ∧ (∀ i, cn i ≤ al.length) ∧
    ∀ i, i < bl.length → (cn i < al.length ∧ al.getD (cn i) 0 = bl.getD i 0 ∧ cn (i + 1) = cn i + 1) ∨ ((cn i < al.length → al.getD (cn i) 0 ≠ bl.getD i 0) ∧ cn (i + 1) = cn i) := by
  subst h
  have hsplit : ∀ i, bl.filter p = (bl.take i).filter p ++ (bl.drop i).filter p := fun i => by rw [← List.filter_append, List.take_append_drop]
  refine ⟨fun i => ((bl.take i).filter p).length, by simp, by simp, fun i => ?_, fun i hi => ?_⟩
  · rw [hsplit i, List.length_append]
    exact Nat.le_add_right _ _
  · have ht : bl.take (i + 1) = bl.take i ++ [bl[i]] := by rw [List.take_add_one, List.getElem?_eq_getElem hi]; rfl
    have hd : bl.drop i = bl[i] :: bl.drop (i + 1) := List.drop_eq_getElem_cons hi
    have hg : bl.getD i 0 = bl[i] := by simp [List.getD, hi]
    dsimp only
    rw [hg, ht, List.filter_append, List.length_append]
    cases hp : p bl[i]
    · right
      refine ⟨fun hlt e => ?_, by simp [hp]⟩
      have hm : (bl.filter p).getD ((bl.take i).filter p).length 0 ∈ bl.filter p := by
        rw [getD_lt hlt]
        exact List.getElem_mem hlt
      rw [e] at hm
      have := (List.mem_filter.1 hm).2
      rw [hp] at this
      cases this
    · left
      have e : bl.filter p = (bl.take i).filter p ++ bl[i] :: (bl.drop (i + 1)).filter p := by
        rw [hsplit i, hd, List.filter_cons_of_pos hp]
      refine ⟨by rw [e]; simp, ?_, by simp [hp]⟩
      rw [List.getD_eq_getElem?_getD, e, List.getElem?_append_right (Nat.le_refl _), Nat.sub_self]
      rfl
section
variable (X Y : Nat → Int)
theorem wins_filter (n : Nat) (x y : Int) {r r' : Int} (hr : 0 ≤ r) (h : r ≤ r') : wins X Y n x y r = (wins X Y n x y r').filter fun z => okd X Y x y r z.toNat := by
  unfold wins win
  rw [List.filter_map, List.filter_filter]
  congr 1
  apply List.filter_congr
  intro i _
  have h2 : r * r ≤ r' * r' := Int.mul_le_mul h h hr (by omega)
  simp only [Function.comp_apply, Int.toNat_natCast, okd]
  by_cases hd : dst X Y x y i ≤ r * r
  · simp [hd, Int.le_trans hd h2]
  · simp [hd]
theorem near_in {n m : Nat} {x y r : Int} (hM : Mn X Y x y (List.range n) m) (h0 : 0 < (wins X Y n x y r).length) : ∃ j, j < (wins X Y n x y r).length ∧ (wins X Y n x y r).getD j 0 = (m : Int) := by
  have hm : m < n := by simpa using hM.1
  have hmem : (m : Int) ∈ wins X Y n x y r := by
    obtain ⟨z, hz⟩ : ∃ z, z ∈ wins X Y n x y r := ⟨_, List.getElem_mem h0⟩
    unfold wins at hz ⊢
    obtain ⟨e, he, _⟩ := List.mem_map.1 hz
    obtain ⟨he1, he2⟩ := win_mem.1 he
    refine List.mem_map.2 ⟨m, win_mem.2 ⟨hm, ?_⟩, rfl⟩
    rcases hM.2 e (by simpa using he1) with h | h
    · rw [← h]; exact he2
    · unfold nlt at h; omega
  obtain ⟨j, hj, e⟩ := List.getElem_of_mem hmem
  exact ⟨j, hj, by rw [getD_lt hj]; exact e⟩
theorem wins_first {n : Nat} (h : 0 < n) : 0 < (wins X Y n (X 0) (Y 0) 0).length ∧ (wins X Y n (X 0) (Y 0) 0).getD 0 0 = 0 := by
  obtain ⟨k, rfl⟩ : ∃ k, n = k + 1 := ⟨n - 1, by omega⟩
  have ho : okd X Y (X 0) (Y 0) 0 0 = true := by simp [okd, dst]
  unfold wins win
  rw [List.range_succ_eq_map, List.filter_cons_of_pos ho]
  exact ⟨by simp, rfl⟩
set_option maxRecDepth 100000 in
set_option maxHeartbeats 16000000 in
theorem walk_NearMore (A : Option Addr) (n c : Nat) (x y r : Int) (w : World) (hP : Ps X Y w A n) (hnc : n ≤ c) (hcm : c ≤ maxLen) (hA : A = none → c = 0) :
    Calls Try.prog 6 #[.agg #[.slice A n c, .int .i64 x, .int .i64 y, .int .i64 r]] w (Ret (.bool true) w) := by
  have K := Lib.hid (Kx.new w 24 #[.slice A n c, .int .i64 x, .int .i64 y, .int .i64 r])
  have F1 := Lib.hid (calls_re (V := w.alloc (.cells #[.slice A n c, .int .i64 x, .int .i64 y, .int .i64 r] 24)) (fun u => few_any A n c u hnc hcm))
  have HP := Lib.hid (hP.take X Y (cut_le 258 n).1)
  have hN := (cut_le 258 n).2
  clear hP hA hnc hcm
  generalize cut 258 n = N at *
  go_enter Try.func6, Try.ntmps6
  go_wp2
  have z0 := cell_regrown (K.out.cell 0 (v := .slice A n c) rfl)
  have z1 := cell_regrown (K.out.cell 1 (v := .int .i64 x) rfl)
  have z2 := cell_regrown (K.out.cell 2 (v := .int .i64 y) rfl)
  have z3 := cell_regrown (K.out.cell 3 (v := .int .i64 r) rfl)
  generalize w.alloc (.cells #[.slice A n c, .int .i64 x, .int .i64 y, .int .i64 r] 24) = w1 at *
  refine wp_region_quiet_below (by kernel_rfl) (by kernel_rfl) ?_
  repeat (go_big_quiet_step (with_reducible exact F1.out _ _))
  refine wpQuiet_nil ?_
  intro _ hw'
  obtain ⟨⟨dq, osq⟩, hw''⟩ := hw'
  subst hw''
  have K2 := Lib.hid (K.out.keep (below_regrown w1 dq osq))
  clear K F1 z0 z1 z2 z3
  generalize grow (redrawn w1 dq) osq = w2 at *
  have NW := Lib.hid (new_any X Y A N c w2 hN (HP.out.keep X Y K2.out.below))
  go_wp2_with fail
  refine NW.out.mono ?_
  rintro e w3 ⟨b3, ⟨hm, p, rfl, hI⟩ | ⟨hm, rfl⟩⟩
  case inr =>
    have K3 := Lib.hid (K2.out.keep b3)
    clear b3 NW K2 hm
    go_wp2_with fail
    refine (awake_any w3).mono ?_
    rintro e w4 ⟨rfl, b4⟩
    have K4 := Lib.hid (K3.out.keep b4)
    clear b4 K3
    go_wp2
    go_ret
    exact Ret.mk rfl K4.out.below
  have HM := Lib.hid ((may_iff X Y).1 hm)
  have K3 := Lib.hid (K2.out.keep b3)
  have HI : Hid (Ix X Y w3 p N) := hI w3 (Nat.le_refl _) (fun _ _ _ => rfl)
  have HP3 := Lib.hid (HP.out.keep X Y K3.out.below)
  clear b3 NW K2 hm hI HP
  have WN := Lib.hid (withinM_any X Y p N x y r w3 HI.out HM.out.2 HM.out.1)
  go_wp2_with fail
  refine WN.out.mono ?_
  rintro e w4 ⟨b4, ⟨hno, rfl⟩ | ⟨hs, A4, k4, rfl, q1, q2, q3⟩⟩
  · have K4 := Lib.hid (K3.out.keep b4)
    clear b4 WN K3 HI HP3 hno
    go_wp2_with fail
    refine (awake_any w4).mono ?_
    rintro e w9 ⟨rfl, b9⟩
    have K9 := Lib.hid (K4.out.keep b9)
    clear b9 K4
    go_wp2
    go_ret
    exact Ret.mk rfl K9.out.below
  have HS := Lib.hid hs
  obtain ⟨r0, r1⟩ := sp_iff.1 hs.2.2
  have K4 := Lib.hid (K3.out.keep b4)
  have HI4 := Lib.hid (HI.out.keep X Y b4)
  have HP4 := Lib.hid (HP3.out.keep X Y b4)
  rw [wins_wsel] at q1 q3 ⊢
  have HA4 := Lib.hid q3
  clear b4 WN K3 HI HP3 q1 q2 q3 hs
  go_wp2_with fail
  obtain ⟨r', hr'⟩ : ∃ z, r + (67108864 - r) / 2 = z := ⟨_, rfl⟩
  rw [hr']
  have r2 : r ≤ r' ∧ r' ≤ 67108864 := by omega
  have hsr : sp r' = true := sp_iff.2 ⟨by omega, r2.2⟩
  have WB := Lib.hid (withinM_any X Y p N x y r' w4 HI4.out HM.out.2 HM.out.1)
  refine WB.out.mono ?_
  rintro e w5 ⟨b5, ⟨hno, _⟩ | ⟨_, A5, k5, rfl, q1, q2, q3⟩⟩
  case inl => exact absurd ⟨HS.out.1, HS.out.2.1, hsr⟩ hno
  have K5 := Lib.hid (K4.out.keep b5)
  have HI5 := Lib.hid (HI4.out.keep X Y b5)
  have HP5 := Lib.hid (HP4.out.keep X Y b5)
  have HA5 := Lib.hid (HA4.out.keep b5)
  rw [wins_wsel] at q1 q3 ⊢
  have HB5 := Lib.hid q3
  have hf := wins_filter X Y N x y r0 r2.1
  have hLm : (wins X Y N x y r').length ≤ 258 := Nat.le_trans (wins_len X Y N x y r') hN
  have hab : (wins X Y N x y r).length ≤ (wins X Y N x y r').length := by
    rw [hf]
    exact List.length_filter_le _ _
  obtain ⟨cn, hc0, hcn, hcl, hcs⟩ := among _ _ hf
  have HNr := Lib.hid (fun m (h : Mn X Y x y (List.range N) m) => near_in X Y (r := r) h)
  have HC := Lib.hid hcs
  have HCl := Lib.hid hcl
  have HCn := Lib.hid hcn
  have HN0 : Hid (N = 0 → (wins X Y N x y r).length = 0) := by
    intro h
    have := wins_len X Y N x y r
    omega
  clear b5 WB K4 HI4 HP4 HA4 q1 q2 q3 hf hcs hcl hcn hr' hsr r2
  generalize wins X Y N x y r = al at *
  generalize wins X Y N x y r' = bl at *
  obtain ⟨pa, hpa⟩ : ∃ pa : Nat → Int, (fun i => al.getD i 0) = pa := ⟨_, rfl⟩
  obtain ⟨pb, hpb⟩ : ∃ pb : Nat → Int, (fun i => bl.getD i 0) = pb := ⟨_, rfl⟩
  have ea : ∀ i, al.getD i 0 = pa i := fun i => by rw [← hpa]
  have eb : ∀ i, bl.getD i 0 = pb i := fun i => by rw [← hpb]
  rw [hpa] at HA5
  rw [hpb] at HB5
  simp only [ea, eb] at HC HNr
  clear ea eb hpa hpb
  generalize al.length = La at *
  generalize bl.length = Lb at *
  have hab' : ¬ (Lb : Int) < (La : Int) := by omega
  go_wp2
  clear hab'
  go_loopw [13, 14] (fun s13 s14 wr => ∃ i : Nat, i ≤ Lb ∧ s14 = .int .i64 (i : Int) ∧ s13 = .int .i64 ((cn i : Nat) : Int) ∧ Hid (Below w.heap.size w wr ∧ Below w5.heap.size w5 wr)) (fun _ s14 _ => Lb - (intOf s14).toNat)
  case atStart => exact ⟨0, by omega, rfl, by rw [hc0]; rfl, K5.out.below, Below.refl _ _⟩
  case round =>
    obtain ⟨i, hi, rfl, rfl, hB⟩ := hrel
    have hc1 := HCl.out i
    by_cases hiL : i < Lb
    · have hiI : (i : Int) < (Lb : Int) := by omega
      obtain ⟨g, o, rfl, c0⟩ := HB5.out.at hB.out.2 hiL
      have z0 := cell_regrown c0
      clear c0
      have hcase := HC.out i hiL
      have hLa : La ≤ 258 := by omega
      generalize hq : cn i = q at *
      generalize hq' : cn (i + 1) = q' at *
      have HQ' := Lib.hid hq'
      clear hq hq'
      generalize pb i = v at *
      rcases hcase with ⟨h1, h2, h3⟩ | ⟨h2, h3⟩
      · obtain ⟨g2, o2, rfl, c1⟩ := HA5.out.at hB.out.2 h1
        rw [h2] at c1
        have z1 := cell_regrown c1
        have hd : decide ((q : Int) < (La : Int)) = true := by simp; omega
        clear c1 h2
        go_wp2
        refine wp_region_quiet_below (by kernel_rfl) (by kernel_rfl) ?_
        repeat (go_big_quiet_step (fail))
        refine wpQuiet_nil ?_
        intro _ hw'
        obtain ⟨⟨dq, osq⟩, hw''⟩ := hw'
        subst hw''
        have B2 : Hid (Below w.heap.size w (grow (redrawn wr dq) osq) ∧ Below w5.heap.size w5 (grow (redrawn wr dq) osq)) := ⟨hB.out.1.trans ((below_regrown wr dq osq).mono hB.out.1.size), hB.out.2.trans ((below_regrown wr dq osq).mono hB.out.2.size)⟩
        clear hB z0 z1
        generalize grow (redrawn wr dq) osq = w6 at *
        go_wp2
        go_roundw
        case rel => exact ⟨i + 1, by omega, by go_num, by rw [HQ'.out, h3]; go_num, B2⟩
        case measure => simp [intOf]; omega
      · by_cases h1 : q < La
        · obtain ⟨g2, o2, rfl, c1⟩ := HA5.out.at hB.out.2 h1
          have z1 := cell_regrown c1
          have hd : decide ((q : Int) < (La : Int)) = true := by simp; omega
          have hne := h2 h1
          generalize pa q = u at *
          have hd2 : decide (u = v) = false := by simp [hne]
          clear c1 h2
          go_wp2
          refine wp_region_quiet_below (by kernel_rfl) (by kernel_rfl) ?_
          repeat (go_big_quiet_step (fail))
          refine wpQuiet_nil ?_
          intro _ hw'
          obtain ⟨⟨dq, osq⟩, hw''⟩ := hw'
          subst hw''
          have B2 : Hid (Below w.heap.size w (grow (redrawn wr dq) osq) ∧ Below w5.heap.size w5 (grow (redrawn wr dq) osq)) := ⟨hB.out.1.trans ((below_regrown wr dq osq).mono hB.out.1.size), hB.out.2.trans ((below_regrown wr dq osq).mono hB.out.2.size)⟩
          clear hB z0 z1
          generalize grow (redrawn wr dq) osq = w6 at *
          go_wp2
          go_roundw
          case rel => exact ⟨i + 1, by omega, by go_num, by rw [HQ'.out, h3], B2⟩
          case measure => simp [intOf]; omega
        · have hd : decide ((q : Int) < (La : Int)) = false := by simp; omega
          clear h2
          go_wp2
          refine wp_region_quiet_below (by kernel_rfl) (by kernel_rfl) ?_
          repeat (go_big_quiet_step (fail))
          refine wpQuiet_nil ?_
          intro _ hw'
          obtain ⟨⟨dq, osq⟩, hw''⟩ := hw'
          subst hw''
          have B2 : Hid (Below w.heap.size w (grow (redrawn wr dq) osq) ∧ Below w5.heap.size w5 (grow (redrawn wr dq) osq)) := ⟨hB.out.1.trans ((below_regrown wr dq osq).mono hB.out.1.size), hB.out.2.trans ((below_regrown wr dq osq).mono hB.out.2.size)⟩
          clear hB z0
          generalize grow (redrawn wr dq) osq = w6 at *
          go_wp2
          go_roundw
          case rel => exact ⟨i + 1, by omega, by go_num, by rw [HQ'.out, h3], B2⟩
          case measure => simp [intOf]; omega
    · obtain rfl : i = Lb := by omega
      have hiI : ¬ (i : Int) < (i : Int) := by omega
      rw [HCn.out]
      have NN := Lib.hid (nearestM_any X Y p N x y wr (HI5.out.keep X Y hB.out.2) HM.out.2 HM.out.1)
      go_wp2_with fail
      refine NN.out.mono ?_
      rintro e w6 ⟨b6, hcase⟩
      obtain ⟨mv, hv, rfl, HF, HH⟩ : ∃ mv hv : Int, e = .returned (.tuple #[.int .i64 mv, .int .i64 hv]) ∧ Hid (0 < La → ∃ j, j < La ∧ pa j = mv) ∧ Hid ((hv = 0 ∧ 0 < N) ∨ (hv = 6 ∧ N = 0)) := by
        rcases hcase with ⟨hno, _⟩ | ⟨_, h0, rfl⟩ | ⟨_, m, hm, rfl⟩
        · exact absurd ⟨HS.out.1, HS.out.2.1⟩ hno
        · exact ⟨0, 6, rfl, fun h => by have := HN0.out h0; omega, .inr ⟨rfl, h0⟩⟩
        · exact ⟨m, 0, rfl, fun h => HNr.out m hm h, .inl ⟨rfl, Nat.lt_of_le_of_lt (Nat.zero_le m) (by simpa using hm.1)⟩⟩
      have B6 : Hid (Below w.heap.size w w6 ∧ Below w5.heap.size w5 w6) := ⟨hB.out.1.trans (b6.mono hB.out.1.size), hB.out.2.trans (b6.mono hB.out.2.size)⟩
      have hLa : La ≤ 258 := by omega
      clear b6 hcase NN hB HC HCl HCn HN0 HNr HB5 hc1
      go_wp2
      go_loopw [17, 18] (fun s17 s18 wq => ∃ (j : Nat) (f : Bool), j ≤ La ∧ s18 = .int .i64 (j : Int) ∧ s17 = .bool f ∧ Hid (f = true ↔ (La = 0 ∨ ∃ k, k < j ∧ pa k = mv)) ∧ Hid (Below w.heap.size w wq ∧ Below w5.heap.size w5 wq)) (fun _ s18 _ => La - (intOf s18).toNat)
      case atStart => exact ⟨0, _, by omega, rfl, rfl, by show _ ↔ _; simp, B6⟩
      case round =>
        obtain ⟨j, f, hj, rfl, rfl, hf, hB⟩ := hrel
        by_cases hjL : j < La
        · have hjI : (j : Int) < (La : Int) := by omega
          obtain ⟨g, o, rfl, c0⟩ := HA5.out.at hB.out.2 hjL
          generalize hu : pa j = u at *
          have HU := Lib.hid hu
          clear hu
          cases f
          · by_cases he : u = mv
            · have HF2 : Hid (true = true ↔ (La = 0 ∨ ∃ k, k < j + 1 ∧ pa k = mv)) := ⟨fun _ => .inr ⟨j, by omega, by rw [HU.out]; exact he⟩, fun _ => rfl⟩
              have HBq : Hid ((u == mv) = true) := by show _ = _; simp [he]
              clear he hf
              go_wp2
              go_roundw
              case rel => exact ⟨j + 1, true, by omega, by go_num, by rw [HBq.out], HF2, hB⟩
              case measure => simp [intOf]; omega
            · have HF2 : Hid (false = true ↔ (La = 0 ∨ ∃ k, k < j + 1 ∧ pa k = mv)) := by
                refine ⟨fun h => (by cases h), fun h => ?_⟩
                apply hf.out.2
                rcases h with h | ⟨k, hk, e⟩
                · exact .inl h
                · refine .inr ⟨k, ?_, e⟩
                  rcases Nat.lt_or_ge k j with h2 | h2
                  · exact h2
                  · obtain rfl : k = j := by omega
                    rw [HU.out] at e
                    exact absurd e he
              have HBq : Hid ((u == mv) = false) := by show _ = _; simp [he]
              clear he hf
              go_wp2
              go_roundw
              case rel => exact ⟨j + 1, false, by omega, by go_num, by rw [HBq.out], HF2, hB⟩
              case measure => simp [intOf]; omega
          · have HF2 : Hid (true = true ↔ (La = 0 ∨ ∃ k, k < j + 1 ∧ pa k = mv)) := by
              refine ⟨fun _ => ?_, fun _ => rfl⟩
              rcases hf.out.1 rfl with h | ⟨k, hk, e⟩
              · exact .inl h
              · exact .inr ⟨k, by omega, e⟩
            clear hf
            go_wp2
            go_roundw
            case rel => exact ⟨j + 1, true, by omega, by go_num, rfl, HF2, hB⟩
            case measure => simp [intOf]; omega
        · obtain rfl : j = La := by omega
          have hjI : ¬ (j : Int) < (j : Int) := by omega
          have hft : f = true := by
            apply hf.out.2
            by_cases h0 : j = 0
            · exact .inl h0
            · exact .inr (HF.out (by omega))
          subst hft
          clear hf HF HA5
          rcases HH.out with ⟨rfl, hN0⟩ | ⟨rfl, hN0⟩
          · have hNI : (0 : Int) < (N : Int) := by omega
            obtain ⟨g, o, rfl, c0, c1⟩ := HP5.out.at X Y hB.out.2 hN0
            simp only [Nat.zero_mul, Nat.add_zero] at c0 c1
            obtain ⟨hw1, hw2⟩ := wins_first X Y hN0
            go_wp2
            refine wp_region_any (by kernel_rfl) ?_
            change wpAny _ _ _ _ _ _ _ (World.drew _)
            have B7 : Hid (Below w.heap.size w wr.drew ∧ Below w5.heap.size w5 wr.drew) := ⟨hB.out.1.drew, hB.out.2.drew⟩
            have d0 : wr.drew.cell? ⟨g, o, none⟩ = some (.int .i64 (X 0)) := c0
            have d1 : wr.drew.cell? ⟨g, o + 1, none⟩ = some (.int .i64 (Y 0)) := c1
            clear hB c0 c1
            generalize wr.drew = w7 at *
            have ho := HM.out.2 0 hN0
            have WC := Lib.hid (withinM_any X Y p N (X 0) (Y 0) 0 w7 (HI5.out.keep X Y B7.out.2) HM.out.2 HM.out.1)
            have HO := Lib.hid ho
            have HW := Lib.hid (wins_wsel X Y N (X 0) (Y 0) 0)
            clear ho
            generalize hx0 : X 0 = x0 at *
            generalize hy0 : Y 0 = y0 at *
            clear hx0 hy0
            refine wpAny_headL 0 9 6 #[true, true, true, true, true, true, true, true, true, false, false, false, false, false, false] (by kernel_rfl) (by kernel_rfl) (by kernel_rfl) (by kernel_rfl) ?_
            simp only [List.take_succ_cons, List.take_zero, List.drop_zero]
            repeat still_step
            refine wpStill_nil ?_
            refine wpAny_ready (rs := [9]) (by kernel_rfl) (by simp) ?_
            refine AllReady.cons rfl (fun K hK => ?_) AllReady.nil
            go_simp
            refine WC.out.mono ?_
            rintro e w8 ⟨b8, ⟨hno, _⟩ | ⟨_, A8, k8, rfl, -, -, q8⟩⟩
            case inl => exact absurd ⟨HO.out.1, HO.out.2, sp0⟩ hno
            rw [HW.out] at q8 ⊢
            have B8 : Hid (Below w.heap.size w w8) := B7.out.1.trans (b8.mono B7.out.1.size)
            obtain ⟨g8, o8, rfl, c8⟩ := q8.at (Below.refl _ _) hw1
            rw [hw2, Nat.add_zero] at c8
            clear b8 B7 WC q8 d0 d1
            generalize (wins X Y N x0 y0 0).length = L8 at *
            have hL8 : ¬ (L8 : Int) < 1 := by omega
            have hL9 : (0 : Int) < (L8 : Int) := by omega
            refine hK _ _ ?_
            clear hK K
            go_simp
            refine wpAny_take (i := 10) (v := .tuple #[.slice (some ⟨g8, o8, none⟩) L8 k8, .int .i64 0]) rfl (by kernel_rfl) (by kernel_rfl) (by kernel_rfl) (fun _ _ _ h => h) (Or.inl ⟨by rfl, fun w => by go_simp⟩) ?_
            go_simp
            refine wpAny_take (i := 11) (v := .slice (some ⟨g8, o8, none⟩) L8 k8) rfl (by kernel_rfl) (by kernel_rfl) (by kernel_rfl) (fun _ _ _ h => h) (Or.inl ⟨by rfl, fun w => by go_simp⟩) ?_
            go_simp
            refine wpAny_take (i := 12) (v := .int .i64 0) rfl (by kernel_rfl) (by kernel_rfl) (by kernel_rfl) (fun _ _ _ h => h) (Or.inl ⟨by rfl, fun w => by go_simp⟩) ?_
            go_simp
            refine wpAny_take (i := 13) (v := .slice (some ⟨g8, o8, none⟩) L8 k8) rfl (by kernel_rfl) (by kernel_rfl) (by kernel_rfl) (fun _ _ _ h => h) (Or.inl ⟨by rfl, fun w => by go_simp⟩) ?_
            go_simp
            refine wpAny_take (i := 14) (v := .int .i64 0) rfl (by kernel_rfl) (by kernel_rfl) (by kernel_rfl) (fun _ _ _ h => h) (Or.inl ⟨by rfl, fun w => by go_simp⟩) ?_
            go_simp
            refine wpAny_done (by kernel_rfl) ?_ _
            go_wp2_with fail
            refine (awake_any w8).mono ?_
            rintro e w9 ⟨rfl, b9⟩
            have K9 : Hid (Below w.heap.size w w9) := B8.out.trans (b9.mono B8.out.size)
            clear b9
            go_wp2
            go_ret
            exact Ret.mk rfl K9.out
          · have hNI : ¬ (0 : Int) < (N : Int) := by omega
            go_wp2_with fail
            refine (awake_any wr).mono ?_
            rintro e w9 ⟨rfl, b9⟩
            have K9 : Hid (Below w.heap.size w w9) := hB.out.1.trans (b9.mono hB.out.1.size)
            clear b9
            go_wp2
            go_ret
            exact Ret.mk rfl K9.out
end
end Go.Proofs.Ytkghjaodnkjmoaa
