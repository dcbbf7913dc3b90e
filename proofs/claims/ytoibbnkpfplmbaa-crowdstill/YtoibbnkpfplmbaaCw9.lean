/- Contracts: the reference's Settle and Held. -/
import Derived.Test.YtoibbnkpfplmbaaCw8
namespace Go.Proofs.Ytoibbnkpfplmbaa
open Go.RowKit Go.Sort Go.Lib
set_option linter.unusedVariables false
set_option linter.unusedSimpArgs false
attribute [local go_sem] Oper.semAt_some

/-- The reference's two rows. -/
structure Rf (w0 : World) (A gA : Option Addr) (n : Nat) (s : St) (X : World) : Prop where
  wh : Iw X w0.heap.size A n s.P
  mv : Bw X w0.heap.size gA n s.G
  below : Below w0.heap.size w0 X
theorem Rf.keep {w0 X Y : World} {A gA : Option Addr} {n : Nat} {s : St} (h : Rf w0 A gA n s X) (hb : RowKit.Below X.heap.size X Y) : Rf w0 A gA n s Y := ⟨h.wh.keep hb, h.mv.keep hb, h.below.trans (hb.mono h.below.size)⟩
theorem Rf.setP {w0 X : World} {A gA : Option Addr} {n : Nat} {s : St} (h : Rf w0 A gA n s X) {i : Nat} (hi : i < n) :
    ∃ wg, A = some ⟨wg, 0, none⟩ ∧ X.cell? ⟨wg, i, none⟩ = some (.int .i64 (s.P i)) ∧ X.frozen? ⟨wg, i, none⟩ = false ∧ ∀ v, Rf w0 A gA n ⟨cwU s.P i v, s.G⟩ (X.setCell ⟨wg, i, none⟩ (.int .i64 v)) := by
  obtain ⟨wg, e, hB, hlt, hc, hf, ⟨cs, hcs⟩, hs⟩ := h.wh.at hi
  refine ⟨wg, e, hc i hi, hf i, fun v => ⟨hs v, h.mv.block fun g cs' hc' => setCell_blk_other (other_blk hc' hcs (by simp)), ?_⟩⟩
  exact h.below.setCell hB _
theorem Rf.setG {w0 X : World} {A gA : Option Addr} {n : Nat} {s : St} (h : Rf w0 A gA n s X) {i : Nat} (hi : i < n) :
    ∃ gg, gA = some ⟨gg, 0, none⟩ ∧ X.cell? ⟨gg, i, none⟩ = some (.bool (s.G i)) ∧ X.frozen? ⟨gg, i, none⟩ = false ∧ ∀ v, Rf w0 A gA n ⟨s.P, cwU s.G i v⟩ (X.setCell ⟨gg, i, none⟩ (.bool v)) := by
  obtain ⟨wg, e, hB, hlt, hc, hf, ⟨cs, hcs⟩, hs⟩ := h.mv.at hi
  refine ⟨wg, e, hc i hi, hf i, fun v => ⟨h.wh.block fun g cs' hc' => setCell_blk_other (other_blk hc' hcs (by simp)), hs v, ?_⟩⟩
  exact h.below.setCell hB _

set_option maxHeartbeats 2000000 in
theorem refSettle15_any (no oc n wc ic : Nat) (oA wA iA : Option Addr) (O : Nat → Bool) (P Wi : Nat → Int) (w : World) (hO : Bo w oA no O) (hP : Is w wA n P) (hA : wA = none → wc = 0) (hW : Is w iA n Wi) (hk : Okc no no n n P Wi) :
    Calls Try.prog 13 #[.slice oA no oc, .slice wA n wc, .slice iA n ic] w fun e w' => ∃ A k gA gc, e = .returned (.tuple #[.slice A n k, .slice gA n gc]) ∧ Rf w A gA n (finS n O Wi (s0S P)) w' ∧ n ≤ k ∧ k ≤ maxLen ∧ n ≤ gc ∧ gc ≤ maxLen := by
  have hfew := hk.few
  have hcl := hk.hi
  have INV := Lib.hid (inv_s0 (n := n) (O := O) (Wi := Wi) hk.apt)
  have HI := Lib.hid hP
  have HO := Lib.hid hO
  have HW := Lib.hid hW
  have HRW := Lib.hid hk.rw
  have HB0 := Lib.hid (newBox (w := w) (.cells #[] 3))
  have HN := Lib.hid (World.alloc_heap_new w (.cells #[] 3))
  have HA := Lib.hid hA
  have hmk := run_make_row' (P := Try.prog) 22 4 (.bool false) 1 Try.underlying22 Try.infoB15 rfl .i64 .i64 n (by omega) (by omega)
  clear hO hP hA hW hk
  go_enter Try.func13, Try.ntmps13
  go_wp2_with (at_builtin; refine append_ints rfl (.tmp 12) (.tmp 13) rfl w.heap.size w.heap.size n wc P wA _ rfl (Nat.le_refl _) HN.out rfl (HI.out.keep HB0.out) HA.out (by omega) (by simp) ?_; intro v' w1 hown' hb')
  obtain ⟨A', K, ev, hK1, hK2, hIw, hK3⟩ := hown'.iwf
  subst ev
  have R0 : Hid (Rf w A' (some ⟨w1.heap.size, 0, none⟩) n (s0S P) (w1.alloc (.cells (madeCells #[.bool false] n) 4))) := by
    have b1 : Below w.heap.size w w1 := HB0.out.trans hb'
    exact ⟨hIw.keep (newBox _), (Bw.made w1 n).mono b1.size, b1.trans ((newBox _).mono b1.size)⟩
  clear hIw hown' hb' HN HI HA hK3
  have HK := Lib.hid (And.intro hK1 hK2)
  clear hK1 hK2 hmk HB0
  generalize w1.heap.size = gg at *
  generalize w1.alloc (.cells (madeCells #[.bool false] n) 4) = w2 at *
  have SP := Lib.hid (fun (X : World) (t : St) (i : Nat) (h : Rf w A' (some ⟨gg, 0, none⟩) n t X) (hi : i < n) => h.setP hi)
  have SG : Hid (∀ (X : World) (t : St) (i : Nat) (h : Rf w A' (some ⟨gg, 0, none⟩) n t X) (hi : i < n), X.cell? ⟨gg, i, none⟩ = some (.bool (t.G i)) ∧ X.frozen? ⟨gg, i, none⟩ = false ∧ ∀ v, Rf w A' (some ⟨gg, 0, none⟩) n ⟨t.P, cwU t.G i v⟩ (X.setCell ⟨gg, i, none⟩ (.bool v))) := by
    intro X t i h hi
    obtain ⟨g', e, q1, q2, q3⟩ := h.setG hi
    injection e with e
    injection e with e
    subst e
    exact ⟨q1, q2, q3⟩
  have E2 : Hid (∀ t k, rkS n O Wi t (k + 1) = stpS n O Wi (rkS n O Wi t k) k) := fun t k => rfl
  have E3 : Hid (∀ (t : St) (k : Nat), canS n O Wi t.P k = false → stpS n O Wi t k = t) := fun t k hc => by unfold stpS; rw [hc]; rfl
  have E4 : Hid (∀ (t : St) (k : Nat), canS n O Wi t.P k = true → stpS n O Wi t k = ⟨cwU t.P k (Wi k), cwU t.G k true⟩) := fun t k hc => by unfold stpS; rw [hc]; rfl
  go_loopw [10] (fun s10 wr => ∃ r : Nat, r ≤ n + 1 ∧ s10 = .int .i64 (r : Int) ∧ Hid (Rf w A' (some ⟨gg, 0, none⟩) n (rrS n O Wi (s0S P) r) wr)) (fun s10 _ => n + 1 - (intOf s10).toNat)
  case atStart => exact ⟨0, by omega, rfl, R0.out⟩
  case round =>
    obtain ⟨r, hr, rfl, hR⟩ := hrel
    by_cases hrn : r ≤ n
    · have hrI : (r : Int) ≤ (n : Int) := by omega
      have hrB : decide ((r : Int) ≤ (n : Int)) = true := decide_eq_true hrI
      have INr := Lib.hid (INV.out.rr (n := n) (O := O) (Wi := Wi) r)
      have ER : Hid (rrS n O Wi (s0S P) (r + 1) = rkS n O Wi (rrS n O Wi (s0S P) r) n) := rfl
      obtain ⟨s, hs⟩ : ∃ s, s = rrS n O Wi (s0S P) r := ⟨_, rfl⟩
      rw [← hs] at hR INr ER
      clear hs
      go_wp2_with fail
      go_loopw [11] (fun s11 wk => ∃ k : Nat, k ≤ n ∧ s11 = .int .i64 (k : Int) ∧ Hid (Rf w A' (some ⟨gg, 0, none⟩) n (rkS n O Wi s k) wk)) (fun s11 _ => n - (intOf s11).toNat)
      case atStart => exact ⟨0, by omega, rfl, hR.out⟩
      case round =>
        obtain ⟨k, hk, rfl, hk9⟩ := hrel
        by_cases hkn : k < n
        · have hkI : (k : Int) < (n : Int) := by omega
          have hkB : decide ((k : Int) < (n : Int)) = true := decide_eq_true hkI
          have INk := Lib.hid (INr.out.rk (n := n) k hk)
          have EK := Lib.hid (E2.out s k)
          obtain ⟨t, ht⟩ : ∃ t, t = rkS n O Wi s k := ⟨_, rfl⟩
          rw [← ht] at hk9 INk EK
          clear ht
          obtain ⟨wg, ewA, p0, pf, -⟩ := SP.out wr t k hk9.out hkn
          obtain ⟨g0, gf, -⟩ := SG.out wr t k hk9.out hkn
          obtain ⟨ig, io, eiA, q0⟩ := HW.out.at hk9.out.below hkn
          subst ewA eiA
          have hlo2 := HRW.out k hkn
          have HCI := Lib.hid (canS_iff (n := n) (O := O) (Wi := Wi) (P := t.P) (i := k))
          have ENO : canS n O Wi t.P k = false → Hid (rkS n O Wi s (k + 1) = t) := fun hc => by show _ = _; rw [EK.out, E3.out t k hc]
          by_cases c1 : 0 ≤ t.P k
          rotate_left
          · have EN := ENO (by rw [Bool.eq_false_iff]; intro q; exact c1 (HCI.out.1 q).1)
            have d1 : decide (0 ≤ t.P k) = false := decide_eq_false c1
            generalize t.P k = z at *
            go_wp2_with fail
            go_roundw
            case rel => exact ⟨k + 1, by omega, by go_num, by rw [EN.out]; exact hk9.out⟩
            case measure => simp [intOf]; omega
          have d1 : decide (0 ≤ t.P k) = true := decide_eq_true c1
          cases hg : t.G k with
          | true =>
            have EN := ENO (by rw [Bool.eq_false_iff]; intro q; have := INk.out.fresh hkn q; rw [hg] at this; cases this)
            rw [hg] at g0
            clear hg
            generalize t.P k = z at *
            go_wp2_with fail
            go_roundw
            case rel => exact ⟨k + 1, by omega, by go_num, by rw [EN.out]; exact hk9.out⟩
            case measure => simp [intOf]; omega
          | false =>
            rw [hg] at g0
            clear hg
            by_cases c2 : 0 ≤ Wi k
            rotate_left
            · have EN := ENO (by rw [Bool.eq_false_iff]; intro q; exact c2 (HCI.out.1 q).2.1)
              have d2 : decide (0 ≤ Wi k) = false := decide_eq_false c2
              generalize t.P k = z at *
              generalize Wi k = y at *
              go_wp2_with fail
              go_roundw
              case rel => exact ⟨k + 1, by omega, by go_num, by rw [EN.out]; exact hk9.out⟩
              case measure => simp [intOf]; omega
            have d2 : decide (0 ≤ Wi k) = true := decide_eq_true c2
            obtain ⟨og, oo, eo, o0⟩ := HO.out.at hk9.out.below (show (Wi k).toNat < no by omega)
            subst eo
            have hyI : Wi k < (no : Int) := by omega
            cases ho : O (Wi k).toNat with
            | false =>
              have EN := ENO (by rw [Bool.eq_false_iff]; intro q; have := (HCI.out.1 q).2.2.1; rw [ho] at this; cases this)
              rw [ho] at o0
              clear ho
              generalize t.P k = z at *
              generalize Wi k = y at *
              go_wp2_with fail
              go_roundw
              case rel => exact ⟨k + 1, by omega, by go_num, by rw [EN.out]; exact hk9.out⟩
              case measure => simp [intOf]; omega
            | true =>
              have HON := Lib.hid (on15_any (some ⟨wg, 0, none⟩) n K (Wi k) t.P wr hk9.out.wh.is (by omega))
              by_cases c3 : onZ t.P n (Wi k) < 0
              rotate_left
              · have EN := ENO (by rw [Bool.eq_false_iff]; intro q; exact c3 (HCI.out.1 q).2.2.2)
                have d3 : decide (onZ t.P n (Wi k) < 0) = false := decide_eq_false c3
                rw [ho] at o0
                clear ho
                generalize onZ t.P n (Wi k) = x at *
                generalize t.P k = z at *
                generalize Wi k = y at *
                go_wp2_with fail
                refine HON.out.mono ?_
                rintro e w3 ⟨rfl, b3⟩
                have HK3 := Lib.hid (hk9.out.keep b3)
                clear b3
                go_wp2_with fail
                go_roundw
                case rel => exact ⟨k + 1, by omega, by go_num, by rw [EN.out]; exact HK3.out⟩
                case measure => simp [intOf]; omega
              have EY : Hid (rkS n O Wi s (k + 1) = ⟨cwU t.P k (Wi k), cwU t.G k true⟩) := by show _ = _; rw [EK.out, E4.out t k (HCI.out.2 ⟨c1, c2, ho, c3⟩)]
              have d3 : decide (onZ t.P n (Wi k) < 0) = true := decide_eq_true c3
              rw [ho] at o0
              clear ho
              generalize onZ t.P n (Wi k) = x at *
              have HLIN := Lib.hid c1
              have HK2 := Lib.hid hk9.out
              have HQ0 := Lib.hid q0
              go_wp2_with fail
              refine HON.out.mono ?_
              rintro e w3 ⟨rfl, b3⟩
              have q3 := kc b3 HQ0.out
              have HK3 := Lib.hid (hk9.out.keep b3)
              obtain ⟨wg', ew', p3, pf3, st3⟩ := SP.out w3 t k HK3.out hkn
              injection ew' with ew'
              injection ew' with ew'
              subst ew'
              have HK4 := Lib.hid (st3 (Wi k))
              obtain ⟨g4, gf4, st4⟩ := SG.out _ _ k HK4.out hkn
              have HK5 := Lib.hid (st4 true)
              clear b3 st3 st4 HK2 HQ0 HON p0 pf g0 gf q0 o0 hk9 HK4
              dsimp only at g4
              generalize Wi k = y at *
              go_wp2_with fail
              go_roundw
              case rel => exact ⟨k + 1, by omega, by go_num, by rw [EY.out]; exact HK5.out⟩
              case measure => simp [intOf]; omega
        · obtain rfl : k = n := by omega
          have hkI : decide ((k : Int) < (k : Int)) = false := decide_eq_false (by omega)
          go_wp2_with fail
          go_roundw
          case rel => exact ⟨r + 1, by omega, by go_num, by rw [ER.out]; exact hk9.out⟩
          case measure => simp [intOf]; omega
    · obtain rfl : r = n + 1 := by omega
      have hrI : decide (((n + 1 : Nat) : Int) ≤ (n : Int)) = false := decide_eq_false (by omega)
      go_wp2_with fail
      go_ret2
      exact ⟨A', K, some ⟨gg, 0, none⟩, n, rfl, hR.out, HK.out.1, HK.out.2, Nat.le_refl _, by unfold maxLen; omega⟩
end Go.Proofs.Ytoibbnkpfplmbaa
