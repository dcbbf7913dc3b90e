/- Contracts of package kinds, and of the reference: Check; kinds and weapons that lie in memory. -/
import Derived.Test.YtpgifcgidelmaaaKd4
import Derived.Test.YtpgifcgidelmaaaKdL
namespace Go.Proofs.Ytpgifcgidelmaaa
open Go.RowKit
set_option linter.unusedVariables false

/-- The kinds K 0 .. lie at A; so the weapons U 0 ... -/
def Kn (w : World) (A : Option Addr) (n : Nat) (K : Nat → Nat → Int) : Prop :=
  0 < n → ∃ g o, A = some ⟨g, o, none⟩ ∧ g < w.heap.size ∧ ∀ i, i < n → ∀ j, j < 20 → w.cell? ⟨g, o + i * 20 + j, none⟩ = some (.int .i64 (K i j))
def Wn (w : World) (A : Option Addr) (n : Nat) (U : Nat → Nat → Int) (F : Nat → Bool) : Prop :=
  0 < n → ∃ g o, A = some ⟨g, o, none⟩ ∧ g < w.heap.size ∧ ∀ i, i < n → (∀ j, j < 5 → w.cell? ⟨g, o + i * 6 + j, none⟩ = some (.int .i64 (U i j))) ∧ w.cell? ⟨g, o + i * 6 + 5, none⟩ = some (.bool (F i))
theorem Kn.keep {w w' : World} {A : Option Addr} {n : Nat} {K : Nat → Nat → Int} (h : Kn w A n K) (hb : Below w.heap.size w w') : Kn w' A n K := by
  intro hn
  obtain ⟨g, o, e, hg, hc⟩ := h hn
  exact ⟨g, o, e, Nat.lt_of_lt_of_le hg hb.size, fun i hi j hj => kc hb (hc i hi j hj)⟩
theorem Wn.keep {w w' : World} {A : Option Addr} {n : Nat} {U : Nat → Nat → Int} {F : Nat → Bool} (h : Wn w A n U F) (hb : Below w.heap.size w w') : Wn w' A n U F := by
  intro hn
  obtain ⟨g, o, e, hg, hc⟩ := h hn
  exact ⟨g, o, e, Nat.lt_of_lt_of_le hg hb.size, fun i hi => ⟨fun j hj => kc hb ((hc i hi).1 j hj), kc hb (hc i hi).2⟩⟩
theorem Kn.take {w : World} {A : Option Addr} {n m : Nat} {K : Nat → Nat → Int} (h : Kn w A n K) (hm : m ≤ n) : Kn w A m K := by
  intro h0
  obtain ⟨g, o, e, hg, hc⟩ := h (by omega)
  exact ⟨g, o, e, hg, fun i hi => hc i (by omega)⟩
theorem Wn.take {w : World} {A : Option Addr} {n m : Nat} {U : Nat → Nat → Int} {F : Nat → Bool} (h : Wn w A n U F) (hm : m ≤ n) : Wn w A m U F := by
  intro h0
  obtain ⟨g, o, e, hg, hc⟩ := h (by omega)
  exact ⟨g, o, e, hg, fun i hi => hc i (by omega)⟩
theorem Kn.one {w : World} {A : Option Addr} {n k : Nat} {K : Nat → Nat → Int} (h : Kn w A n K) (hk : k < n) : ∃ g o p, A = some ⟨g, o, none⟩ ∧ o + k * 20 = p ∧ (loadVar 46 ⟨g, p, none⟩).run Try.prog w = .ok (.agg (kcs (K k))) w := by
  obtain ⟨g, o, e, hg, hc⟩ := h (by omega)
  exact ⟨g, o, _, e, rfl, loadVar_kindAt (hc k hk)⟩
theorem Wn.one {w : World} {A : Option Addr} {n k : Nat} {U : Nat → Nat → Int} {F : Nat → Bool} (h : Wn w A n U F) (hk : k < n) : ∃ g o p, A = some ⟨g, o, none⟩ ∧ o + k * 6 = p ∧ (loadVar 51 ⟨g, p, none⟩).run Try.prog w = .ok (.agg (wcs (U k) (F k))) w := by
  obtain ⟨g, o, e, hg, hc⟩ := h (by omega)
  exact ⟨g, o, _, e, rfl, loadVar_weaponAt (hc k hk).1 (hc k hk).2⟩

/-- What Check answers: an error's number, and where. -/
inductive Chk (n m : Nat) (K U : Nat → Nat → Int) : Int → Int → Prop
  | count : (n < 1 ∨ 16 < n ∨ 16 < m) → Chk n m K U 1 (-1)
  | kind (i : Nat) : 1 ≤ n → n ≤ 16 → m ≤ 16 → i < n → (∀ j, j < i → okK (K j) m = true) → okK (K i) m = false → Chk n m K U 1 i
  | weapon (i : Nat) : 1 ≤ n → n ≤ 16 → m ≤ 16 → (∀ j, j < n → okK (K j) m = true) → i < m → (∀ j, j < i → okW (U j) = true) → okW (U i) = false → Chk n m K U 1 (n + i)
  | fine : 1 ≤ n → n ≤ 16 → m ≤ 16 → (∀ j, j < n → okK (K j) m = true) → (∀ j, j < m → okW (U j) = true) → Chk n m K U 0 0
theorem first_no (p : Nat → Bool) : ∀ n, (∀ j, j < n → p j = true) ∨ ∃ i, i < n ∧ (∀ j, j < i → p j = true) ∧ p i = false
  | 0 => .inl fun j hj => absurd hj (Nat.not_lt_zero _)
  | n + 1 => by
    rcases first_no p n with h | ⟨i, h1, h2, h3⟩
    · cases e : p n
      · exact .inr ⟨n, by omega, h, e⟩
      · refine .inl fun j hj => ?_
        by_cases q : j = n
        · rw [q]; exact e
        · exact h j (by omega)
    · exact .inr ⟨i, by omega, h2, h3⟩
theorem chk_total (n m : Nat) (K U : Nat → Nat → Int) : ∃ e a, Chk n m K U e a := by
  by_cases h : n < 1 ∨ 16 < n ∨ 16 < m
  · exact ⟨_, _, .count h⟩
  · rcases first_no (fun j => okK (K j) m) n with h1 | ⟨i, a, b, c⟩
    · rcases first_no (fun j => okW (U j)) m with h2 | ⟨i, a, b, c⟩
      · exact ⟨_, _, .fine (by omega) (by omega) (by omega) h1 h2⟩
      · exact ⟨_, _, .weapon i (by omega) (by omega) (by omega) h1 a b c⟩
    · exact ⟨_, _, .kind i (by omega) (by omega) (by omega) a b c⟩

theorem new_one (W : World) (g : Nat) (v : Int) (t : TypeId) (hg : W.heap.size = g) : ∀ i, i < 1 → (W.alloc (.cells #[.int .i64 v] t)).cell? ⟨g, i, none⟩ = some (.int .i64 (lst [v] i)) := new_ints W g [v] t hg
theorem all_one (a b v : Int) : allB a b (lst [v]) 1 = inB a b v := by simp [allB, lst]

set_option maxRecDepth 100000 in
set_option maxHeartbeats 4000000 in
theorem check_any (n m c c2 : Nat) (A A2 : Option Addr) (K U : Nat → Nat → Int) (F : Nat → Bool) (e a : Int) (w : World) (h : Chk n m K U e a) (hn : n ≤ maxLen) (hm : m ≤ maxLen) (hK : Kn w A n K) (hW : Wn w A2 m U F) :
    Calls Try.prog 11 #[.agg #[.slice A n c, .slice A2 m c2]] w (Ret (.tuple #[.int .i64 e, .int .i64 a]) w) := by
  unfold maxLen at hn hm
  have X := Lib.hid (Kx.new w 26 #[.slice A n c, .slice A2 m c2])
  have HK := Lib.hid hK
  have HW := Lib.hid hW
  clear hK hW
  by_cases hc : n < 1 ∨ 16 < n
  · have HA : Hid (e = 1 ∧ a = -1) := by
      show _ ∧ _
      cases h with
      | count _ => exact ⟨rfl, rfl⟩
      | kind i h1 h2 => omega
      | weapon i h1 h2 => omega
      | fine h1 h2 => omega
    have HB : Hid (inB 1 16 n = false) := by show _ = _; simp [inB]; omega
    clear h
    go_enter Try.func11, Try.ntmps11
    go_wp2_with fail
    refine (within_any 1 16 _ 1 (lst [(n : Int)]) _ (by decide) (new_one _ _ (n : Int) _ (by first | rfl | simp))).mono ?_
    rintro e' w1 ⟨rfl, b1⟩
    rw [all_one, HB.out]
    have X1 := Lib.hid ((X.out.alloc _).keep b1)
    clear b1 X
    go_wp2
    go_ret2
    exact Ret.mk (two_eq HA.out.1.symm HA.out.2.symm) X1.out.below
  · have n1 : 1 ≤ n := by omega
    have n2 : n ≤ 16 := by omega
    have HB : Hid (inB 1 16 n = true) := by show _ = _; simp [inB]; omega
    clear hc
    by_cases hc : 16 < m
    · have HA : Hid (e = 1 ∧ a = -1) := by
        show _ ∧ _
        cases h with
        | count _ => exact ⟨rfl, rfl⟩
        | kind i h1 h2 => omega
        | weapon i h1 h2 => omega
        | fine h1 h2 => omega
      have HB2 : Hid (inB 0 16 m = false) := by show _ = _; simp [inB]; omega
      clear h
      go_enter Try.func11, Try.ntmps11
      go_wp2_with fail
      refine (within_any 1 16 _ 1 (lst [(n : Int)]) _ (by decide) (new_one _ _ (n : Int) _ (by first | rfl | simp))).mono ?_
      rintro e' w1 ⟨rfl, b1⟩
      rw [all_one, HB.out]
      have X1 := Lib.hid ((X.out.alloc _).keep b1)
      clear b1 X
      have d1 := X1.out.cell 1 (v := .slice A2 m c2) rfl
      go_wp2_with fail
      refine (within_any 0 16 _ 1 (lst [(m : Int)]) _ (by decide) (new_one _ _ (m : Int) _ (by first | rfl | simp))).mono ?_
      rintro e' w2 ⟨rfl, b1⟩
      rw [all_one, HB2.out]
      have X2 := Lib.hid ((X1.out.alloc _).keep b1)
      clear b1 X1 d1
      go_wp2
      go_ret2
      exact Ret.mk (two_eq HA.out.1.symm HA.out.2.symm) X2.out.below
    · have m2 : m ≤ 16 := by omega
      have HB2 : Hid (inB 0 16 m = true) := by show _ = _; simp [inB]; omega
      clear hc
      have H1 : Hid ((∃ i, i < n ∧ (∀ j, j < i → okK (K j) m = true) ∧ okK (K i) m = false ∧ e = 1 ∧ a = i) ∨ ((∀ j, j < n → okK (K j) m = true) ∧ ((∃ i, i < m ∧ (∀ j, j < i → okW (U j) = true) ∧ okW (U i) = false ∧ e = 1 ∧ a = n + i) ∨ ((∀ j, j < m → okW (U j) = true) ∧ e = 0 ∧ a = 0)))) := by
        cases h with
        | count q => omega
        | kind i h1 h2 h3 h4 h5 h6 => exact .inl ⟨i, h4, h5, h6, rfl, rfl⟩
        | weapon i h1 h2 h3 h4 h5 h6 h7 => exact .inr ⟨h4, .inl ⟨i, h5, h6, h7, rfl, rfl⟩⟩
        | fine h1 h2 h3 h4 h5 => exact .inr ⟨h4, .inr ⟨h5, rfl, rfl⟩⟩
      clear h
      go_enter Try.func11, Try.ntmps11
      go_wp2_with fail
      refine (within_any 1 16 _ 1 (lst [(n : Int)]) _ (by decide) (new_one _ _ (n : Int) _ (by first | rfl | simp))).mono ?_
      rintro e' w1 ⟨rfl, b1⟩
      rw [all_one, HB.out]
      have X1 := Lib.hid ((X.out.alloc _).keep b1)
      clear b1 X
      have d1 := X1.out.cell 1 (v := .slice A2 m c2) rfl
      go_wp2_with fail
      refine (within_any 0 16 _ 1 (lst [(m : Int)]) _ (by decide) (new_one _ _ (m : Int) _ (by first | rfl | simp))).mono ?_
      rintro e' w2 ⟨rfl, b1⟩
      rw [all_one, HB2.out]
      have X2 := Lib.hid ((X1.out.alloc _).keep b1)
      clear b1 X1 d1 HB HB2
      have d0 := X2.out.cell 0 (v := .slice A n c) rfl
      go_wp2
      clear d0
      go_loopw [25] (fun i wr => ∃ k : Nat, k ≤ n ∧ i = .int .i64 (k : Int) ∧ Hid (∀ j, j < k → okK (K j) m = true) ∧ Hid (Kx w w.heap.size wr 26 #[.slice A n c, .slice A2 m c2])) (fun i _ => n - (intOf i).toNat)
      case atStart => exact ⟨0, by omega, rfl, fun j hj => absurd hj (Nat.not_lt_zero _), X2.out⟩
      case round =>
        obtain ⟨k, hk, rfl, hA, hX⟩ := hrel
        clear X2
        have d1 := hX.out.cell 1 (v := .slice A2 m c2) rfl
        by_cases hlt : k < n
        · have hlt' : (k : Int) < (n : Int) := by omega
          obtain ⟨g, o, p, rfl, hp, hc⟩ := (HK.out.keep hX.out.below).one hlt
          have HL := Lib.hid hc
          clear hc
          have d2 := (hX.out.alloc (.cells (kcs (K k)) 46)).cell 1 (v := .slice A2 m c2) rfl
          have hltw := hX.out.lt
          obtain ⟨q, hq⟩ : ∃ q, okK (K k) (m : Int) = q := ⟨_, rfl⟩
          have HQ := Lib.hid hq
          have HM := Lib.hid (mayBeKind_any (K k) (m : Int))
          clear hq
          go_wp2_with (first | (refine wpList_load_at HL.out rfl rfl rfl ?_) | (refine wpList_store_new Try.sizeKind rfl rfl rfl rfl rfl rfl rfl (kcs_one _) ?_) | (refine wpList_load_at (loadVar_kind (alloc_blk _ _ _)) rfl rfl rfl ?_))
          refine (HM.out _ (by omega) (by omega)).mono ?_
          rintro e' w3 ⟨rfl, b1⟩
          rw [HQ.out]
          have X3 := Lib.hid ((hX.out.alloc _).keep b1)
          clear b1 hX d1 d2 hltw hp HL HM
          cases q
          case false =>
            have HF : Hid (e = 1 ∧ a = k) := by
              rcases H1.out with ⟨i, h1, h2, h3, h4, h5⟩ | ⟨h1, _⟩
              · have hik : i = k := by
                  rcases Nat.lt_trichotomy i k with q | q | q
                  · have := hA i q; rw [h3] at this; cases this
                  · exact q
                  · have := h2 k q; rw [HQ.out] at this; cases this
                subst hik
                exact ⟨h4, h5⟩
              · have := h1 k hlt; rw [HQ.out] at this; cases this
            clear H1 hA
            go_wp2
            go_ret2
            exact Ret.mk (two_eq HF.out.1.symm HF.out.2.symm) X3.out.below
          case true =>
            have HA2 : Hid (∀ j, j < k + 1 → okK (K j) m = true) := by
              intro j hj
              by_cases q : j = k
              · rw [q]; exact HQ.out
              · exact hA j (by omega)
            clear hA
            go_wp2
            go_roundw
            case rel => exact ⟨k + 1, by omega, by go_num, HA2, X3⟩
            case measure => simp [intOf]; omega
        · have hkn : k = n := by omega
          have HA2 : Hid (∀ j, j < n → okK (K j) m = true) := by rw [← hkn]; exact hA
          have hge : ¬ (k : Int) < (n : Int) := by omega
          clear hA hkn
          have H2 : Hid ((∃ i, i < m ∧ (∀ j, j < i → okW (U j) = true) ∧ okW (U i) = false ∧ e = 1 ∧ a = n + i) ∨ ((∀ j, j < m → okW (U j) = true) ∧ e = 0 ∧ a = 0)) := by
            rcases H1.out with ⟨i, h1, h2, h3, h4, h5⟩ | ⟨_, q⟩
            · have := HA2.out i h1; rw [h3] at this; cases this
            · exact q
          clear H1 HA2 HK
          go_wp2
          clear d1
          rename World => W1
          go_loopw [41] (fun i wr => ∃ k : Nat, k ≤ m ∧ i = .int .i64 (k : Int) ∧ Hid (∀ j, j < k → okW (U j) = true) ∧ Hid (Kx w w.heap.size wr 26 #[.slice A n c, .slice A2 m c2])) (fun i _ => m - (intOf i).toNat)
          case atStart => exact ⟨0, by omega, rfl, fun j hj => absurd hj (Nat.not_lt_zero _), hX⟩
          case round =>
            obtain ⟨i, hi, rfl, hA, hX2⟩ := hrel
            clear hX
            by_cases hlt : i < m
            · have hlt' : (i : Int) < (m : Int) := by omega
              obtain ⟨g, o, p, rfl, hp, hc⟩ := (HW.out.keep hX2.out.below).one hlt
              have HL := Lib.hid hc
              clear hc
              obtain ⟨q, hq⟩ : ∃ q, okW (U i) = q := ⟨_, rfl⟩
              have HQ := Lib.hid hq
              have HM := Lib.hid (mayBeWeapon_any (U i) (F i))
              clear hq
              go_wp2_with (first | (refine wpList_load_at HL.out rfl rfl rfl ?_) | (refine wpList_store_new Try.sizeWeapon rfl rfl rfl rfl rfl rfl rfl (wcs_one _ _) ?_) | (refine wpList_load_at (loadVar_weapon (alloc_blk _ _ _)) rfl rfl rfl ?_))
              refine (HM.out _).mono ?_
              rintro e' w3 ⟨rfl, b1⟩
              rw [HQ.out]
              have X3 := Lib.hid ((hX2.out.alloc _).keep b1)
              clear b1 hX2 hp HL HM
              have d0 := X3.out.cell 0 (v := .slice A n c) rfl
              cases q
              case false =>
                have HF : Hid (e = 1 ∧ a = n + i) := by
                  rcases H2.out with ⟨i2, h1, h2, h3, h4, h5⟩ | ⟨h1, _⟩
                  · have hik : i2 = i := by
                      rcases Nat.lt_trichotomy i2 i with q | q | q
                      · have := hA i2 q; rw [h3] at this; cases this
                      · exact q
                      · have := h2 i q; rw [HQ.out] at this; cases this
                    subst hik
                    exact ⟨h4, h5⟩
                  · have := h1 i hlt; rw [HQ.out] at this; cases this
                clear H2 hA
                go_wp2
                go_quiet (fail)
                go_wp2
                go_ret2
                exact Ret.mk (two_eq HF.out.1.symm HF.out.2.symm) (X3.out.drewN _).below
              case true =>
                have HA2 : Hid (∀ j, j < i + 1 → okW (U j) = true) := by
                  intro j hj
                  by_cases q : j = i
                  · rw [q]; exact HQ.out
                  · exact hA j (by omega)
                clear hA
                go_wp2
                go_roundw
                case rel => exact ⟨i + 1, by omega, by go_num, HA2, X3⟩
                case measure => simp [intOf]; omega
            · have him : i = m := by omega
              have HF : Hid (e = 0 ∧ a = 0) := by
                rcases H2.out with ⟨i2, h1, h2, h3, h4, h5⟩ | ⟨_, q⟩
                · have := hA i2 (by omega); rw [h3] at this; cases this
                · exact q
              have hge2 : ¬ (i : Int) < (m : Int) := by omega
              clear hA him H2
              go_wp2
              go_ret2
              exact Ret.mk (two_eq HF.out.1.symm HF.out.2.symm) hX2.out.below

end Go.Proofs.Ytpgifcgidelmaaa
