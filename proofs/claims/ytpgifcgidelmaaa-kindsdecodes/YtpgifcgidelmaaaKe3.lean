/- Contracts of package kinds: Encode. -/
import Derived.Test.YtpgifcgidelmaaaKe2
namespace Go.Proofs.Ytpgifcgidelmaaa
open Go.RowKit
set_option linter.unusedVariables false

theorem Wk.keep {w : World} {v0 : Value} {base gk : Nat} {t : TypeId} {cs : Array Value} {W W' : World} {v : Value} {l : List Nat} (h : Wk w v0 base gk t cs W v l) (hb : Below W.heap.size W W') : Wk w v0 base gk t cs W' v l :=
  ⟨h.row.keep hb, h.ext.step hb, (hb.block gk (Array.getElem?_eq_some_iff.1 h.blk).1).trans h.blk, Nat.le_trans h.hB hb.size⟩
theorem Wk.below {w : World} {base gk : Nat} {t : TypeId} {cs : Array Value} {W : World} {v : Value} {l : List Nat} (h : Wk w (.slice none 0 0) base gk t cs W v l) : Below w.heap.size w W := h.ext.below rfl
theorem Wk.lt {w : World} {v0 : Value} {base gk : Nat} {t : TypeId} {cs : Array Value} {W : World} {v : Value} {l : List Nat} (h : Wk w v0 base gk t cs W v l) : gk < W.heap.size := (Array.getElem?_eq_some_iff.1 h.blk).1
/-- New bytes come back. -/
def RetE (l : List Nat) (w : World) (e : Ending) (w' : World) : Prop := ∃ v', e = .returned v' ∧ Rw w' w.heap.size v' l ∧ Below w.heap.size w w'

set_option maxHeartbeats 1000000 in
theorem encode_bad (n m c c2 : Nat) (A A2 : Option Addr) (K U : Nat → Nat → Int) (F : Nat → Bool) (e a : Int) (w : World) (h : Chk n m K U e a) (he : e ≠ 0) (hn : n ≤ maxLen) (hm : m ≤ maxLen) (hK : Kn w A n K) (hW : Wn w A2 m U F) :
    Calls Try.prog 13 #[.agg #[.slice A n c, .slice A2 m c2]] w (Ret (.slice none 0 0) w) := by
  have C := Lib.hid (check_any n m c c2 A A2 K U F e a _ h hn hm (hK.keep (below_box (.cells #[.slice A n c, .slice A2 m c2] 26))) (hW.keep (below_box (.cells #[.slice A n c, .slice A2 m c2] 26))))
  have he' : (e != 0) = true := by simp [he]
  clear h he hn hm hK hW
  go_enter Try.func13, Try.ntmps13
  go_wp2_with fail
  refine C.out.mono ?_
  rintro e' w1 ⟨rfl, b1⟩
  have B1 := Lib.hid (below_of_box b1)
  clear b1 C
  go_wp2
  go_ret
  exact Ret.mk rfl B1.out

set_option maxRecDepth 100000 in
set_option maxHeartbeats 4000000 in
theorem encode_ok (n m c c2 : Nat) (A A2 : Option Addr) (K U : Nat → Nat → Int) (F : Nat → Bool) (w : World) (h : Chk n m K U 0 0) (hn : n ≤ maxLen) (hm : m ≤ maxLen) (hK : Kn w A n K) (hW : Wn w A2 m U F) :
    Calls Try.prog 13 #[.agg #[.slice A n c, .slice A2 m c2]] w (RetE (bby K U F n m) w) := by
  have C := Lib.hid (check_any n m c c2 A A2 K U F 0 0 _ h hn hm (hK.keep (below_box (.cells #[.slice A n c, .slice A2 m c2] 26))) (hW.keep (below_box (.cells #[.slice A n c, .slice A2 m c2] 26))))
  obtain ⟨n1, n2, m2, hk, hw⟩ : 1 ≤ n ∧ n ≤ 16 ∧ m ≤ 16 ∧ (∀ j, j < n → okK (K j) m = true) ∧ ∀ j, j < m → okW (U j) = true := by
    cases h with
    | fine a b c d e => exact ⟨a, b, c, d, e⟩
  have OK := Lib.hid hk
  have OW := Lib.hid hw
  have HK := Lib.hid hK
  have HW := Lib.hid hW
  have X := Lib.hid ((Wk.new (base := w.heap.size) 26 #[.slice A n c, .slice A2 m c2] (Rw.nil w w.heap.size) (Nat.le_refl _)))
  have hte : 26 ≠ 5 := by decide
  clear h hn hm hK hW hk hw
  go_enter Try.func13, Try.ntmps13
  go_wp2_with fail
  refine C.out.mono ?_
  rintro e' w1 ⟨rfl, b1⟩
  have X1 := Lib.hid (X.out.keep b1)
  clear b1 C X
  have c0 := X1.out.cell 0 (x := .slice A n c) rfl
  have c1 := X1.out.cell 1 (x := .slice A2 m c2) rfl
  go_wp2_with fail
  refine (fields_any w.heap.size _ [] 1 _ 2 [(n : Int), (m : Int)] _ (X1.out.alloc _).row (alloc_blk _ _ _) rfl (by decide) (lst_bd _ rfl (fun v hv => ?_)) (by simp) (by decide) (X1.out.alloc _).hB).mono ?_
  · simp only [List.mem_cons, List.not_mem_nil, or_false] at hv
    rcases hv with rfl | rfl <;> omega
  rintro e w2 ⟨v2, rfl, hr, he⟩
  have X2 := Lib.hid ((X1.out.alloc _).step hte hr he)
  clear hr he X1 c0 c1
  rw [List.nil_append] at X2
  have HH : Hid ((flds 1 (lst [(n : Int), (m : Int)]) 2).length = 2) := flds_length _ _ _
  have HY : Hid (bby K U F n m = flds 1 (lst [(n : Int), (m : Int)]) 2 ++ (kbys K n ++ wbys U F m)) := rfl
  obtain ⟨hd, ehd⟩ : ∃ hd, flds 1 (lst [(n : Int), (m : Int)]) 2 = hd := ⟨_, rfl⟩
  rw [ehd] at X2 HH HY
  clear ehd
  have c0 := X2.out.cell 0 (x := .slice A n c) rfl
  go_wp2
  clear c0
  go_loopw [5, 28] (fun t5 i wr => ∃ k : Nat, k ≤ n ∧ i = .int .i64 (k : Int) ∧ Hid (Wk w (.slice none 0 0) w.heap.size w.heap.size 26 #[.slice A n c, .slice A2 m c2] wr t5 (hd ++ kbys K k))) (fun _ i _ => n - (intOf i).toNat)
  case atStart => exact ⟨0, by omega, rfl, by show Wk _ _ _ _ _ _ _ _ _; rw [kbys, List.append_nil]; exact X2.out⟩
  case round =>
    obtain ⟨k, hk, rfl, hX⟩ := hrel
    clear X2
    by_cases hlt : k < n
    · have hlt' : (k : Int) < (n : Int) := by omega
      obtain ⟨g, o, p, rfl, hp, hc⟩ := (HK.out.keep hX.out.below).one hlt
      have HL := Lib.hid hc
      clear hc
      have HS : Hid (hd ++ kbys K (k + 1) = (hd ++ kbys K k) ++ kby (K k)) := by show _ = _; rw [kbys, List.append_assoc]
      have HN : Hid ((hd ++ kbys K k).length ≤ 100000) := by show _ ≤ _; rw [List.length_append, HH.out, kbys_length]; omega
      obtain ⟨l2, el⟩ : ∃ l2, hd ++ kbys K k = l2 := ⟨_, rfl⟩
      rw [el] at hX HS HN
      clear el
      go_wp2_with (first | (refine wpList_load_at HL.out rfl rfl rfl ?_) | (refine wpList_store_new Try.sizeKind rfl rfl rfl rfl rfl rfl rfl (kcs_one _) ?_) | (refine wpList_load_at (loadVar_kind (alloc_blk _ _ _)) rfl rfl rfl ?_))
      refine (withKind_any w.heap.size _ l2 (K k) (m : Int) _ (hX.out.alloc _).row (OK.out k hlt) (by omega) HN.out (hX.out.alloc _).hB).mono ?_
      rintro e w3 ⟨v3, rfl, hr, he⟩
      have X3 := Lib.hid ((hX.out.alloc _).step hte hr he)
      clear hr he hX hp HL
      go_wp2
      go_roundw
      case rel => exact ⟨k + 1, by omega, by go_num, by show Wk _ _ _ _ _ _ _ _ _; rw [HS.out]; exact X3.out⟩
      case measure => simp [intOf]; omega
    · have hkn : k = n := by omega
      subst hkn
      have hge : ¬ (k : Int) < (k : Int) := by omega
      have c1 := hX.out.cell 1 (x := .slice A2 m c2) rfl
      clear HK OK
      go_wp2
      clear c1
      rename World => W1
      go_loopw [5, 39] (fun t5 i wr => ∃ j : Nat, j ≤ m ∧ i = .int .i64 (j : Int) ∧ Hid (Wk w (.slice none 0 0) w.heap.size w.heap.size 26 #[.slice A k c, .slice A2 m c2] wr t5 (hd ++ (kbys K k ++ wbys U F j)))) (fun _ i _ => m - (intOf i).toNat)
      case atStart => exact ⟨0, by omega, rfl, by show Wk _ _ _ _ _ _ _ _ _; rw [wbys, List.append_nil]; exact hX.out⟩
      case round =>
        obtain ⟨j, hj, rfl, hX2⟩ := hrel
        clear hX
        by_cases hlt2 : j < m
        · have hlt2' : (j : Int) < (m : Int) := by omega
          obtain ⟨g, o, p, rfl, hp, hc⟩ := (HW.out.keep hX2.out.below).one hlt2
          have HL := Lib.hid hc
          clear hc
          have HS : Hid (hd ++ (kbys K k ++ wbys U F (j + 1)) = (hd ++ (kbys K k ++ wbys U F j)) ++ wby (U j) (F j)) := by show _ = _; rw [wbys, List.append_assoc, List.append_assoc]
          have HN : Hid ((hd ++ (kbys K k ++ wbys U F j)).length ≤ 100000) := by show _ ≤ _; rw [List.length_append, List.length_append, HH.out, kbys_length, wbys_length]; omega
          obtain ⟨l2, el⟩ : ∃ l2, hd ++ (kbys K k ++ wbys U F j) = l2 := ⟨_, rfl⟩
          rw [el] at hX2 HS HN
          clear el
          go_wp2_with (first | (refine wpList_load_at HL.out rfl rfl rfl ?_) | (refine wpList_store_new Try.sizeWeapon rfl rfl rfl rfl rfl rfl rfl (wcs_one _ _) ?_) | (refine wpList_load_at (loadVar_weapon (alloc_blk _ _ _)) rfl rfl rfl ?_))
          refine (withWeapon_any w.heap.size _ l2 (U j) (F j) _ (hX2.out.alloc _).row (OW.out j hlt2) HN.out (hX2.out.alloc _).hB).mono ?_
          rintro e w3 ⟨v3, rfl, hr, he⟩
          have X3 := Lib.hid ((hX2.out.alloc _).step hte hr he)
          clear hr he hX2 hp HL
          go_wp2
          go_roundw
          case rel => exact ⟨j + 1, by omega, by go_num, by show Wk _ _ _ _ _ _ _ _ _; rw [HS.out]; exact X3.out⟩
          case measure => simp [intOf]; omega
        · have hjm : j = m := by omega
          subst hjm
          have hge2 : ¬ (j : Int) < (j : Int) := by omega
          go_wp2
          go_ret
          exact ⟨_, rfl, by rw [HY.out]; exact hX2.out.row, hX2.out.below⟩
end Go.Proofs.Ytpgifcgidelmaaa
