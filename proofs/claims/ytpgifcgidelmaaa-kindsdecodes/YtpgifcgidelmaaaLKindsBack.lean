/- The walk of KindsBack. -/
import Derived.Test.YtpgifcgidelmaaaKh3
import Derived.Test.YtpgifcgidelmaaaKs2
import Derived.Test.YtpgifcgidelmaaaKy1
namespace Go.Proofs.Ytpgifcgidelmaaa
open Go.RowKit
set_option linter.unusedVariables false

theorem Kn.congr {w : World} {A : Option Addr} {n : Nat} {K K' : Nat → Nat → Int} (h : Kn w A n K) (e : ∀ i, i < n → ∀ j, j < 20 → K i j = K' i j) : Kn w A n K' := by
  intro hn
  obtain ⟨g, o, ea, hg, hc⟩ := h hn
  exact ⟨g, o, ea, hg, fun i hi j hj => by rw [← e i hi j hj]; exact hc i hi j hj⟩
theorem Wn.congr {w : World} {A : Option Addr} {n : Nat} {U U' : Nat → Nat → Int} {F F' : Nat → Bool} (h : Wn w A n U F) (e : ∀ i, i < n → (∀ j, j < 5 → U i j = U' i j) ∧ F i = F' i) : Wn w A n U' F' := by
  intro hn
  obtain ⟨g, o, ea, hg, hc⟩ := h hn
  exact ⟨g, o, ea, hg, fun i hi => ⟨fun j hj => by rw [← (e i hi).1 j hj]; exact (hc i hi).1 j hj, by rw [← (e i hi).2]; exact (hc i hi).2⟩⟩
theorem flds_lt (s : Nat) (z : Nat → Int) : ∀ n, ∀ b ∈ flds s z n, b < 256
  | 0, b, h => by simp [flds] at h
  | n + 1, b, h => by
    rw [flds, List.mem_append] at h
    rcases h with h | h
    · exact flds_lt s z n b h
    · exact le_lt _ _ b h
theorem kbys_lt (K : Nat → Nat → Int) : ∀ n, ∀ b ∈ kbys K n, b < 256
  | 0, b, h => by simp [kbys] at h
  | n + 1, b, h => by
    rw [kbys, List.mem_append, kby, List.mem_append, List.mem_append, List.mem_append] at h
    rcases h with h | h | h | h | h
    · exact kbys_lt K n b h
    · exact flds_lt _ _ _ b h
    · exact flds_lt _ _ _ b h
    · exact flds_lt _ _ _ b h
    · exact le_lt _ _ b h
theorem wbys_lt (U : Nat → Nat → Int) (F : Nat → Bool) : ∀ n, ∀ b ∈ wbys U F n, b < 256
  | 0, b, h => by simp [wbys] at h
  | n + 1, b, h => by
    rw [wbys, List.mem_append, wby, List.mem_append, List.mem_append] at h
    rcases h with h | h | h | h
    · exact wbys_lt U F n b h
    · exact flds_lt _ _ _ b h
    · exact flds_lt _ _ _ b h
    · exact le_lt _ _ b h
theorem bby_lt (K U : Nat → Nat → Int) (F : Nat → Bool) (n m : Nat) (i : Nat) : (bby K U F n m).getD i 0 < 256 := by
  rcases Nat.lt_or_ge i (bby K U F n m).length with h | h
  · have hm : (bby K U F n m)[i] ∈ bby K U F n m := List.getElem_mem h
    have : ∀ b ∈ bby K U F n m, b < 256 := by
      intro b hb
      unfold bby at hb
      rw [List.mem_append, List.mem_append] at hb
      rcases hb with hb | hb | hb
      · exact flds_lt _ _ _ b hb
      · exact kbys_lt _ _ b hb
      · exact wbys_lt _ _ _ b hb
    simp [List.getD, List.getElem?_eq_getElem h]
    exact this _ hm
  · simp [List.getD, List.getElem?_eq_none h]
/-- What is encoded is decoded: in the walk's words. -/
theorem round_trip {n m : Nat} {K U : Nat → Nat → Int} {F : Nat → Bool} (h : Chk n m K U 0 0) (v : Value) (base : Nat) (u : World) (hr : Rw u base v (bby K U F n m)) :
    Calls Try.prog 15 #[v] u fun en w' => Below u.heap.size u w' ∧ ∃ A1 c1 A2 c2, en = .returned (.tuple #[.agg #[.slice A1 n c1, .slice A2 m c2], .int .i64 0, .int .i64 0]) ∧ Kn w' A1 n K ∧ Wn w' A2 m U F := by
  obtain ⟨A, k, rfl, l1, l2, hB⟩ := hr.bs
  obtain ⟨p, ep⟩ : ∃ p : Nat → Nat, (fun i => (bby K U F n m).getD i 0) = p := ⟨_, rfl⟩
  have hp : ∀ i, p i < 256 := fun i => by rw [← ep]; exact bby_lt K U F n m i
  rw [ep] at hB
  obtain ⟨q0, q1, hD, hk, hw⟩ := book_back (p := p) h (fun i hi => by rw [Nat.zero_add, ← ep])
  refine (decode_any A _ k p u hB hp l1 l2).mono ?_
  rintro en w' ⟨e, a, hD2, hb, hcase⟩
  obtain ⟨rfl, rfl⟩ := hD2.same hD
  rcases hcase with ⟨he, _⟩ | ⟨-, A1, c1, A2, c2, rfl, -, -, -, -, hK, hW⟩
  · exact absurd rfl he
  · rw [q0] at hK
    rw [q1] at hW
    rw [q0, q1]
    exact ⟨hb, A1, c1, A2, c2, rfl, hK.congr hk, hW.congr hw⟩
theorem Dec.chk {p : Nat → Nat} {N : Nat} {a : Int} (h : Dec p N 0 a) : Chk (p 0) (p 1) (dK p) (dU p) 0 0 := by
  have ha := h.zero
  generalize he : (0 : Int) = e at h
  cases h with
  | short => omega
  | few => omega
  | many => omega
  | kind i h1 h2 h3 h4 h5 => exact absurd he.symm h5
  | under => omega
  | speed i h1 h2 h3 h4 h5 h6 h7 => exact absurd he.symm h7
  | check e a h1 h2 h3 h4 h5 => rw [← he, ha] at h5; rw [← he]; exact h5
theorem Chk.few {n m : Nat} {K U : Nat → Nat → Int} (h : Chk n m K U 0 0) : n ≤ 16 ∧ m ≤ 16 := by
  cases h with
  | fine a b c d e => exact ⟨b, c⟩
theorem Chk.at0 {n m : Nat} {K U : Nat → Nat → Int} {a : Int} (h : Chk n m K U 0 a) : a = 0 := by
  generalize he : (0 : Int) = e at h
  cases h with
  | count => omega
  | kind => omega
  | weapon => omega
  | fine => rfl

set_option maxRecDepth 100000 in
set_option maxHeartbeats 4000000 in
theorem walk_KindsBack (A : Option Addr) (n c : Nat) (K : Nat → Nat → Int) (B : Option Addr) (m d : Nat) (U : Nat → Nat → Int) (F : Nat → Bool) (S : Option Addr) (N cs : Nat) (p : Nat → Nat) (w : World) (hK : Kn w A n K) (hn : n ≤ c) (hc : c ≤ maxLen) (hW : Wn w B m U F) (hm : m ≤ d) (hd : d ≤ maxLen)
    (hS : Bs w S N p) (hp : ∀ i, p i < 256) (hN : N ≤ cs) (hcs : cs ≤ maxLen) :
    Calls Try.prog 7 #[.agg #[.slice A n c, .slice B m d], .slice S N cs] w (Ret (.bool true) w) := by
  have HF := Lib.hid (fun u => few_any n c m d A B u hn hc hm hd hK.addr hW.addr)
  have KK : Hid (∀ u, Below w.heap.size w u → Kn u A (few n) K ∧ Wn u B (few m) U F) := fun u hu => ⟨(hK.keep hu).take (few_le n).1, (hW.keep hu).take (few_le m).1⟩
  have L1 := Lib.hid (few_le n).2
  have L2 := Lib.hid (few_le m).2
  have HS := Lib.hid hS
  have HP := Lib.hid hp
  have HN := Lib.hid hN
  have HM := Lib.hid hcs
  have X := Lib.hid (Kx.new w 26 #[.slice A n c, .slice B m d])
  clear hK hW hn hc hm hd hS hp
  generalize few n = n' at *
  generalize few m = m' at *
  unfold maxLen at hcs
  go_enter Try.func7, Try.ntmps7
  go_wp2_with fail
  refine (HF.out _).mono ?_
  rintro e1 w1 ⟨rfl, b1⟩
  have X1 := Lib.hid (X.out.keep b1)
  clear b1 X HF
  have c0 := X1.out.cell 0 (v := .slice A n c) rfl
  have c1 := X1.out.cell 1 (v := .slice B m d) rfl
  have f0 := X1.out.free 0
  have f1 := X1.out.free 1
  have X2 := Lib.hid ((X1.out.set 0 (.slice A n' c)).set 1 (.slice B m' d))
  go_upto_if 22 with fail
  generalize (w1.setCell ⟨w.heap.size, 0, none⟩ (.slice A n' c)).setCell ⟨w.heap.size, 1, none⟩ (.slice B m' d) = w2 at *
  clear c0 c1 f0 f1 X1
  obtain ⟨M, hM⟩ : ∃ M, (if 900 < N then 900 else N) = M := ⟨_, rfl⟩
  have HMN : Hid (M ≤ N) := by show _ ≤ _; rw [← hM]; split <;> omega
  go_cut [1] (fun s1 wx => s1 = .slice S M cs ∧ wx = w2)
  case first =>
    by_cases h9 : 900 < N
    · have h9' : (900 : Int) < (N : Int) := by omega
      have h9c : (900 : Int) ≤ (cs : Int) := by omega
      have h9z : ¬ cs = 0 := by omega
      obtain ⟨gs, os, rfl, _, _⟩ := HS.out (by omega)
      rw [if_pos h9] at hM
      subst hM
      clear HMN
      go_wp2
      go_meet
      exact ⟨rfl, rfl⟩
    · have h9' : ¬ (900 : Int) < (N : Int) := by omega
      rw [if_neg h9] at hM
      subst hM
      clear HMN
      go_wp2
      go_meet
      exact ⟨rfl, rfl⟩
  case rest =>
    obtain ⟨rfl, rfl⟩ := hcut
    rename World => w2
    clear hM hN hcs
    obtain ⟨e, a, hchk⟩ := chk_total n' m' K U
    have HC := Lib.hid hchk
    clear hchk
    have c0 := X2.out.cell 0 (v := .slice A n' c) rfl
    have c1 := X2.out.cell 1 (v := .slice B m' d) rfl
    go_wp2_with fail
    refine (check_any n' m' c d A B K U F e a _ HC.out (by have := L1.out; unfold maxLen; omega) (by have := L2.out; unfold maxLen; omega) (KK.out _ X2.out.below).1 (KK.out _ X2.out.below).2).mono ?_
    rintro e2 w3 ⟨rfl, b3⟩
    have X3 := Lib.hid (X2.out.keep b3)
    clear b3 X2 c0 c1
    go_upto_if 31 with fail
    go_cut [4] (fun s4 wx => s4 = .bool false ∧ Hid (Below w.heap.size w wx))
    case first =>
      by_cases he : e = 0
      · subst he
        have ha := HC.out.at0
        subst ha
        have c0 := X3.out.cell 0 (v := .slice A n' c) rfl
        have c1 := X3.out.cell 1 (v := .slice B m' d) rfl
        go_wp2_with fail
        refine (encode_ok n' m' c d A B K U F _ HC.out (by have := L1.out; unfold maxLen; omega) (by have := L2.out; unfold maxLen; omega) (KK.out _ X3.out.below).1 (KK.out _ X3.out.below).2).mono ?_
        rintro e3 w4 ⟨v, rfl, hr, b4⟩
        have X4 := Lib.hid (X3.out.keep b4)
        have HR := Lib.hid hr
        clear b4 hr X3 c0 c1
        go_wp2_with fail
        refine (round_trip HC.out v _ _ HR.out).mono ?_
        rintro e4 w5 ⟨b5, A1, k1, A2, k2, rfl, hK1, hW1⟩
        have X5 := Lib.hid ((X4.out.keep b5).alloc (.cells #[.slice A1 n' k1, .slice A2 m' k2] 26))
        have Z5 := Lib.hid (Kx.next (X4.out.keep b5).below 26 #[.slice A1 n' k1, .slice A2 m' k2])
        have HK1 := Lib.hid (hK1.keep (below_box (.cells #[.slice A1 n' k1, .slice A2 m' k2] 26)))
        have HW1 := Lib.hid (hW1.keep (below_box (.cells #[.slice A1 n' k1, .slice A2 m' k2] 26)))
        clear b5 hK1 hW1 X4 HR
        have c0 := X5.out.cell 0 (v := .slice A n' c) rfl
        have c1 := X5.out.cell 1 (v := .slice B m' d) rfl
        go_wp2_with (refine wpList_load_at (loadVar_book X5.out.blk) rfl rfl rfl ?_)
        refine (same_yes n' m' k1 k2 c d A1 A2 A B K U F _ (by have := L1.out; unfold maxLen; omega) (by have := L2.out; unfold maxLen; omega) HK1.out HW1.out (KK.out _ X5.out.below).1 (KK.out _ X5.out.below).2).mono ?_
        rintro e6 w6 ⟨rfl, b6⟩
        have X6 := Lib.hid (X5.out.keep b6)
        clear b6 X5 Z5 HK1 HW1 c0 c1
        go_wp2
        go_meet
        exact ⟨rfl, X6.out.below⟩
      · have he1 : (e == 0) = false := by simp [he]
        clear he
        go_wp2
        go_meet
        exact ⟨rfl, X3.out.below⟩
    case rest =>
      obtain ⟨rfl, hB⟩ := hcut
      rename World => w7
      have B7 := Lib.hid hB.out
      clear hB X3 HC L1 L2 KK
      go_wp2_with fail
      refine (decode_any S M cs p _ ((HS.out.keep B7.out).take HMN.out) HP.out (Nat.le_trans HMN.out HN.out) HM.out).mono ?_
      rintro e2 w8 ⟨e', a', hD, b8, hcase⟩
      have B8 := Lib.hid (B7.out.trans (b8.mono B7.out.size))
      clear b8 B7 HS HN HM HMN HP
      rcases hcase with ⟨he, rfl⟩ | ⟨rfl, A1, k1, A2, k2, rfl, l1, l2, l3, l4, hK1, hW1⟩
      · have he1 : (e' != 0) = true := by simp [he]
        clear he hD
        go_wp2_with fail
        refine (same_yes 0 0 0 0 0 0 none none none none (fun _ _ => 0) (fun _ _ => 0) (fun _ => false) _ (by simp [maxLen]) (by simp [maxLen]) (fun h => absurd h (by omega)) (fun h => absurd h (by omega)) (fun h => absurd h (by omega)) (fun h => absurd h (by omega))).mono ?_
        rintro e3 w9 ⟨rfl, b9⟩
        have B9 := Lib.hid ((B8.out.alloc B8.out.size _).trans (b9.mono (by have := B8.out.size; simp; omega)))
        clear b9 B8
        go_wp2_with fail
        refine (awake_any _).mono ?_
        rintro e5 w5 ⟨rfl, b5⟩
        have B5 := Lib.hid (B9.out.trans (b5.mono B9.out.size))
        clear b5 B9
        go_wp2
        go_ret
        exact Ret.mk rfl B5.out
      · have HC2 := Lib.hid hD.chk
        clear hD l1 l2 l3 l4
        generalize dK p = K2 at *
        generalize dU p = U2 at *
        generalize dF p = F2 at *
        generalize p 0 = n2 at *
        generalize p 1 = m2 at *
        have L16 := Lib.hid HC2.out.few
        have Y := Lib.hid (Kx.next B8.out 26 #[.slice A1 n2 k1, .slice A2 m2 k2])
        have HK1 := Lib.hid (hK1.keep (below_box (.cells #[.slice A1 n2 k1, .slice A2 m2 k2] 26)))
        have HW1 := Lib.hid (hW1.keep (below_box (.cells #[.slice A1 n2 k1, .slice A2 m2 k2] 26)))
        clear hK1 hW1 B8
        go_wp2_with fail
        refine (check_any n2 m2 k1 k2 A1 A2 K2 U2 F2 0 0 _ HC2.out (by have := L16.out.1; unfold maxLen; omega) (by have := L16.out.2; unfold maxLen; omega) HK1.out HW1.out).mono ?_
        rintro e3 w9 ⟨rfl, b9⟩
        have Y9 := Lib.hid (Y.out.keep b9)
        have HK9 := Lib.hid (HK1.out.keep b9)
        have HW9 := Lib.hid (HW1.out.keep b9)
        clear b9 Y HK1 HW1
        have c0 := Y9.out.cell 0 (v := .slice A1 n2 k1) rfl
        have c1 := Y9.out.cell 1 (v := .slice A2 m2 k2) rfl
        go_wp2_with fail
        refine (encode_ok n2 m2 k1 k2 A1 A2 K2 U2 F2 _ HC2.out (by have := L16.out.1; unfold maxLen; omega) (by have := L16.out.2; unfold maxLen; omega) HK9.out HW9.out).mono ?_
        rintro e4 w10 ⟨v, rfl, hr, b10⟩
        have HR := Lib.hid hr
        have Y10 := Lib.hid (Y9.out.keep b10)
        have HK10 := Lib.hid (HK9.out.keep b10)
        have HW10 := Lib.hid (HW9.out.keep b10)
        clear hr b10 Y9 HK9 HW9 c0 c1
        go_wp2_with fail
        refine (round_trip HC2.out v _ _ HR.out).mono ?_
        rintro e5 w11 ⟨b11, A3, k3, A4, k4, rfl, hK3, hW3⟩
        have Y11 := Lib.hid ((Y10.out.keep b11).alloc (.cells #[.slice A3 n2 k3, .slice A4 m2 k4] 26))
        have bbx := below_box (w := w11) (.cells #[.slice A3 n2 k3, .slice A4 m2 k4] 26)
        have HK11 := Lib.hid ((HK10.out.keep b11).keep bbx)
        have HW11 := Lib.hid ((HW10.out.keep b11).keep bbx)
        have HK3 := Lib.hid (hK3.keep bbx)
        have HW3 := Lib.hid (hW3.keep bbx)
        have lt8 : w8.heap.size < w11.heap.size := (Y10.out.keep b11).lt
        have c0 := Y11.out.cell 0 (v := .slice A1 n2 k1) rfl
        have c1 := Y11.out.cell 1 (v := .slice A2 m2 k2) rfl
        clear b11 hK3 hW3 bbx Y10 HK10 HW10 HR
        go_wp2_with (first | (refine wpList_load_at (loadVar_book Y11.out.blk) rfl rfl rfl ?_) | (refine wpList_load_at (loadVar_book (alloc_blk _ _ _)) rfl rfl rfl ?_))
        refine (same_yes n2 m2 k1 k2 k3 k4 A1 A2 A3 A4 K2 U2 F2 _ (by have := L16.out.1; unfold maxLen; omega) (by have := L16.out.2; unfold maxLen; omega) HK11.out HW11.out HK3.out HW3.out).mono ?_
        rintro e6 w12 ⟨rfl, b12⟩
        have Y12 := Lib.hid (Y11.out.keep b12)
        clear b12 Y11 HK11 HW11 HK3 HW3 c0 c1 lt8
        go_wp2_with fail
        refine (awake_any _).mono ?_
        rintro e7 w13 ⟨rfl, b13⟩
        have Y13 := Lib.hid (Y12.out.keep b13)
        clear b13 Y12
        go_wp2
        go_ret
        exact Ret.mk rfl Y13.out.below
end Go.Proofs.Ytpgifcgidelmaaa
