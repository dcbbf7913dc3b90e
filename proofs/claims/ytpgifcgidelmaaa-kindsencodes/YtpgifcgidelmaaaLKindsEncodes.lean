/- The walk of KindsEncodes. -/
import Derived.Test.YtpgifcgidelmaaaKr2
import Derived.Test.YtpgifcgidelmaaaKh3
import Derived.Deep.RegionWith
import Derived.Laws.BytesArg
namespace Go.Proofs.Ytpgifcgidelmaaa
open Go.RowKit
set_option linter.unusedVariables false

/-- The first n bytes as a string. -/
def sb (p : Nat → Nat) (n : Nat) : ByteArray := strOfNums ((List.range n).map fun i => (p i : Int))
theorem conv_any {w : World} {A : Option Addr} {n : Nat} {p : Nat → Nat} (h : Bs w A n p) (c : Nat) : (convert 34 9 (.slice A n c)).run Try.prog w = .ok (.string (sb p n)) w := by
  rcases Nat.eq_zero_or_pos n with h0 | h0
  · subst h0
    rw [run_convert_bytes_string w 34 9 5 _ 0 c Try.underlying34 Try.underlying5 Try.underlying9]
    cases A <;> simp [Conv.bytesToString, loadCells]
    all_goals rfl
  · obtain ⟨g, o, rfl, hg, hc⟩ := h h0
    exact run_convert_bytes_arg w 34 5 Try.underlying34 Try.underlying5 g o n c ((List.range n).map fun i => (p i : Int)) (by simp) (fun i hi => by
      rw [hc i hi]
      simp [List.getD, hi]) 9 Try.underlying9
theorem Chk.zero {n m : Nat} {K U : Nat → Nat → Int} {a : Int} (h : Chk n m K U 0 a) : a = 0 := by
  generalize he : (0 : Int) = e at h
  cases h with
  | count => omega
  | kind => omega
  | weapon => omega
  | fine => rfl

set_option maxHeartbeats 4000000 in
theorem walk_KindsEncodes (A : Option Addr) (n c : Nat) (K : Nat → Nat → Int) (B : Option Addr) (m d : Nat) (U : Nat → Nat → Int) (F : Nat → Bool) (w : World) (hK : Kn w A n K) (hn : n ≤ c) (hc : c ≤ maxLen) (hW : Wn w B m U F) (hm : m ≤ d) (hd : d ≤ maxLen) :
    Calls Try.prog 5 #[.agg #[.slice A n c, .slice B m d]] w (Ret (.bool true) w) := by
  have HF := Lib.hid (fun u => few_any n c m d A B u hn hc hm hd hK.addr hW.addr)
  obtain ⟨e, a, hchk⟩ := chk_total (few n) (few m) K U
  have KK : Hid (∀ u, Below w.heap.size w u → Kn u A (few n) K ∧ Wn u B (few m) U F) := fun u hu => ⟨(hK.keep hu).take (few_le n).1, (hW.keep hu).take (few_le m).1⟩
  have L1 : Hid (few n ≤ maxLen) := by have := few_le n; show _ ≤ _; unfold maxLen; omega
  have L2 : Hid (few m ≤ maxLen) := by have := few_le m; show _ ≤ _; unfold maxLen; omega
  have HC := Lib.hid hchk
  have X := Lib.hid (Kx.new w 26 #[.slice A n c, .slice B m d])
  clear hK hW hn hc hm hd hchk
  generalize few n = n' at *
  generalize few m = m' at *
  go_enter Try.func5, Try.ntmps5
  go_wp2_with fail
  refine (HF.out _).mono ?_
  rintro e1 w1 ⟨rfl, b1⟩
  have X1 := Lib.hid (X.out.keep b1)
  clear b1 X HF
  have c0 := X1.out.cell 0 (v := .slice A n c) rfl
  have c1 := X1.out.cell 1 (v := .slice B m d) rfl
  have f0 := X1.out.free 0
  have f1 := X1.out.free 1
  have X2 := Lib.hid ((X1.out.set 0 (.slice A n' c)).set 1 (.slice B m' d))
  go_wp2_with fail
  generalize (w1.setCell ⟨w.heap.size, 0, none⟩ (.slice A n' c)).setCell ⟨w.heap.size, 1, none⟩ (.slice B m' d) = w2 at *
  clear c0 c1 f0 f1 X1
  refine (refCheck_any n' m' c d A B K U F e a _ HC.out L1.out L2.out (KK.out _ X2.out.below).1 (KK.out _ X2.out.below).2).mono ?_
  rintro e2 w3 ⟨rfl, b3⟩
  have X3 := Lib.hid (X2.out.keep b3)
  clear b3 X2
  have c0 := X3.out.cell 0 (v := .slice A n' c) rfl
  have c1 := X3.out.cell 1 (v := .slice B m' d) rfl
  by_cases he : e = 0
  · subst he
    obtain rfl := HC.out.zero
    obtain ⟨l, el⟩ : ∃ l, bby K U F n' m' = l := ⟨_, rfl⟩
    have E1 : Hid (∀ u, Below w.heap.size w u → Calls Try.prog 13 #[.agg #[.slice A n' c, .slice B m' d]] u (RetE l u)) := fun u hu => el ▸ encode_ok n' m' c d A B K U F u HC.out L1.out L2.out (KK.out _ hu).1 (KK.out _ hu).2
    have E2 : Hid (∀ u, Below w.heap.size w u → Calls Try.prog 14 #[.agg #[.slice A n' c, .slice B m' d]] u (RetE l u)) := fun u hu => el ▸ refEncode_any n' m' c d A B K U F u HC.out L1.out L2.out (KK.out _ hu).1 (KK.out _ hu).2
    obtain ⟨sq, es⟩ : ∃ sq, sb (fun i => l.getD i 0) l.length = sq := ⟨_, rfl⟩
    have ES := Lib.hid es
    clear el es HC KK L1 L2
    go_upto_region 5 with fail
    go_region_with
      (first
        | (go_at_call 13; ((with_reducible refine (E1.out w3.drew X3.out.drew.below).mono ?_)); rintro e w7 ⟨v7, rfl, r7, b7⟩; obtain ⟨A7, k7, rfl, -, -, q7⟩ := r7.bs; clear r7; have X7 := Lib.hid (X3.out.drew.keep b7); clear b7; have Q7 := Lib.hid q7; clear q7; have cv7 := conv_any Q7.out k7; rw [ES.out] at cv7; have c0 := X7.out.cell 0 (v := .slice A n' c) rfl; have c1 := X7.out.cell 1 (v := .slice B m' d) rfl)
        | (go_at_call 14; ((with_reducible refine (E2.out w7 X7.out.below).mono ?_)); rintro e w8 ⟨v8, rfl, r8, b8⟩; obtain ⟨A8, k8, rfl, -, -, q8⟩ := r8.bs; clear r8; have cv7 := conv_any (Q7.out.keep b8) k7; rw [ES.out] at cv7; have X8 := Lib.hid (X7.out.keep b8); clear b8; have cv8 := conv_any q8 k8; rw [ES.out] at cv8; clear q8; have c0 := X8.out.cell 0 (v := .slice A n' c) rfl; have c1 := X8.out.cell 1 (v := .slice B m' d) rfl)
        | (go_at_call 9; ((with_reducible refine (awake_any w8).mono ?_)); rintro e w9 ⟨rfl, b9⟩; have X9 := Lib.hid (X8.out.keep b9); clear b9))
    all_goals
      go_wp2
      go_ret
      exact Ret.mk rfl X9.out.below
  · have he1 : (e != 0) = true := by simp [he]
    have E1 := Lib.hid (encode_bad n' m' c d A B K U F e a _ HC.out he L1.out L2.out (KK.out _ X3.out.below).1 (KK.out _ X3.out.below).2)
    clear he HC KK L1 L2
    go_wp2_with fail
    refine E1.out.mono ?_
    rintro e3 w4 ⟨rfl, b4⟩
    have X4 := Lib.hid (X3.out.keep b4)
    clear b4 X3 c0 c1 E1
    go_wp2_with fail
    refine (awake_any _).mono ?_
    rintro e5 w5 ⟨rfl, b5⟩
    have X5 := Lib.hid (X4.out.keep b5)
    clear b5 X4
    go_wp2
    go_ret
    exact Ret.mk rfl X5.out.below
end Go.Proofs.Ytpgifcgidelmaaa
