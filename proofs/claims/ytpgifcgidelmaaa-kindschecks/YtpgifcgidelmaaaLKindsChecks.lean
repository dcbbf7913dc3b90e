/- The walk of KindsChecks. -/
import Derived.Test.YtpgifcgidelmaaaKh3
namespace Go.Proofs.Ytpgifcgidelmaaa
open Go.RowKit
set_option linter.unusedVariables false

set_option maxHeartbeats 2000000 in
theorem walk_KindsChecks (A : Option Addr) (n c : Nat) (K : Nat → Nat → Int) (B : Option Addr) (m d : Nat) (U : Nat → Nat → Int) (F : Nat → Bool) (w : World) (hK : Kn w A n K) (hn : n ≤ c) (hc : c ≤ maxLen) (hW : Wn w B m U F) (hm : m ≤ d) (hd : d ≤ maxLen) :
    Calls Try.prog 4 #[.agg #[.slice A n c, .slice B m d]] w (Ret (.bool true) w) := by
  have HF := Lib.hid (fun u => few_any n c m d A B u hn hc hm hd hK.addr hW.addr)
  obtain ⟨e, a, hchk⟩ := chk_total (few n) (few m) K U
  have HC : Hid (∀ u, Below w.heap.size w u → Calls Try.prog 11 #[.agg #[.slice A (few n) c, .slice B (few m) d]] u (Ret (.tuple #[.int .i64 e, .int .i64 a]) u)) :=
    fun u hu => check_any (few n) (few m) c d A B K U F e a u hchk (by have := few_le n; unfold maxLen; omega) (by have := few_le m; unfold maxLen; omega) ((hK.keep hu).take (few_le n).1) ((hW.keep hu).take (few_le m).1)
  have HR : Hid (∀ u, Below w.heap.size w u → Calls Try.prog 12 #[.agg #[.slice A (few n) c, .slice B (few m) d]] u (Ret (.tuple #[.int .i64 e, .int .i64 a]) u)) :=
    fun u hu => refCheck_any (few n) (few m) c d A B K U F e a u hchk (by have := few_le n; unfold maxLen; omega) (by have := few_le m; unfold maxLen; omega) ((hK.keep hu).take (few_le n).1) ((hW.keep hu).take (few_le m).1)
  have X := Lib.hid (Kx.new w 26 #[.slice A n c, .slice B m d])
  clear hK hW hn hc hm hd hchk
  generalize few n = n' at *
  generalize few m = m' at *
  go_enter Try.func4, Try.ntmps4
  go_wp2_with fail
  refine (HF.out _).mono ?_
  rintro e1 w1 ⟨rfl, b1⟩
  have X1 := Lib.hid (X.out.keep b1)
  clear b1 X HF
  have c0 := X1.out.cell 0 (v := .slice A n c) rfl
  have c1 := X1.out.cell 1 (v := .slice B m d) rfl
  have f0 := X1.out.free 0
  have f1 := X1.out.free 1
  have X2 := Lib.hid ((X1.out.set 0 (.slice A n' c)).set 1 (.slice B m' d))
  go_wp2_with fail
  generalize (w1.setCell ⟨w.heap.size, 0, none⟩ (.slice A n' c)).setCell ⟨w.heap.size, 1, none⟩ (.slice B m' d) = w2 at *
  clear c0 c1 f0 f1 X1
  refine (HC.out _ X2.out.below).mono ?_
  rintro e2 w3 ⟨rfl, b3⟩
  have X3 := Lib.hid (X2.out.keep b3)
  clear b3 X2 HC
  have c0 := X3.out.cell 0 (v := .slice A n' c) rfl
  have c1 := X3.out.cell 1 (v := .slice B m' d) rfl
  go_wp2_with fail
  refine (HR.out _ X3.out.below).mono ?_
  rintro e2 w4 ⟨rfl, b4⟩
  have X4 := Lib.hid (X3.out.keep b4)
  clear b4 X3 HR c0 c1
  go_wp2_with fail
  refine (awake_any _).mono ?_
  rintro e5 w5 ⟨rfl, b5⟩
  have X5 := Lib.hid (X4.out.keep b5)
  clear b5 X4
  go_wp2
  go_ret
  exact Ret.mk (by simp) X5.out.below
end Go.Proofs.Ytpgifcgidelmaaa
