/- Contracts, second part: the reference's At and Below; Below, Between. -/
import Derived.Test.YtlpoholdphihfaaRng
namespace Go.Proofs.Ytlpoholdphihfaa
open Go.RowKit
set_option linter.unusedVariables false

theorem wrap_one (n : Nat) : IntKind.u64.wrap ((n : Int) + 1) = (((n + 1) % 18446744073709551616 : Nat) : Int) := by
  rw [wrU]; omega

/-- The lower word of a product, as a name that no walk opens. -/
def tm (a b : Nat) : Nat := a * b % 18446744073709551616
theorem tm_lt (a b : Nat) : tm a b < 18446744073709551616 := by
  unfold tm
  exact Nat.mod_lt _ (by decide)
theorem times_of {x y : Int} {a b : Nat} (w : World) (hx : x = (a : Int)) (hy : y = (b : Int)) (ha : a < 18446744073709551616) (hb : b < 18446744073709551616) :
    Calls Try.prog 17 #[.int .u64 x, .int .u64 y] w (Ret (.int .u64 ((tm a b : Nat) : Int)) w) := by
  subst hx hy
  unfold tm
  exact times_any a b w ha hb
theorem z0_tm (s n : Nat) : IntKind.u64.wrap ((s : Int) + ((tm ((n + 1) % 18446744073709551616) 11400714819323198485 : Nat) : Int)) = ((z0 s n : Nat) : Int) := by
  unfold z0 tm
  rw [wrU, Int.natCast_emod (s + _), Int.natCast_add]
  rfl
theorem mx_tm (k c z : Nat) : mx k c z = tm (z ^^^ z / k) c := by
  unfold mx tm
  rfl
attribute [irreducible] tm
theorem xq {x : Int} {z : Nat} (h : IntKind.u64.wrap x = (z : Int)) (hz : z < 18446744073709551616) :
    bits .xor .u64 (IntKind.u64.wrap x) (IntKind.u64.wrap ((IntKind.u64.wrap x).tdiv 1073741824)) = ((z ^^^ z / 1073741824 : Nat) : Int) := by
  have e : IntKind.u64.wrap ((z : Int).tdiv 1073741824) = (z : Int) / 1073741824 := by
    rw [Int.tdiv_eq_ediv_of_nonneg (by omega), wrU]
    omega
  rw [h, e]
  exact xorShift_u64 z 1073741824 hz
theorem xq2 {z : Nat} (hz : z < 18446744073709551616) : bits .xor .u64 (z : Int) ((z : Int) / 134217728) = ((z ^^^ z / 134217728 : Nat) : Int) := xorShift_u64 z 134217728 hz
theorem times0 (n : Nat) (w : World) :
    Calls Try.prog 17 #[.int .u64 (IntKind.u64.wrap ((n : Int) + 1)), .int .u64 11400714819323198485] w (Ret (.int .u64 ((tm ((n + 1) % 18446744073709551616) 11400714819323198485 : Nat) : Int)) w) :=
  times_of w (wrap_one n) rfl (Nat.mod_lt _ (by decide)) (by decide)
theorem times1 {x : Int} {z : Nat} (w : World) (hx : x = ((z ^^^ z / 1073741824 : Nat) : Int)) (hz : z < 18446744073709551616) :
    Calls Try.prog 17 #[.int .u64 x, .int .u64 13787848793156543929] w (Ret (.int .u64 ((mx 1073741824 13787848793156543929 z : Nat) : Int)) w) := by
  rw [mx_tm]
  exact times_of w hx rfl (xs_lt _ hz) (by decide)
theorem times2 {x : Int} {z : Nat} (w : World) (hx : x = ((z ^^^ z / 134217728 : Nat) : Int)) (hz : z < 18446744073709551616) :
    Calls Try.prog 17 #[.int .u64 x, .int .u64 10723151780598845931] w (Ret (.int .u64 ((mx 134217728 10723151780598845931 z : Nat) : Int)) w) := by
  rw [mx_tm]
  exact times_of w hx rfl (xs_lt _ hz) (by decide)

set_option maxHeartbeats 400000 in
theorem refAt_any (s n : Nat) (w : World) (hs : s < 18446744073709551616) (hn : n < 18446744073709551616) :
    Calls Try.prog 10 #[.int .u64 (s : Int), .int .u64 (n : Int)] w (Ret (.int .u64 ((atN s n : Nat) : Int)) w) := by
  have H0 := Lib.hid (z0_tm s n)
  have L0 := Lib.hid (z0_lt s n)
  have E : Hid (atN s n = fin3 (mx 134217728 10723151780598845931 (mx 1073741824 13787848793156543929 (z0 s n)))) := by
    show _ = _
    unfold atN fin
    rfl
  generalize atN s n = R at *
  generalize z0 s n = Z at *
  go_enter Try.func10, Try.ntmps10
  go_wp2_with fail
  refine (times0 n _).mono ?_
  rintro e w1 ⟨rfl, b1⟩
  generalize tm ((n + 1) % 18446744073709551616) 11400714819323198485 = r1 at *
  go_wp2_with fail
  refine (times1 _ (xq H0.out L0.out) L0.out).mono ?_
  rintro e w2 ⟨rfl, b2⟩
  have L1 := Lib.hid (mx_lt 1073741824 13787848793156543929 Z)
  generalize mx 1073741824 13787848793156543929 Z = Z1 at *
  have l1 : Z1 < 18446744073709551616 := L1.out
  go_wp2_with fail
  refine (times2 _ (xq2 L1.out) L1.out).mono ?_
  rintro e w3 ⟨rfl, b3⟩
  have L2 := Lib.hid (mx_lt 134217728 10723151780598845931 Z1)
  generalize mx 134217728 10723151780598845931 Z1 = Z2 at *
  have l2 : Z2 < 18446744073709551616 := L2.out
  have B := Lib.hid ((b1.trans (b2.mono b1.size)).trans (b3.mono (b1.trans (b2.mono b1.size)).size))
  clear b1 b2 b3
  go_wp2
  go_ret
  refine Ret.mk (congrArg (Value.int .u64) ?_) B.out
  rw [E.out]
  exact fin3_arith L2.out

set_option maxHeartbeats 400000 in
theorem rngBelow_any (s n m : Nat) (w : World) (hs : s < 18446744073709551616) (hn : n < 18446744073709551616) (hm : m < 18446744073709551616) :
    Calls Try.prog 12 #[.int .u64 (s : Int), .int .u64 (n : Int), .int .u64 (m : Int)] w (Ret (.int .u64 ((belowN s n m : Nat) : Int)) w) := by
  have hl := atN_lt s n
  have HE : Hid (((atN s n * m / 18446744073709551616 : Nat) : Int) = ((belowN s n m : Nat) : Int)) := by
    show _ = _
    unfold belowN
    rfl
  go_enter Try.func12, Try.ntmps12
  go_wp2_with fail
  refine (rngAt_any s n _ hs hn).mono ?_
  rintro e w1 ⟨rfl, b1⟩
  generalize atN s n = z at *
  go_wp2_with fail
  refine (rngProduct_any z m _ hl hm).mono ?_
  rintro e w2 ⟨rfl, b2⟩
  have b3 := b1.trans (b2.mono b1.size)
  go_wp2
  go_ret
  exact Ret.mk (congrArg (Value.int .u64) HE.out) b3

set_option maxHeartbeats 400000 in
theorem refBelow_any (s n m : Nat) (w : World) (hs : s < 18446744073709551616) (hn : n < 18446744073709551616) (hm : m < 18446744073709551616) :
    Calls Try.prog 13 #[.int .u64 (s : Int), .int .u64 (n : Int), .int .u64 (m : Int)] w (Ret (.int .u64 ((belowN s n m : Nat) : Int)) w) := by
  have hl := atN_lt s n
  have HE : Hid (((atN s n * m / 18446744073709551616 : Nat) : Int) = ((belowN s n m : Nat) : Int)) := by
    show _ = _
    unfold belowN
    rfl
  go_enter Try.func13, Try.ntmps13
  go_wp2_with fail
  refine (refAt_any s n _ hs hn).mono ?_
  rintro e w1 ⟨rfl, b1⟩
  generalize atN s n = z at *
  go_wp2_with fail
  refine (refHigh_any z m _ hl hm).mono ?_
  rintro e w2 ⟨rfl, b2⟩
  have b3 := b1.trans (b2.mono b1.size)
  go_wp2
  go_ret
  exact Ret.mk (congrArg (Value.int .u64) HE.out) b3

end Go.Proofs.Ytlpoholdphihfaa
