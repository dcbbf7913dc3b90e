/- Contracts of package relief, third part: few, the reference's On, Corner and Height, cornersOf, between. -/
import Derived.Test.YtcneilhhpblclaaRel2
import Derived.RegionTactic
import Derived.BigRegion
namespace Go.Proofs.Ytcneilhhpblclaa
open Go.RowKit
set_option linter.unusedVariables false

/-- As many as are looked at. -/
def fewN (n : Nat) : Nat := if 4300 < n then 4300 else n
theorem fewN_le (n : Nat) : fewN n ≤ n ∧ fewN n ≤ 4300 := by unfold fewN; split <;> omega
set_option maxHeartbeats 400000 in
theorem whole_any (a : Int) (w : World) :
    Calls Try.prog 34 #[.int .i64 a] w fun e w' => e = .returned (.int .i64 (a / 65536)) ∧ w = w' := by
  go_enter Try.func34, Try.ntmps34
  go_wp2
  go_ret
  exact ⟨rfl, rfl⟩
/-- The low sixteen bits of an int64 are its rest by 65536. -/
theorem and_low16 (a : Int) : bits BinOp.and IntKind.i64 a 65535 = a % 65536 := by
  have h1 : (BitVec.ofInt 64 a &&& BitVec.ofInt 64 65535).toNat = (a % 18446744073709551616).toNat % 65536 := by
    rw [BitVec.toNat_and, BitVec.toNat_ofInt, BitVec.toNat_ofInt]
    have := Nat.and_two_pow_sub_one_eq_mod (a % 18446744073709551616).toNat 16
    exact this
  have h2 : bits BinOp.and IntKind.i64 a 65535 = IntKind.i64.wrap (((BitVec.ofInt 64 a &&& BitVec.ofInt 64 65535).toNat : Nat) : Int) := rfl
  rw [h2, h1, IntWalk.i64_in _ (by omega)]
  omega
theorem int_back {x y : Int} (e : x = y) {k : IntKind} : Ending.returned (Value.int k x) = Ending.returned (Value.int k y) := congrArg (fun z => Ending.returned (Value.int k z)) e
set_option maxHeartbeats 400000 in
theorem part_any (a : Int) (w : World) :
    Calls Try.prog 36 #[.int .i64 a] w fun e w' => e = .returned (.int .i64 (a % 65536)) ∧ w = w' := by
  go_enter Try.func36, Try.ntmps36
  go_wp2
  go_ret
  exact ⟨int_back (and_low16 a), rfl⟩

set_option maxHeartbeats 400000 in
theorem between_any (a b c d u v : Int) (w : World) (a0 : 0 ≤ a) (a1 : a ≤ 255) (b0 : 0 ≤ b) (b1 : b ≤ 255) (c0 : 0 ≤ c) (c1 : c ≤ 255) (d0 : 0 ≤ d) (d1 : d ≤ 255) (u0 : 0 ≤ u) (u1 : u < 65536) (v0 : 0 ≤ v) (v1 : v < 65536) :
    Calls Try.prog 35 #[.agg #[.int .i64 a, .int .i64 b, .int .i64 c, .int .i64 d], .int .i64 u, .int .i64 v] w (Ret (.int .i64 (hgt a b c d u v)) w) := by
  obtain ⟨e1, e2⟩ := prod_bd a0 a1 (show 0 ≤ 65536 - u by omega) (show 65536 - u ≤ 65536 by omega)
  obtain ⟨e3, e4⟩ := prod_bd b0 b1 u0 (show u ≤ 65536 by omega)
  obtain ⟨e5, e6⟩ := prod_bd c0 c1 (show 0 ≤ 65536 - u by omega) (show 65536 - u ≤ 65536 by omega)
  obtain ⟨e7, e8⟩ := prod_bd d0 d1 u0 (show u ≤ 65536 by omega)
  obtain ⟨f1, f2⟩ := prod_bd (show 0 ≤ a * (65536 - u) + b * u by omega) (show a * (65536 - u) + b * u ≤ 33423360 by omega) (show 0 ≤ 65536 - v by omega) (show 65536 - v ≤ 65536 by omega)
  obtain ⟨f3, f4⟩ := prod_bd (show 0 ≤ c * (65536 - u) + d * u by omega) (show c * (65536 - u) + d * u ≤ 33423360 by omega) v0 (show v ≤ 65536 by omega)
  have HE : Hid (hgt a b c d u v = ((a * (65536 - u) + b * u) * (65536 - v) + (c * (65536 - u) + d * u) * v) / 65536) := rfl
  go_enter Try.func35, Try.ntmps35
  go_wp2
  go_ret
  exact Ret.mk (congrArg (Value.int .i64) HE.out.symm) ((Below.refl _ _).alloc (Nat.le_refl _) _)

end Go.Proofs.Ytcneilhhpblclaa
