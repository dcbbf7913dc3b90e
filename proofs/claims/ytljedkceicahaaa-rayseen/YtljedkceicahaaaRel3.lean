/- Contracts of package relief, third part: few, the reference's On, Corner and Height, cornersOf, between. -/
import Derived.Test.YtljedkceicahaaaRel2
import Derived.RegionTactic
import Derived.BigRegion
namespace Go.Proofs.Ytljedkceicahaaa
open Go.RowKit
set_option linter.unusedVariables false

/-- As many as are looked at. -/
def fewN (n : Nat) : Nat := if 4300 < n then 4300 else n
theorem fewN_le (n : Nat) : fewN n ≤ n ∧ fewN n ≤ 4300 := by unfold fewN; split <;> omega
set_option maxHeartbeats 400000 in
theorem refCorner_any (W H T i j : Int) (A : Option Addr) (n c : Nat) (p : Nat → Nat) (w : World) (hb : Bs w A n p) (hp : ∀ i, p i < 256) (hv : Val W H T n) (i0 : 0 ≤ i) (i1 : i ≤ W) (j0 : 0 ≤ j) (j1 : j ≤ H) :
    Calls Try.prog 32 #[.agg #[.int .i64 W, .int .i64 H, .int .i64 T, .slice A n c], .int .i64 i, .int .i64 j] w (Ret (.int .i64 (cr p W i j)) w) := by
  obtain ⟨⟨hW1, hW2, hH1, hH2, hT, hT2⟩, he⟩ := hv
  obtain ⟨a0, a1, a2⟩ := ix_bd hW1 hW2 hH1 hH2 i0 i1 j0 j1
  rw [← he] at a2
  have hk : ix W i j < n := by unfold ix; omega
  obtain ⟨g, o, rfl, hg, hcell⟩ := hb (by omega)
  have hck := hcell _ hk
  have HE : Hid (((W + 1) * j + i).toNat = ix W i j) := rfl
  unfold ix at hck
  unfold cr
  rw [← HE.out]
  clear hcell hb hk he HE
  have a3 : 0 ≤ (W + 1) * j + i := by omega
  have v1 := hp ((W + 1) * j + i).toNat
  clear hp
  generalize (p ((W + 1) * j + i).toNat) = v at *
  have v2 : (v : Int) < 256 := by omega
  go_enter Try.func32, Try.ntmps32
  go_wp2
  go_ret
  exact Ret.mk rfl ((Below.refl _ _).alloc (Nat.le_refl _) _)

/-- The low sixteen bits of an int64 are its rest by 65536. -/
theorem and_low16 (a : Int) : bits BinOp.and IntKind.i64 a 65535 = a % 65536 := by
  have h1 : (BitVec.ofInt 64 a &&& BitVec.ofInt 64 65535).toNat = (a % 18446744073709551616).toNat % 65536 := by
    rw [BitVec.toNat_and, BitVec.toNat_ofInt, BitVec.toNat_ofInt]
    have := Nat.and_two_pow_sub_one_eq_mod (a % 18446744073709551616).toNat 16
    exact this
  have h2 : bits BinOp.and IntKind.i64 a 65535 = IntKind.i64.wrap (((BitVec.ofInt 64 a &&& BitVec.ofInt 64 65535).toNat : Nat) : Int) := rfl
  rw [h2, h1, IntWalk.i64_in _ (by omega)]
  omega
theorem int_back {x y : Int} (e : x = y) {k : IntKind} : Ending.returned (Value.int k x) = Ending.returned (Value.int k y) := congrArg (fun z => Ending.returned (Value.int k z)) e
end Go.Proofs.Ytljedkceicahaaa
