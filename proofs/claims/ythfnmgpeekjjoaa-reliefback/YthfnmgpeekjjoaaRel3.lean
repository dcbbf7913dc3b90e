/- Contracts of package relief, third part: few, the reference's On, Corner and Height, cornersOf, between. -/
import Derived.Test.YthfnmgpeekjjoaaRel2
import Derived.RegionTactic
import Derived.BigRegion
namespace Go.Proofs.Ythfnmgpeekjjoaa
open Go.RowKit
set_option linter.unusedVariables false

set_option maxHeartbeats 400000 in
theorem refOn_any (W H T x y : Int) (A : Option Addr) (n c : Nat) (w : World) (hS : Sides W H T) (b : Bool) (hb : b = true ↔ On W H x y) :
    Calls Try.prog 11 #[.agg #[.int .i64 W, .int .i64 H, .int .i64 T, .slice A n c], .int .i64 x, .int .i64 y] w (Ret (.bool b) w) := by
  obtain ⟨hW1, hW2, hH1, hH2, hT, hT2⟩ := hS
  unfold On at hb
  rcases Int.lt_or_le x 0 with h1 | h1
  · have HB : Hid (b = false) := by show _ = _; rcases b with _ | _ <;> simp at hb ⊢; omega
    clear hb
    go_enter Try.func11, Try.ntmps11
    go_wp2
    go_ret
    exact Ret.mk (congrArg Value.bool HB.out.symm) ((Below.refl _ _).alloc (Nat.le_refl _) _)
  · rcases Int.lt_or_le x (W * 65536) with h2 | h2
    · rcases Int.lt_or_le y 0 with h3 | h3
      · have HB : Hid (b = false) := by show _ = _; rcases b with _ | _ <;> simp at hb ⊢; omega
        clear hb
        go_enter Try.func11, Try.ntmps11
        go_wp2
        go_ret
        exact Ret.mk (congrArg Value.bool HB.out.symm) ((Below.refl _ _).alloc (Nat.le_refl _) _)
      · rcases Int.lt_or_le y (H * 65536) with h4 | h4
        · have HB : Hid (b = true) := by show _ = _; rcases b with _ | _ <;> simp at hb ⊢; omega
          clear hb
          go_enter Try.func11, Try.ntmps11
          go_wp2
          go_ret
          exact Ret.mk (congrArg Value.bool HB.out.symm) ((Below.refl _ _).alloc (Nat.le_refl _) _)
        · have HB : Hid (b = false) := by show _ = _; rcases b with _ | _ <;> simp at hb ⊢; omega
          have hd : decide (y < H * 65536) = false := by simp; omega
          clear hb
          go_enter Try.func11, Try.ntmps11
          go_wp2
          go_ret
          exact Ret.mk (congrArg Value.bool HB.out.symm) ((Below.refl _ _).alloc (Nat.le_refl _) _)
    · have HB : Hid (b = false) := by show _ = _; rcases b with _ | _ <;> simp at hb ⊢; omega
      have hd : decide (x < W * 65536) = false := by simp; omega
      clear hb
      go_enter Try.func11, Try.ntmps11
      go_wp2
      go_ret
      exact Ret.mk (congrArg Value.bool HB.out.symm) ((Below.refl _ _).alloc (Nat.le_refl _) _)

/-- As many as are looked at. -/
def fewN (n : Nat) : Nat := if 4300 < n then 4300 else n
theorem fewN_le (n : Nat) : fewN n ≤ n ∧ fewN n ≤ 4300 := by unfold fewN; split <;> omega
set_option maxHeartbeats 400000 in
theorem few_any (W H T : Int) (A : Option Addr) (n c : Nat) (p : Nat → Nat) (w : World) (hb : Bs w A n p) (hn : n ≤ c) (hc : c ≤ maxLen) :
    Calls Try.prog 9 #[.agg #[.int .i64 W, .int .i64 H, .int .i64 T, .slice A n c]] w (Ret (.agg #[.int .i64 W, .int .i64 H, .int .i64 T, .slice A (fewN n) c]) w) := by
  unfold maxLen at hc
  by_cases h : 4300 < n
  · have HE : Hid (fewN n = 4300) := by show _ = _; unfold fewN; rw [if_pos h]
    obtain ⟨g, o, rfl, _, _⟩ := hb (by omega)
    clear hb
    have h' : (4300 : Int) < (n : Int) := by omega
    have hc0 : ¬ c = 0 := by omega
    have hc1 : (4300 : Int) ≤ (c : Int) := by omega
    go_enter Try.func9, Try.ntmps9
    go_wp2
    refine bodyPost_ret (v := .agg #[.int .i64 W, .int .i64 H, .int .i64 T, .slice (some ⟨g, o, none⟩) 4300 c]) (by simp [results, Try.results9, go_sem]) rfl ?_
    rw [HE.out]
    exact Ret.mk rfl (((Below.refl _ _).alloc (Nat.le_refl _) _).alloc (by simp) _)
  · have HE : Hid (fewN n = n) := by show _ = _; unfold fewN; rw [if_neg h]
    clear hb
    have h' : ¬ (4300 : Int) < (n : Int) := by omega
    go_enter Try.func9, Try.ntmps9
    go_wp2
    refine bodyPost_ret (v := .agg #[.int .i64 W, .int .i64 H, .int .i64 T, .slice A n c]) (by simp [results, Try.results9, go_sem]) rfl ?_
    rw [HE.out]
    exact Ret.mk rfl (((Below.refl _ _).alloc (Nat.le_refl _) _).alloc (by simp) _)

set_option maxHeartbeats 400000 in
theorem refCorner_any (W H T i j : Int) (A : Option Addr) (n c : Nat) (p : Nat → Nat) (w : World) (hb : Bs w A n p) (hp : ∀ i, p i < 256) (hv : Val W H T n) (i0 : 0 ≤ i) (i1 : i ≤ W) (j0 : 0 ≤ j) (j1 : j ≤ H) :
    Calls Try.prog 21 #[.agg #[.int .i64 W, .int .i64 H, .int .i64 T, .slice A n c], .int .i64 i, .int .i64 j] w (Ret (.int .i64 (cr p W i j)) w) := by
  obtain ⟨⟨hW1, hW2, hH1, hH2, hT, hT2⟩, he⟩ := hv
  obtain ⟨a0, a1, a2⟩ := ix_bd hW1 hW2 hH1 hH2 i0 i1 j0 j1
  rw [← he] at a2
  have hk : ix W i j < n := by unfold ix; omega
  obtain ⟨g, o, rfl, hg, hcell⟩ := hb (by omega)
  have hck := hcell _ hk
  have HE : Hid (((W + 1) * j + i).toNat = ix W i j) := rfl
  unfold ix at hck
  unfold cr
  rw [← HE.out]
  clear hcell hb hk he HE
  have a3 : 0 ≤ (W + 1) * j + i := by omega
  have v1 := hp ((W + 1) * j + i).toNat
  clear hp
  generalize (p ((W + 1) * j + i).toNat) = v at *
  have v2 : (v : Int) < 256 := by omega
  go_enter Try.func21, Try.ntmps21
  go_wp2
  go_ret
  exact Ret.mk rfl ((Below.refl _ _).alloc (Nat.le_refl _) _)

set_option maxHeartbeats 400000 in
theorem whole_any (a : Int) (w : World) :
    Calls Try.prog 30 #[.int .i64 a] w fun e w' => e = .returned (.int .i64 (a / 65536)) ∧ w = w' := by
  go_enter Try.func30, Try.ntmps30
  go_wp2
  go_ret
  exact ⟨rfl, rfl⟩
/-- The low sixteen bits of an int64 are its rest by 65536. -/
theorem and_low16 (a : Int) : bits BinOp.and IntKind.i64 a 65535 = a % 65536 := by
  have h1 : (BitVec.ofInt 64 a &&& BitVec.ofInt 64 65535).toNat = (a % 18446744073709551616).toNat % 65536 := by
    rw [BitVec.toNat_and, BitVec.toNat_ofInt, BitVec.toNat_ofInt]
    have := Nat.and_two_pow_sub_one_eq_mod (a % 18446744073709551616).toNat 16
    exact this
  have h2 : bits BinOp.and IntKind.i64 a 65535 = IntKind.i64.wrap (((BitVec.ofInt 64 a &&& BitVec.ofInt 64 65535).toNat : Nat) : Int) := rfl
  rw [h2, h1, IntWalk.i64_in _ (by omega)]
  omega
theorem int_back {x y : Int} (e : x = y) {k : IntKind} : Ending.returned (Value.int k x) = Ending.returned (Value.int k y) := congrArg (fun z => Ending.returned (Value.int k z)) e
set_option maxHeartbeats 400000 in
theorem part_any (a : Int) (w : World) :
    Calls Try.prog 32 #[.int .i64 a] w fun e w' => e = .returned (.int .i64 (a % 65536)) ∧ w = w' := by
  go_enter Try.func32, Try.ntmps32
  go_wp2
  go_ret
  exact ⟨int_back (and_low16 a), rfl⟩

set_option maxHeartbeats 400000 in
theorem between_any (a b c d u v : Int) (w : World) (a0 : 0 ≤ a) (a1 : a ≤ 255) (b0 : 0 ≤ b) (b1 : b ≤ 255) (c0 : 0 ≤ c) (c1 : c ≤ 255) (d0 : 0 ≤ d) (d1 : d ≤ 255) (u0 : 0 ≤ u) (u1 : u < 65536) (v0 : 0 ≤ v) (v1 : v < 65536) :
    Calls Try.prog 31 #[.agg #[.int .i64 a, .int .i64 b, .int .i64 c, .int .i64 d], .int .i64 u, .int .i64 v] w (Ret (.int .i64 (hgt a b c d u v)) w) := by
  obtain ⟨e1, e2⟩ := prod_bd a0 a1 (show 0 ≤ 65536 - u by omega) (show 65536 - u ≤ 65536 by omega)
  obtain ⟨e3, e4⟩ := prod_bd b0 b1 u0 (show u ≤ 65536 by omega)
  obtain ⟨e5, e6⟩ := prod_bd c0 c1 (show 0 ≤ 65536 - u by omega) (show 65536 - u ≤ 65536 by omega)
  obtain ⟨e7, e8⟩ := prod_bd d0 d1 u0 (show u ≤ 65536 by omega)
  obtain ⟨f1, f2⟩ := prod_bd (show 0 ≤ a * (65536 - u) + b * u by omega) (show a * (65536 - u) + b * u ≤ 33423360 by omega) (show 0 ≤ 65536 - v by omega) (show 65536 - v ≤ 65536 by omega)
  obtain ⟨f3, f4⟩ := prod_bd (show 0 ≤ c * (65536 - u) + d * u by omega) (show c * (65536 - u) + d * u ≤ 33423360 by omega) v0 (show v ≤ 65536 by omega)
  have HE : Hid (hgt a b c d u v = ((a * (65536 - u) + b * u) * (65536 - v) + (c * (65536 - u) + d * u) * v) / 65536) := rfl
  go_enter Try.func31, Try.ntmps31
  go_wp2
  go_ret
  exact Ret.mk (congrArg (Value.int .i64) HE.out.symm) ((Below.refl _ _).alloc (Nat.le_refl _) _)

end Go.Proofs.Ythfnmgpeekjjoaa
