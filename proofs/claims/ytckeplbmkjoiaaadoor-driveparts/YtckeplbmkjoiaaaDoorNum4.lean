/- Contracts of package num, fourth part: Mul and MulDiv. -/
import Derived.Test.YtckeplbmkjoiaaaDoorNum3
namespace Go.Proofs.YtckeplbmkjoiaaaDoor
open Go.RowKit
set_option linter.unusedVariables false

theorem divide_n (n b : Int) (w : World) (h0 : 0 ≤ n) (h1 : n ≤ 85070591730234615865843651857942052864) (h4 : 1 ≤ b) (h5 : b ≤ 9223372036854775808) :
    Calls Tryd.prog 68 #[.agg #[.int .u64 (whi n), .int .u64 (wlo n)], .int .u64 b] w
      (Ret (.tuple #[.agg #[.int .u64 (whi (n / b)), .int .u64 (wlo (n / b))], .int .u64 (n % b)]) w) := by
  have hW : Wide n := ⟨h0, by omega⟩
  have h := divide_any (whi n) (wlo n) b w (whi_lo hW) (whi_hi hW) (wlo_lo n) (wlo_hi n) h4 h5
  unfold divV at h
  rw [words n] at h
  exact h

theorem neg_mul_abs (a b : Int) : sgn (!decide (a < 0) == decide (b < 0)) ((a.natAbs : Int) * (b.natAbs : Int)) 0 = a * b := by
  unfold sgn
  rw [if_pos rfl]
  by_cases ha : a < 0 <;> by_cases hb : b < 0 <;> simp [ha, hb]
  · rw [show ((a.natAbs : Int)) = -a by omega, show ((b.natAbs : Int)) = -b by omega]; grind
  · rw [show ((a.natAbs : Int)) = -a by omega, show ((b.natAbs : Int)) = b by omega]; grind
  · rw [show ((a.natAbs : Int)) = a by omega, show ((b.natAbs : Int)) = -b by omega]; grind
  · rw [show ((a.natAbs : Int)) = a by omega, show ((b.natAbs : Int)) = b by omega]

theorem fdiv_down (x c : Int) (hx : 0 ≤ x) (hc : 1 ≤ c) : x.fdiv c = x / c ∧ (-x).fdiv c = (if x % c = 0 then -(x / c) else -(x / c + 1)) := by
  have e := Int.mul_ediv_add_emod x c
  have m0 := Int.emod_nonneg x (by omega : c ≠ 0)
  have m1 := Int.emod_lt_of_pos x (by omega : 0 < c)
  refine ⟨Int.fdiv_eq_ediv_of_nonneg x (by omega), ?_⟩
  generalize x / c = q at *
  generalize x % c = r at *
  split
  · apply fdiv_unique (by omega) <;> grind
  · apply fdiv_unique (by omega) <;> grind

theorem muldiv_abs (a b c : Int) (hc : c ≠ 0) :
    sgn (!(!decide (a < 0) == decide (b < 0)) == decide (c < 0)) ((a.natAbs : Int) * (b.natAbs : Int) / (c.natAbs : Int)) ((a.natAbs : Int) * (b.natAbs : Int) % (c.natAbs : Int)) = (a * b).fdiv c := by
  have hx : 0 ≤ (a.natAbs : Int) * (b.natAbs : Int) := Int.mul_nonneg (by omega) (by omega)
  have h := fdiv_down ((a.natAbs : Int) * (b.natAbs : Int)) (c.natAbs : Int) hx (by omega)
  have e : a * b = sgn (!decide (a < 0) == decide (b < 0)) ((a.natAbs : Int) * (b.natAbs : Int)) 0 := (neg_mul_abs a b).symm
  generalize (a.natAbs : Int) * (b.natAbs : Int) = x at *
  rw [e]
  unfold sgn at *
  rw [if_pos rfl] at e ⊢
  by_cases hcn : c < 0
  · have hcc : (c.natAbs : Int) = -c := by omega
    rw [hcc] at h ⊢
    cases (!decide (a < 0) == decide (b < 0))
    · simp [hcn]
      rw [← fdiv_neg_neg x c, h.2]
      simp
    · simp [hcn]
      rw [← fdiv_neg_neg (-x) c, Int.neg_neg, h.1]
      simp
  · have hcc : (c.natAbs : Int) = c := by omega
    rw [hcc] at h ⊢
    cases (!decide (a < 0) == decide (b < 0))
    · simp [hcn]
      rw [h.1]
    · simp [hcn]
      rw [h.2]

theorem abs_le (a : Int) (ha : -9223372036854775808 ≤ a) (ha' : a ≤ 9223372036854775807) : 0 ≤ (a.natAbs : Int) ∧ (a.natAbs : Int) ≤ 9223372036854775808 := by omega

theorem quot_le (n c : Int) (h0 : 0 ≤ n) (h1 : n ≤ 85070591730234615865843651857942052864) (hc : 0 ≤ c) : 0 ≤ n / c ∧ n / c ≤ 170141183460469231731687303715884105728 := by
  have h2 := Int.ediv_nonneg h0 hc
  have h3 := Int.ediv_le_self c h0
  omega

set_option maxHeartbeats 400000 in
theorem muldiv_any (a b c : Int) (w : World) (ha : -9223372036854775808 ≤ a) (ha' : a ≤ 9223372036854775807) (hb : -9223372036854775808 ≤ b) (hb' : b ≤ 9223372036854775807) (hc : -9223372036854775808 ≤ c) (hc' : c ≤ 9223372036854775807) :
    Calls Tryd.prog 64 #[.int .i64 a, .int .i64 b, .int .i64 c] w (Ret (.tuple #[.int .i64 (qV (a * b) c), .int .i64 (qE (a * b) c)]) w) := by
  by_cases h0 : c = 0
  · subst h0
    go_enter Tryd.func64, Tryd.ntmps64
    go_wp2
    go_ret2
    exact Ret.mk (two_eq rfl rfl) (Below.refl _ _)
  have A := Lib.hid (abs_le a ha ha')
  have B := Lib.hid (abs_le b hb hb')
  have C := Lib.hid (abs_le c hc hc')
  have C1 : Hid (1 ≤ (c.natAbs : Int)) := by show 1 ≤ (c.natAbs : Int); omega
  have P := Lib.hid (wide_product _ _ A.out.1 A.out.2 B.out.1 B.out.2)
  have Q := Lib.hid (quot_le _ (c.natAbs : Int) P.out.1.1 P.out.2 C.out.1)
  have E := Lib.hid (muldiv_abs a b c h0)
  have Z : Hid (qV (a * b) c = rV ((a * b).fdiv c) ∧ qE (a * b) c = rE ((a * b).fdiv c)) := ⟨if_neg h0, if_neg h0⟩
  have hcz : (c == 0) = false := beq_eq_false_iff_ne.2 h0
  clear h0
  go_enter Tryd.func64, Tryd.ntmps64
  go_wp2_with fail
  refine (signer_any _ _).mono ?_
  rintro e w1 ⟨rfl, rfl⟩
  go_wp2_with fail
  refine (size_any _ _ ha ha').mono ?_
  rintro e w2 ⟨rfl, b2⟩
  go_wp2_with fail
  refine (size_any _ _ hb hb').mono ?_
  rintro e w3 ⟨rfl, b3⟩
  go_wp2_with fail
  refine (product_any _ _ _ A.out.1 A.out.2 B.out.1 B.out.2).mono ?_
  rintro e w4 ⟨rfl, b4⟩
  go_wp2_with fail
  refine (size_any _ _ hc hc').mono ?_
  rintro e w5 ⟨rfl, b5⟩
  go_wp2_with fail
  refine (divide_n _ _ _ P.out.1.1 P.out.2 C1.out C.out.2).mono ?_
  rintro e w6 ⟨rfl, b6⟩
  go_wp2_with fail
  have b26 : Below (w.alloc (.cells #[.bool (!(!decide (a < 0) == decide (b < 0)) == decide (c < 0))] 4)).heap.size (w.alloc (.cells #[.bool (!(!decide (a < 0) == decide (b < 0)) == decide (c < 0))] 4)) w6 :=
    (((b2.trans (b3.mono b2.size)).trans (b4.mono (Nat.le_trans b2.size b3.size))).trans (b5.mono (Nat.le_trans b2.size (Nat.le_trans b3.size b4.size)))).trans (b6.mono (Nat.le_trans b2.size (Nat.le_trans b3.size (Nat.le_trans b4.size b5.size))))
  clear b2 b3 b4 b5 b6
  have hc6 : w6.cell? ⟨w.heap.size, 0, none⟩ = some (.bool (!(!decide (a < 0) == decide (b < 0)) == decide (c < 0))) := (b26.cell (p := ⟨w.heap.size, 0, none⟩) (by simp)).trans (by simp)
  have hz : w.heap.size < w6.heap.size := by have := b26.size; simp at this; omega
  refine (signed_any _ _ _ _ _ hc6 hz Q.out.1 Q.out.2).mono ?_
  rintro e w7 ⟨rfl, b7⟩
  have HB : Hid (Below w.heap.size w w7) := (below_of_box b26).trans (b7.mono (by omega))
  clear b26 b7 hc6
  go_wp2
  go_ret2
  refine Ret.mk ?_ HB.out
  rw [Z.out.1, Z.out.2, ← E.out]
  rfl

end Go.Proofs.YtckeplbmkjoiaaaDoor
