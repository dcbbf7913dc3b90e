/- The walk of FixLengths. -/
import Derived.Test.YtnneinjmdkoopaaAwake2
namespace Go.Proofs.Ytnneinjmdkoopaa
open Go.RowKit
set_option linter.unusedVariables false

/-- A length is no less than either side, and no more than both together. -/
theorem IsRoot.sides {p q r : Int} (h : IsRoot (p * p + q * q) r) (hp : 0 ≤ p) (hq : 0 ≤ q) : p ≤ r ∧ q ≤ r ∧ r ≤ p + q := by
  have r0 := h.pos
  have h1 := h.le
  have h2 := h.lt
  have p2 : 0 ≤ p * p := Int.mul_nonneg hp hp
  have q2 : 0 ≤ q * q := Int.mul_nonneg hq hq
  refine ⟨?_, ?_, ?_⟩
  · by_cases g : p ≤ r
    · exact g
    · have := sq_mono (a := r + 1) (b := p) (by omega) (by omega)
      omega
  · by_cases g : q ≤ r
    · exact g
    · have := sq_mono (a := r + 1) (b := q) (by omega) (by omega)
      omega
  · by_cases g : r ≤ p + q
    · exact g
    · have := sq_mono (a := p + q + 1) (b := r) (by omega) (by omega)
      have pq : 0 ≤ p * q := Int.mul_nonneg hp hq
      have e : (p + q + 1) * (p + q + 1) = p * p + q * q + 2 * (p * q) + 2 * p + 2 * q + 1 := by grind
      omega

set_option maxHeartbeats 1000000 in
theorem lengths_out (x y : Int) (w : World) (hn : ¬ Near2 x y) :
    Calls Try.prog 9 #[.int .i64 x, .int .i64 y] w (Ret (.bool true) w) := by
  have HN := Lib.hid hn
  by_cases c1 : x < -1073741824
  · clear hn
    go_enter Try.func9, Try.ntmps9
    go_wp2_with fail
    refine (length_over _ _ _ HN.out).mono ?_
    rintro e w1 ⟨rfl, b1⟩
    go_wp2_with fail
    refine (awake2_any _).mono ?_
    rintro e w4 ⟨rfl, b4⟩
    have HB : Hid (Below w.heap.size w w4) := b1.trans (b4.mono b1.size)
    clear b1 b4
    go_wp2
    go_ret
    exact Ret.mk rfl HB.out
  · by_cases c2 : 1073741824 < x
    · clear hn
      go_enter Try.func9, Try.ntmps9
      go_wp2_with fail
      refine (length_over _ _ _ HN.out).mono ?_
      rintro e w1 ⟨rfl, b1⟩
      go_wp2_with fail
      refine (awake2_any _).mono ?_
      rintro e w4 ⟨rfl, b4⟩
      have HB : Hid (Below w.heap.size w w4) := b1.trans (b4.mono b1.size)
      clear b1 b4
      go_wp2
      go_ret
      exact Ret.mk rfl HB.out
    · by_cases c3 : y < -1073741824
      · clear hn
        go_enter Try.func9, Try.ntmps9
        go_wp2_with fail
        refine (length_over _ _ _ HN.out).mono ?_
        rintro e w1 ⟨rfl, b1⟩
        go_wp2_with fail
        refine (awake2_any _).mono ?_
        rintro e w4 ⟨rfl, b4⟩
        have HB : Hid (Below w.heap.size w w4) := b1.trans (b4.mono b1.size)
        clear b1 b4
        go_wp2
        go_ret
        exact Ret.mk rfl HB.out
      · have c4 : 1073741824 < y := by unfold Near2 at hn; omega
        clear hn
        go_enter Try.func9, Try.ntmps9
        go_wp2_with fail
        refine (length_over _ _ _ HN.out).mono ?_
        rintro e w1 ⟨rfl, b1⟩
        go_wp2_with fail
        refine (awake2_any _).mono ?_
        rintro e w4 ⟨rfl, b4⟩
        have HB : Hid (Below w.heap.size w w4) := b1.trans (b4.mono b1.size)
        clear b1 b4
        go_wp2
        go_ret
        exact Ret.mk rfl HB.out

set_option maxHeartbeats 1000000 in
theorem lengths_pp (p q : Int) (w : World) (hp : 0 ≤ p) (hq : 0 ≤ q) (hp' : p ≤ 1073741824) (hq' : q ≤ 1073741824) :
    Calls Try.prog 9 #[.int .i64 p, .int .i64 q] w (Ret (.bool true) w) := by
  have hN : Near2 p q := by unfold Near2; omega
  obtain ⟨s0, s1, s2, s3⟩ := hN.sq
  clear hN
  have HN : Hid (Near2 p q) := by show Near2 _ _; unfold Near2; omega
  go_enter Try.func9, Try.ntmps9
  go_wp2_with fail
  refine (length_in _ _ _ HN.out).mono ?_
  rintro e w1 ⟨r, hr, rfl, hr2, rfl⟩
  have hr0 := hr.pos
  obtain ⟨k0, k1, k2⟩ := hr.sides (by omega) (by omega)
  have HR := Lib.hid hr
  clear hr
  go_wp2_with fail
  refine (root_any (p * p + q * q) _ (by omega) (by omega)).mono ?_
  rintro e w3 ⟨s, hs, rfl, hs2, rfl⟩
  obtain rfl : r = s := HR.out.same hs
  clear hs hs2
  go_wp2_with fail
  refine (awake2_any _).mono ?_
  rintro e w4 ⟨rfl, b4⟩
  have HB := Lib.hid b4
  clear b4
  go_wp2
  go_ret
  exact Ret.mk rfl HB.out

set_option maxHeartbeats 1000000 in
theorem lengths_np (p q : Int) (w : World) (hp : 0 < p) (hq : 0 ≤ q) (hp' : p ≤ 1073741824) (hq' : q ≤ 1073741824) :
    Calls Try.prog 9 #[.int .i64 (-p), .int .i64 q] w (Ret (.bool true) w) := by
  have hN : Near2 p q := by unfold Near2; omega
  obtain ⟨s0, s1, s2, s3⟩ := hN.sq
  clear hN
  have HN : Hid (Near2 (-p) q) := by show Near2 _ _; unfold Near2; omega
  have HE : Hid ((-p) * (-p) + q * q = p * p + q * q) := by show _ = _; grind
  go_enter Try.func9, Try.ntmps9
  go_wp2_with fail
  refine (length_in _ _ _ HN.out).mono ?_
  rw [HE.out]
  rintro e w1 ⟨r, hr, rfl, hr2, rfl⟩
  have hr0 := hr.pos
  obtain ⟨k0, k1, k2⟩ := hr.sides (by omega) (by omega)
  have HR := Lib.hid hr
  clear hr
  go_wp2_with fail
  refine (root_any (p * p + q * q) _ (by omega) (by omega)).mono ?_
  rintro e w3 ⟨s, hs, rfl, hs2, rfl⟩
  obtain rfl : r = s := HR.out.same hs
  clear hs hs2
  go_wp2_with fail
  refine (awake2_any _).mono ?_
  rintro e w4 ⟨rfl, b4⟩
  have HB := Lib.hid b4
  clear b4
  go_wp2
  go_ret
  exact Ret.mk rfl HB.out

set_option maxHeartbeats 1000000 in
theorem lengths_pn (p q : Int) (w : World) (hp : 0 ≤ p) (hq : 0 < q) (hp' : p ≤ 1073741824) (hq' : q ≤ 1073741824) :
    Calls Try.prog 9 #[.int .i64 p, .int .i64 (-q)] w (Ret (.bool true) w) := by
  have hN : Near2 p q := by unfold Near2; omega
  obtain ⟨s0, s1, s2, s3⟩ := hN.sq
  clear hN
  have HN : Hid (Near2 p (-q)) := by show Near2 _ _; unfold Near2; omega
  have HE : Hid (p * p + (-q) * (-q) = p * p + q * q) := by show _ = _; grind
  go_enter Try.func9, Try.ntmps9
  go_wp2_with fail
  refine (length_in _ _ _ HN.out).mono ?_
  rw [HE.out]
  rintro e w1 ⟨r, hr, rfl, hr2, rfl⟩
  have hr0 := hr.pos
  obtain ⟨k0, k1, k2⟩ := hr.sides (by omega) (by omega)
  have HR := Lib.hid hr
  clear hr
  go_wp2_with fail
  refine (root_any (p * p + q * q) _ (by omega) (by omega)).mono ?_
  rintro e w3 ⟨s, hs, rfl, hs2, rfl⟩
  obtain rfl : r = s := HR.out.same hs
  clear hs hs2
  go_wp2_with fail
  refine (awake2_any _).mono ?_
  rintro e w4 ⟨rfl, b4⟩
  have HB := Lib.hid b4
  clear b4
  go_wp2
  go_ret
  exact Ret.mk rfl HB.out

set_option maxHeartbeats 1000000 in
theorem lengths_nn (p q : Int) (w : World) (hp : 0 < p) (hq : 0 < q) (hp' : p ≤ 1073741824) (hq' : q ≤ 1073741824) :
    Calls Try.prog 9 #[.int .i64 (-p), .int .i64 (-q)] w (Ret (.bool true) w) := by
  have hN : Near2 p q := by unfold Near2; omega
  obtain ⟨s0, s1, s2, s3⟩ := hN.sq
  clear hN
  have HN : Hid (Near2 (-p) (-q)) := by show Near2 _ _; unfold Near2; omega
  have HE : Hid ((-p) * (-p) + (-q) * (-q) = p * p + q * q) := by show _ = _; grind
  go_enter Try.func9, Try.ntmps9
  go_wp2_with fail
  refine (length_in _ _ _ HN.out).mono ?_
  rw [HE.out]
  rintro e w1 ⟨r, hr, rfl, hr2, rfl⟩
  have hr0 := hr.pos
  obtain ⟨k0, k1, k2⟩ := hr.sides (by omega) (by omega)
  have HR := Lib.hid hr
  clear hr
  go_wp2_with fail
  refine (root_any (p * p + q * q) _ (by omega) (by omega)).mono ?_
  rintro e w3 ⟨s, hs, rfl, hs2, rfl⟩
  obtain rfl : r = s := HR.out.same hs
  clear hs hs2
  go_wp2_with fail
  refine (awake2_any _).mono ?_
  rintro e w4 ⟨rfl, b4⟩
  have HB := Lib.hid b4
  clear b4
  go_wp2
  go_ret
  exact Ret.mk rfl HB.out

theorem walk_FixLengths (x y : Int) (h0 : (Lit.int .i64 x).wf = true) (h1 : (Lit.int .i64 y).wf = true) (w : World) :
    Calls Try.prog 9 #[.int .i64 x, .int .i64 y] w (Ret (.bool true) w) := by
  by_cases hn : Near2 x y
  · unfold Near2 at hn
    obtain ⟨n0, n1, n2, n3⟩ := hn
    by_cases hx : x < 0 <;> by_cases hy : y < 0
    · have := lengths_nn (-x) (-y) w (by omega) (by omega) (by omega) (by omega)
      rw [Int.neg_neg, Int.neg_neg] at this
      exact this
    · have := lengths_np (-x) y w (by omega) (by omega) (by omega) (by omega)
      rw [Int.neg_neg] at this
      exact this
    · have := lengths_pn x (-y) w (by omega) (by omega) (by omega) (by omega)
      rw [Int.neg_neg] at this
      exact this
    · exact lengths_pp x y w (by omega) (by omega) (by omega) (by omega)
  · exact lengths_out x y w hn

end Go.Proofs.Ytnneinjmdkoopaa
