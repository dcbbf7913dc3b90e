/- A Land that came in, as the walks are told of it; how lowered corners lower heights, and deepen the water. -/
import Derived.Test.YtcneilhhpblclaaHitsOpen
import Derived.Test.YtcneilhhpblclaaGr1
namespace Go.Proofs.Ytcneilhhpblclaa
open Go.ChangeShapes Go.WideShapes Go.ChangeAt Go.RowKit Go.Joins
set_option linter.unusedVariables false

theorem cellsLand : Try.prog.cellsOf 45 = 7 := by kernel_rfl
theorem cellsMapL : Try.prog.cellsOf 30 = 4 := by kernel_rfl
theorem cellsI64L : Try.prog.cellsOf 2 = 1 := by kernel_rfl
theorem cellsBytesL : Try.prog.cellsOf 28 = 1 := by kernel_rfl
theorem cellsHitsL : Try.prog.cellsOf 31 = 1 := by kernel_rfl
theorem land_open {H : Type} {enc : TypeId × Value → H} {w : World} {base : Nat} {spare : Nat → Bool} {held : Bool} {r : Reach} {b0 : Nat} {v : Value} {d : DataW H} {p : List MemPlace}
    (hv : Value.okWide Try.prog w r b0 45 v) (h : DataW.Trod enc Try.prog w base spare held 45 v d p) :
    ∃ W H0 T A n c f Ah nh kh hs x y, v = .agg #[.int .i64 W, .int .i64 H0, .int .i64 T, .slice A n c, .slice Ah nh kh, .int .i64 x, .int .i64 y] ∧ Bs w A n f ∧ (∀ i, f i < 256) ∧ n ≤ c ∧ c ≤ maxLen ∧ Hs w Ah nh hs ∧ nh ≤ kh ∧ kh ≤ maxLen
      ∧ (Lit.int .i64 x).wf = true ∧ (Lit.int .i64 y).wf = true := by
  obtain ⟨cs, rfl, hsz⟩ := okWide_struct Try.underlying45 hv
  obtain ⟨l⟩ := cs
  match l, hsz.trans cellsLand with
  | [c0, c1, c2, c3, c4, c5, c6], _ =>
    obtain ⟨fuel, hf⟩ := h
    obtain ⟨xs, n, _, hx, _, hlen, hg⟩ := DataW.trod_struct Try.underlying45 hf
    match xs, hlen with
    | [y0, y1, y2, y3], _ =>
      have g0 := hg 0 _ rfl
      have g1 := hg 1 _ rfl
      have g2 := hg 2 _ rfl
      have g3 := hg 3 _ rfl
      simp [Value.cells, cellsMapL, cellsI64L, cellsHitsL] at g0 g1 g2 g3
      obtain ⟨Ah, nh, kh, hs, e4, hh, hl4, hm4⟩ := hs_open g1
      obtain ⟨a5, e5, _, w5⟩ := DataW.trod_int Try.underlying2 g2
      obtain ⟨a6, e6, _, w6⟩ := DataW.trod_int Try.underlying2 g3
      obtain ⟨zs, n2, _, _, _, hl2, hg2⟩ := DataW.trod_struct Try.underlying30 g0
      match zs, hl2 with
      | [z0, z1, z2, z3], _ =>
        have k0 := hg2 0 _ rfl
        have k1 := hg2 1 _ rfl
        have k2 := hg2 2 _ rfl
        have k3 := hg2 3 _ rfl
        simp [cellsInt9, cellsBytesL] at k0 k1 k2 k3
        obtain ⟨a0, e0, _, _⟩ := DataW.trod_int Try.underlying3 k0
        obtain ⟨a1, e1, _, _⟩ := DataW.trod_int Try.underlying3 k1
        obtain ⟨a2, e2, _, _⟩ := DataW.trod_int Try.underlying3 k2
        obtain ⟨A, m, c, f, e3, hb, hp, hl, hm⟩ := bs_open k3
        simp at e0 e1 e2 e5 e6
        subst e0 e1 e2 e3 e4 e5 e6
        exact ⟨_, _, _, _, _, _, f, _, _, _, hs, _, _, rfl, hb, hp, hl, hm, hh, hl4, hm4, w5, w6⟩

/-! ### Lowered corners -/
theorem cr_le {p q : Nat → Nat} (h : ∀ i, q i ≤ p i) (W i j : Int) : cr q W i j ≤ cr p W i j := by
  unfold cr
  have := h (ix W i j)
  omega
theorem mix_le {a b a' b' u : Int} (u0 : 0 ≤ u) (u1 : u < 65536) (h1 : a ≤ a') (h2 : b ≤ b') : a * (65536 - u) + b * u ≤ a' * (65536 - u) + b' * u := by
  have e1 : a * (65536 - u) ≤ a' * (65536 - u) := Int.mul_le_mul_of_nonneg_right h1 (by omega)
  have e2 : b * u ≤ b' * u := Int.mul_le_mul_of_nonneg_right h2 u0
  omega
theorem hgt_le {a b c d a' b' c' d' u v : Int} (u0 : 0 ≤ u) (u1 : u < 65536) (v0 : 0 ≤ v) (v1 : v < 65536) (h1 : a ≤ a') (h2 : b ≤ b') (h3 : c ≤ c') (h4 : d ≤ d') : hgt a b c d u v ≤ hgt a' b' c' d' u v := by
  unfold hgt
  exact Int.ediv_le_ediv (by decide) (mix_le v0 v1 (mix_le u0 u1 h1 h2) (mix_le u0 u1 h3 h4))
theorem hAt_le {p q : Nat → Nat} (h : ∀ i, q i ≤ p i) (W : Int) {H x y : Int} (ho : On W H x y) : hAt q W x y ≤ hAt p W x y := by
  obtain ⟨-, -, -, -, u0, u1, v0, v1⟩ := on_cell ho
  unfold hAt
  exact hgt_le u0 u1 v0 v1 (cr_le h _ _ _) (cr_le h _ _ _) (cr_le h _ _ _) (cr_le h _ _ _)
theorem cLo_le {p q : Nat → Nat} (h : ∀ i, q i ≤ p i) (W i j : Int) : cLo q W i j ≤ cLo p W i j := by
  have h1 := cr_le h W i j
  have h2 := cr_le h W (i + 1) j
  have h3 := cr_le h W i (j + 1)
  have h4 := cr_le h W (i + 1) (j + 1)
  unfold cLo lo4
  omega
theorem dep_le {p q : Nat → Nat} (h : ∀ i, q i ≤ p i) (W T i j : Int) : dep p W T i j ≤ dep q W T i j := by
  have := cLo_le h W i j
  unfold dep
  split <;> split <;> omega
/-- What was open to ships stays open to them. -/
theorem ship_stays {p q : Nat → Nat} (h : ∀ i, q i ≤ p i) (W T i j : Int) (ho : opAt p W T 2 i j = true) : opAt q W T 2 i j = true := by
  have := dep_le h W T i j
  unfold opAt opn at *
  simp at ho ⊢
  omega
theorem air_open (p : Nat → Nat) (W T i j : Int) : opAt p W T 5 i j = true := by
  unfold opAt opn
  simp

end Go.Proofs.Ytcneilhhpblclaa
