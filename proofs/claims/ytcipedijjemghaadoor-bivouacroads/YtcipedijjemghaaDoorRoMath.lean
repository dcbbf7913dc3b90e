/- Plain mathematics of BivouacRoads: what is joined may be walked, and the other way round; a path's cells are open. -/
import Derived.Test.YtcipedijjemghaaDoorRtMath
import Derived.Test.YtcipedijjemghaaDoorGrMath
import Derived.Test.YtcipedijjemghaaDoorRt1
namespace Go.Proofs.YtcipedijjemghaaDoor
set_option linter.unusedVariables false

/-! ### A labelling there is -/
section
variable {adj : Nat → Nat → Prop} {g : Nat → Bool} {N : Nat}
theorem least_conn {k : Nat} (h : g k = true) : ∃ m, m ≤ k ∧ Conn adj g m k ∧ ∀ u, u < m → ¬ Conn adj g u k := least_of (Conn.refl h)
open Classical in
/-- The least number of those that are joined to it. -/
noncomputable def lab (adj : Nat → Nat → Prop) (g : Nat → Bool) (k : Nat) : Int := if h : g k = true then ((least_conn (adj := adj) h).choose : Int) else -1
theorem lab_spec {k : Nat} (h : g k = true) : ∃ m : Nat, lab adj g k = (m : Int) ∧ m ≤ k ∧ Conn adj g m k ∧ ∀ u, u < m → ¬ Conn adj g u k := by
  unfold lab
  rw [dif_pos h]
  exact ⟨_, rfl, (least_conn (adj := adj) h).choose_spec⟩
theorem lab_is (hs : ∀ a b, adj a b → adj b a) : IsLab adj g N (lab adj g) where
  shut k _ hg := by unfold lab; rw [dif_neg (by simp [hg])]
  free k _ hg := by
    obtain ⟨m, e, h1, h2, _⟩ := lab_spec (adj := adj) hg
    rw [e]
    exact ⟨by omega, by omega, by simpa using h2⟩
  same k m a hk hm := by
    obtain ⟨x, ex, _, x2, x3⟩ := lab_spec (adj := adj) hk
    obtain ⟨y, ey, _, y2, y3⟩ := lab_spec (adj := adj) hm
    rw [ex, ey]
    have h1 := x2.step a hm
    have h2 := y2.step (hs _ _ a) hk
    by_cases h : x < y
    · exact absurd h1 (y3 x h)
    · by_cases h' : y < x
      · exact absurd h2 (x3 y h')
      · have : x = y := by omega
        rw [this]
end

/-! ### Straight steps -/
section
variable {wd ht : Nat} {O : Nat → Bool}
theorem nat_of {k : Int} (h : isL (wd : Int) (ht : Int) O k) : k.toNat < wd * ht ∧ O k.toNat = true ∧ (k.toNat : Int) = k := by
  obtain ⟨h0, h1, h2⟩ := h
  rw [← Int.natCast_mul] at h1
  exact ⟨by omega, h2, by omega⟩
/-- Two cells beside one another in a row. -/
theorem row_adj {i j d : Int} (hd : d = 1 ∨ d = -1) (h1 : opL (wd : Int) (ht : Int) O i j = true) (h2 : opL (wd : Int) (ht : Int) O (i + d) j = true) : Adj wd (wd * ht) ((wd : Int) * j + i).toNat ((wd : Int) * j + (i + d)).toNat := by
  have q1 := nat_of (isL_at h1)
  have q2 := nat_of (isL_at h2)
  obtain ⟨⟨a0, a1, b0, b1⟩, _⟩ := opL_iff.1 h1
  obtain ⟨⟨c0, c1, _, _⟩, _⟩ := opL_iff.1 h2
  obtain ⟨m1, _⟩ := cell_of (j := j) a0 a1
  obtain ⟨m2, _⟩ := cell_of (j := j) c0 c1
  have e1 : ((((wd : Int) * j + i).toNat % wd : Nat) : Int) = i := by rw [Int.natCast_emod, q1.2.2, m1]
  have e2 : ((((wd : Int) * j + (i + d)).toNat % wd : Nat) : Int) = i + d := by rw [Int.natCast_emod, q2.2.2, m2]
  obtain ⟨x, hx⟩ : ∃ x, ((wd : Int) * j + i).toNat = x := ⟨_, rfl⟩
  obtain ⟨y, hy⟩ : ∃ y, ((wd : Int) * j + (i + d)).toNat = y := ⟨_, rfl⟩
  obtain ⟨z, hz⟩ : ∃ z, (wd : Int) * j = z := ⟨_, rfl⟩
  rw [hx] at q1 e1 ⊢
  rw [hy] at q2 e2 ⊢
  rw [hz] at hx hy
  obtain ⟨r1, hr1⟩ : ∃ r, x % wd = r := ⟨_, rfl⟩
  obtain ⟨r2, hr2⟩ : ∃ r, y % wd = r := ⟨_, rfl⟩
  have q11 := q1.1
  have q21 := q2.1
  have q13 := q1.2.2
  have q23 := q2.2.2
  rw [hz] at q13 q23
  obtain ⟨M, hM⟩ : ∃ M, wd * ht = M := ⟨_, rfl⟩
  unfold Adj
  rw [hM] at q11 q21 ⊢
  rw [hr1] at e1 ⊢
  rw [hr2] at e2 ⊢
  clear hr1 hr2 m1 m2 q1 q2 h1 h2 hM
  rcases hd with rfl | rfl
  · exact ⟨q11, q21, .inr (.inr (.inl ⟨by omega, by omega⟩))⟩
  · exact ⟨q11, q21, .inr (.inl ⟨by omega, by omega⟩)⟩
/-- Two cells beside one another in a column. -/
theorem col_adj {i j d : Int} (hd : d = 1 ∨ d = -1) (h1 : opL (wd : Int) (ht : Int) O i j = true) (h2 : opL (wd : Int) (ht : Int) O i (j + d) = true) : Adj wd (wd * ht) ((wd : Int) * j + i).toNat ((wd : Int) * (j + d) + i).toNat := by
  have q1 := nat_of (isL_at h1)
  have q2 := nat_of (isL_at h2)
  have e : (wd : Int) * (j + d) = (wd : Int) * j + (wd : Int) * d := Int.mul_add _ _ _
  have q13 := q1.2.2
  have q23 := q2.2.2
  have q11 := q1.1
  have q21 := q2.1
  clear q1 q2 h1 h2
  unfold Adj
  refine ⟨q11, q21, ?_⟩
  rw [e] at q23 ⊢
  clear q11 q21 e
  obtain ⟨z, hz⟩ : ∃ z, (wd : Int) * j = z := ⟨_, rfl⟩
  rw [hz] at q13 q23 ⊢
  rcases hd with rfl | rfl
  · rw [Int.mul_one] at q23 ⊢
    exact .inr (.inr (.inr (by omega)))
  · rw [show (wd : Int) * -1 = -(wd : Int) by omega] at q23 ⊢
    exact .inl (by omega)

/-! ### From a walk to labels -/
section
variable {L : Nat → Int}
theorem lab_row (hL : IsLab (Adj wd (wd * ht)) O (wd * ht) L) {i j d : Int} (hd : -1 ≤ d ∧ d ≤ 1) (h1 : opL (wd : Int) (ht : Int) O i j = true) (h2 : opL (wd : Int) (ht : Int) O (i + d) j = true) : L ((wd : Int) * j + (i + d)).toNat = L ((wd : Int) * j + i).toNat := by
  by_cases h0 : d = 0
  · rw [h0, Int.add_zero]
  · exact (hL.same _ _ (row_adj (by omega) h1 h2) (opL_iff.1 h1).2 (opL_iff.1 h2).2).symm
theorem lab_col (hL : IsLab (Adj wd (wd * ht)) O (wd * ht) L) {i j d : Int} (hd : -1 ≤ d ∧ d ≤ 1) (h1 : opL (wd : Int) (ht : Int) O i j = true) (h2 : opL (wd : Int) (ht : Int) O i (j + d) = true) : L ((wd : Int) * (j + d) + i).toNat = L ((wd : Int) * j + i).toNat := by
  by_cases h0 : d = 0
  · rw [h0, Int.add_zero]
  · exact (hL.same _ _ (col_adj (by omega) h1 h2) (opL_iff.1 h1).2 (opL_iff.1 h2).2).symm
theorem even_dir {s : Nat} (hs : s < 8) (h : s % 2 = 0) : dI s = 0 ∨ dJ s = 0 := by
  have h1 : s = 0 ∨ s = 2 ∨ s = 4 ∨ s = 6 := by omega
  rcases h1 with rfl | rfl | rfl | rfl <;> decide
theorem lab_step (hL : IsLab (Adj wd (wd * ht)) O (wd * ht) L) {k : Int} {s : Nat} (hs : s < 8) (h : 0 ≤ goL (wd : Int) (ht : Int) O k s) : L (goL (wd : Int) (ht : Int) O k s).toNat = L k.toNat := by
  obtain ⟨_, m1, e1⟩ := go_open h
  obtain ⟨a1, a2, a3⟩ := may_of m1
  rw [e1]
  have hk : (wd : Int) * (k / (wd : Int)) + k % (wd : Int) = k := cell_at k
  have hk' : L k.toNat = L ((wd : Int) * (k / (wd : Int)) + k % (wd : Int)).toNat := by rw [hk]
  rw [hk']
  rcases a3 with he | ⟨b1, b2⟩
  · rcases even_dir hs he with h0 | h0
    · rw [h0, Int.add_zero] at a2 ⊢
      exact lab_col hL (dJ_bd s) a1 a2
    · rw [h0, Int.add_zero] at a2 ⊢
      exact lab_row hL (dI_bd s) a1 a2
  · rw [← lab_row hL (dI_bd s) a1 b1]
    exact lab_col hL (dJ_bd s) b1 a2
theorem lab_walk (hL : IsLab (Adj wd (wd * ht)) O (wd * ht) L) {b k c : Int} (h : Wk (wd : Int) (ht : Int) O b k c) : L k.toNat = L b.toNat := by
  induction h with
  | here _ => rfl
  | step s hs e h0 _ ih =>
    rw [← ih, ← e]
    exact (lab_step hL hs (by rw [e]; exact h0)).symm

/-! ### From labels to a walk -/
theorem go_even {k x : Int} {s : Nat} (hs : s % 2 = 0) (hW : 1 ≤ (wd : Int)) (hk : isL (wd : Int) (ht : Int) O k) (hx : isL (wd : Int) (ht : Int) O x) (i0 : 0 ≤ k % (wd : Int) + dI s) (i1 : k % (wd : Int) + dI s < (wd : Int)) (e : x = (wd : Int) * (k / (wd : Int) + dJ s) + (k % (wd : Int) + dI s)) : goL (wd : Int) (ht : Int) O k s = x := by
  obtain ⟨m, q⟩ := cell_of (j := k / (wd : Int) + dJ s) i0 i1
  rw [← e] at m q
  have h1 := op_of hW hk
  have h2 := op_of hW hx
  rw [m, q] at h2
  unfold goL
  rw [if_pos (by unfold mayL; rw [h1, h2, decide_eq_true hs]; rfl), e]
  omega
theorem walk_adj (hW : 1 ≤ (wd : Int)) {r x y : Nat} {c : Int} (h : Wk (wd : Int) (ht : Int) O (r : Int) (x : Int) c) (a : Adj wd (wd * ht) x y) (hy : O y = true) : Wk (wd : Int) (ht : Int) O (r : Int) (y : Int) (c + 2) := by
  obtain ⟨ax, ay, ad⟩ := a
  have hyl : isL (wd : Int) (ht : Int) O (y : Int) := ⟨by omega, by rw [← Int.natCast_mul]; omega, by simpa using hy⟩
  have hxl := h.ends.1
  have key : ∃ s, s < 8 ∧ s % 2 = 0 ∧ goL (wd : Int) (ht : Int) O (y : Int) s = (x : Int) := by
    have hym := cell_at (W := (wd : Int)) (y : Int)
    have hyb : 0 ≤ (y : Int) % (wd : Int) ∧ (y : Int) % (wd : Int) < (wd : Int) := ⟨Int.emod_nonneg _ (by omega), Int.emod_lt_of_pos _ (by omega)⟩
    have e2 := Int.mul_add (wd : Int) ((y : Int) / (wd : Int))
    rcases ad with ad | ⟨ad, ap⟩ | ⟨ad, ap⟩ | ad
    · refine ⟨2, by decide, rfl, go_even rfl hW hyl hxl ?_ ?_ ?_⟩
      · rw [show dI 2 = 0 from rfl]; omega
      · rw [show dI 2 = 0 from rfl]; omega
      · rw [show dI 2 = 0 from rfl, show dJ 2 = 1 from rfl, e2, Int.mul_one]; omega
    · have hxm : 0 < (x : Int) % (wd : Int) := by rw [← Int.natCast_emod]; omega
      have hxc := cell_at (W := (wd : Int)) (x : Int)
      have hxb : (x : Int) % (wd : Int) < (wd : Int) := Int.emod_lt_of_pos _ (by omega)
      obtain ⟨m, q⟩ := cell_of (W := (wd : Int)) (i := (x : Int) % (wd : Int) - 1) (j := (x : Int) / (wd : Int)) (by omega) (by omega)
      rw [show (wd : Int) * ((x : Int) / (wd : Int)) + ((x : Int) % (wd : Int) - 1) = (y : Int) by omega] at m q
      refine ⟨0, by decide, rfl, go_even rfl hW hyl hxl ?_ ?_ ?_⟩
      · rw [show dI 0 = 1 from rfl]; omega
      · rw [show dI 0 = 1 from rfl]; omega
      · rw [show dI 0 = 1 from rfl, show dJ 0 = 0 from rfl, Int.add_zero]; omega
    · have hym' : 0 < (y : Int) % (wd : Int) := by rw [← Int.natCast_emod]; omega
      refine ⟨4, by decide, rfl, go_even rfl hW hyl hxl ?_ ?_ ?_⟩
      · rw [show dI 4 = -1 from rfl]; omega
      · rw [show dI 4 = -1 from rfl]; omega
      · rw [show dI 4 = -1 from rfl, show dJ 4 = 0 from rfl, Int.add_zero]; omega
    · refine ⟨6, by decide, rfl, go_even rfl hW hyl hxl ?_ ?_ ?_⟩
      · rw [show dI 6 = 0 from rfl]; omega
      · rw [show dI 6 = 0 from rfl]; omega
      · rw [show dI 6 = 0 from rfl, show dJ 6 = -1 from rfl, e2, show (wd : Int) * -1 = -(wd : Int) by omega]; omega
  obtain ⟨s, hs, he, hg⟩ := key
  have hp : prc s = 2 := by unfold prc; omega
  rw [← hp]
  exact Wk.step s hs hg (by omega) h
theorem conn_walk (hW : 1 ≤ (wd : Int)) {r k : Nat} (hr : r < wd * ht) (h : Conn (Adj wd (wd * ht)) O r k) : ∃ c, Wk (wd : Int) (ht : Int) O (r : Int) (k : Int) c :=
  h.2 (fun x => ∃ c, Wk (wd : Int) (ht : Int) O (r : Int) (x : Int) c) ⟨0, Wk.here ⟨by omega, by rw [← Int.natCast_mul]; omega, by simpa using h.1⟩⟩
    (fun a b ⟨c, hc⟩ hab hb => ⟨c + 2, walk_adj hW hc hab hb⟩)
/-- Two cells are joined just if one may be walked to from the other. -/
theorem joined_iff (hW : 1 ≤ (wd : Int)) (hL : IsLab (Adj wd (wd * ht)) O (wd * ht) L) {a b : Nat} (ha : a < wd * ht) (hb : b < wd * ht) : (L a ≠ -1 ∧ L a = L b) ↔ 0 ≤ cst (wd : Int) (ht : Int) O (b : Int) (a : Int) := by
  constructor
  · rintro ⟨h1, h2⟩
    have ga : O a = true := by
      cases h : O a with
      | false => exact absurd (hL.shut a ha h) h1
      | true => rfl
    have gb : O b = true := by
      cases h : O b with
      | false => exact absurd (h2.trans (hL.shut b hb h)) h1
      | true => rfl
    obtain ⟨a0, a1, ac⟩ := hL.free a ha ga
    obtain ⟨_, _, bc⟩ := hL.free b hb gb
    rw [← h2] at bc
    obtain ⟨c1, w1⟩ := conn_walk hW (by omega) ac
    obtain ⟨c2, w2⟩ := conn_walk hW (by omega) bc
    exact (cst_of (w1.trans w2.symm)).2.1
  · intro h
    have hw := cst_wk h
    have h1 := lab_walk hL hw
    simp only [Int.toNat_natCast] at h1
    have h2 := nat_of hw.ends.1
    simp only [Int.toNat_natCast] at h2
    have := (hL.free a ha h2.2.1).1
    exact ⟨by omega, h1⟩
end
end

/-! ### A path's cells -/
theorem pth_cells {W H : Int} {O : Nat → Bool} {b : Int} (hb : isL W H O b) {k : Int} {l : List Int} (h : Pth W H O (cst W H O b) b k l) : 1 ≤ l.length ∧ ∀ q, q < l.length → isL W H O (l.getD q 0) := by
  induction h with
  | last =>
    refine ⟨by simp, fun q hq => ?_⟩
    obtain rfl : q = 0 := by simpa using hq
    exact hb
  | @more k n l hp hn hl ih =>
    refine ⟨by simp, fun q hq => ?_⟩
    cases q with
    | zero => exact (cst_wk (W := W) (H := H) (O := O) (b := b) (k := k) (by omega)).ends.1
    | succ q => exact ih.2 q (by simpa using hq)
end Go.Proofs.YtcipedijjemghaaDoor
