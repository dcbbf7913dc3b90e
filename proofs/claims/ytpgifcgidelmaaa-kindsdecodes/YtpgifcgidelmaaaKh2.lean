/- What each law of stage 10 ends with: awake. -/
import Derived.Test.YtpgifcgidelmaaaKh1
namespace Go.Proofs.Ytpgifcgidelmaaa
open Go.RowKit
set_option linter.unusedVariables false

theorem bs_two {X : World} {g : Nat} (h : ∀ i, i < 37 → X.cell? ⟨g, i, none⟩ = some (.int .u8 (p0 i : Int))) (hg : g < X.heap.size) : Bs ((X.setCell ⟨g, 35, none⟩ (.int .u8 248)).setCell ⟨g, 36, none⟩ (.int .u8 127)) (some ⟨g, 0, none⟩) 37 p1 := by
  intro _
  refine ⟨g, 0, rfl, by simpa using hg, fun i hi => ?_⟩
  rw [Nat.zero_add]
  by_cases h1 : i = 36
  · subst h1
    exact cell_set (cell_far (h 36 (by decide)) (by omega))
  · by_cases h2 : i = 35
    · subst h2
      exact cell_far (cell_set (h 35 (by decide))) (by omega)
    · have e : p1 i = p0 i := by unfold p1; rw [if_neg h2, if_neg h1]
      rw [e]
      exact cell_far (cell_far (h i hi) (by omega)) (by omega)

set_option maxRecDepth 100000 in
set_option maxHeartbeats 2000000 in
theorem awake_any (w : World) : Calls Try.prog 9 #[] w (Ret (.bool true) w) := by
  go_enter Try.func9, Try.ntmps9
  go_wp2_with fail
  refine (least_any _).mono ?_
  rintro e w1 ⟨g, rfl, hK, b1⟩
  have HK := Lib.hid hK
  have B1 := Lib.hid b1
  clear hK b1
  go_wp2_with fail
  refine (encode_ok 1 0 1 0 _ _ (fun _ => leastF) (fun _ _ => 0) (fun _ => false) _ least_fine (by simp [maxLen]) (by simp [maxLen]) HK.out (wn_none _ _ _ _)).mono ?_
  rintro e w2 ⟨v, rfl, hr, b2⟩
  rw [least_bytes] at hr
  obtain ⟨g2, k, hv, l1, l2, hB, hl, hc, hf⟩ := hr.some (by decide)
  rw [show leastL.length = 37 from rfl] at hv l1 hc
  subst hv
  have HC : Hid (∀ i, i < 37 → w2.cell? ⟨g2, i, none⟩ = some (.int .u8 (p0 i : Int))) := hc
  have HF := Lib.hid hf
  have HL := Lib.hid (And.intro l2 (And.intro hB hl))
  have B2 := Lib.hid (B1.out.trans (b2.mono B1.out.size))
  have HBs : Hid (Bs w2 (some ⟨g2, 0, none⟩) 36 p0) := fun _ => ⟨g2, 0, rfl, hl, fun i hi => by rw [Nat.zero_add]; exact hc i (by omega)⟩
  have kI : (36 : Int) ≤ (k : Int) := by omega
  have l1' : 37 ≤ k := l1
  have k0 : ¬ k = 0 := by omega
  clear hr b2 hc hf hB hl l2 l1 HK
  go_wp2_with fail
  refine (decode_any (some ⟨g2, 0, none⟩) 36 k p0 _ HBs.out p0_lt (by omega) HL.out.1).mono ?_
  rintro e w3 ⟨e', a', hD, b3, hcase⟩
  obtain ⟨rfl, rfl⟩ := hD.same dec_few
  rcases hcase with ⟨-, rfl⟩ | ⟨h, _⟩
  rotate_left
  · exact absurd h (by decide)
  have B3 := Lib.hid (B2.out.trans (b3.mono B2.out.size))
  have hl3 : g2 < w3.heap.size := Nat.lt_of_lt_of_le HL.out.2.2 b3.size
  have HC3 : Hid (∀ i, i < 37 → w3.cell? ⟨g2, i, none⟩ = some (.int .u8 (p0 i : Int))) := fun i hi => kc b3 (HC.out i hi)
  have c35 := HC3.out 35 (by decide)
  have c36 := HC3.out 36 (by decide)
  have f35 : w3.frozen? ⟨g2, 35, none⟩ = false := (b3.frozen (p := ⟨g2, 35, none⟩) HL.out.2.2).trans (HF.out 35)
  have f36 : w3.frozen? ⟨g2, 36, none⟩ = false := (b3.frozen (p := ⟨g2, 36, none⟩) HL.out.2.2).trans (HF.out 36)
  clear hD b3 HBs HC HF
  go_wp2_with fail
  have hwg : w.heap.size ≤ g2 := Nat.le_trans B1.out.size HL.out.2.1
  have HB4 := Lib.hid ((bs_two HC3.out hl3).keep (below_box (.cells #[.slice none 0 0, .slice none 0 0] 26)))
  have B4 : Hid (Below w.heap.size w (((w3.setCell ⟨g2, 35, none⟩ (.int .u8 248)).setCell ⟨g2, 36, none⟩ (.int .u8 127)).alloc (.cells #[.slice none 0 0, .slice none 0 0] 26))) :=
    ((B3.out.setCell (p := ⟨g2, 35, none⟩) hwg _).setCell (p := ⟨g2, 36, none⟩) hwg _).alloc (by have := B3.out.size; simp; omega) _
  clear c35 c36 f35 f36 HC3 B3 B2 B1 hwg hl3
  generalize ((w3.setCell ⟨g2, 35, none⟩ (.int .u8 248)).setCell ⟨g2, 36, none⟩ (.int .u8 127)).alloc (.cells #[.slice none 0 0, .slice none 0 0] 26) = w4 at *
  refine (decode_any (some ⟨g2, 0, none⟩) 37 k p1 _ HB4.out p1_lt l1' HL.out.1).mono ?_
  rintro e w5 ⟨e', a', hD, b5, hcase⟩
  obtain ⟨rfl, rfl⟩ := hD.same dec_nan
  rcases hcase with ⟨-, rfl⟩ | ⟨h, _⟩
  rotate_left
  · exact absurd h (by decide)
  have B5 := Lib.hid (B4.out.trans (b5.mono B4.out.size))
  obtain ⟨g', o', eg, hl5, hc5⟩ := (HB4.out.keep b5) (by decide)
  injection eg with eg
  injection eg with e1 e2
  subst e1 e2
  have q0 : w5.cell? ⟨g2, 0, none⟩ = some (.int .u8 1) := hc5 0 (by decide)
  have q1 : w5.cell? ⟨g2, 1, none⟩ = some (.int .u8 0) := hc5 1 (by decide)
  have q3 : w5.cell? ⟨g2, 3, none⟩ = some (.int .u8 1) := hc5 3 (by decide)
  clear hD b5 HB4 hc5 HL B4 kI l1' k0
  go_wp2
  go_ret
  exact Ret.mk rfl (B5.out.alloc B5.out.size _)
end Go.Proofs.Ytpgifcgidelmaaa
