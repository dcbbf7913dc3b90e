/- The law's awake. -/
import Derived.Test.YtoibbnkpfplmbaaCw11
namespace Go.Proofs.Ytoibbnkpfplmbaa
open Go.RowKit Go.Sort Go.Lib
set_option linter.unusedVariables false
set_option linter.unusedSimpArgs false
attribute [local go_sem] Oper.semAt_some

def tw15 (a b : Int) : Nat → Int := fun i => if i = 0 then a else b
def op15 : Nat → Bool := fun _ => true
theorem is_two {w : World} {g : Nat} {a b : Int} (h : w.heap[g]? = some (.cells #[.int .i64 a, .int .i64 b] 3 (0, 0))) : Is w (some ⟨g, 0, none⟩) 2 (tw15 a b) := by
  intro _
  refine ⟨g, 0, rfl, (Array.getElem?_eq_some_iff.1 h).1, fun i hi => ?_⟩
  rw [Nat.zero_add, cell_of_row w g i _ _ (0, 0) h]
  have : i = 0 ∨ i = 1 := by omega
  rcases this with rfl | rfl <;> rfl
theorem bo_three {w : World} {g : Nat} (h : w.heap[g]? = some (.cells #[.bool true, .bool true, .bool true] 4 (0, 0))) : Bo w (some ⟨g, 0, none⟩) 3 op15 := by
  intro _
  refine ⟨g, 0, rfl, (Array.getElem?_eq_some_iff.1 h).1, fun i hi => ?_⟩
  rw [Nat.zero_add, cell_of_row w g i _ _ (0, 0) h]
  have : i = 0 ∨ i = 1 ∨ i = 2 := by omega
  rcases this with rfl | rfl | rfl <;> rfl
theorem ok_two {a b c d : Int} (h1 : 0 ≤ a ∧ a < 3) (h2 : 0 ≤ b ∧ b < 3) (h3 : 0 ≤ c ∧ c < 3) (h4 : 0 ≤ d ∧ d < 3) (hne : a ≠ b) : Okc 3 3 2 2 (tw15 a b) (tw15 c d) := by
  refine ⟨by omega, by omega, rfl, by omega, rfl, fun i hi => ?_, fun i hi => ?_, fun i j hi hj hij _ => ?_⟩
  · unfold tw15; split <;> omega
  · unfold tw15; split <;> omega
  · have h5 : (i = 0 ∧ j = 1) ∨ (i = 1 ∧ j = 0) := by omega
    rcases h5 with ⟨rfl, rfl⟩ | ⟨rfl, rfl⟩ <;> simp [tw15] <;> omega
theorem settle_two (a b c d x y : Int) (h1 : 0 ≤ a ∧ a < 3) (h2 : 0 ≤ b ∧ b < 3) (h3 : 0 ≤ c ∧ c < 3) (h4 : 0 ≤ d ∧ d < 3) (hne : a ≠ b) (og wg ig : Nat) (w : World) (hO : w.heap[og]? = some (.cells #[.bool true, .bool true, .bool true] 4 (0, 0)))
    (hP : w.heap[wg]? = some (.cells #[.int .i64 a, .int .i64 b] 3 (0, 0))) (hW : w.heap[ig]? = some (.cells #[.int .i64 c, .int .i64 d] 3 (0, 0)))
    (hx : (finS 2 op15 (tw15 c d) (s0S (tw15 a b))).P 0 = x) (hy : (finS 2 op15 (tw15 c d) (s0S (tw15 a b))).P 1 = y) (p q : Bool) (hp : (finS 2 op15 (tw15 c d) (s0S (tw15 a b))).G 0 = p) (hq : (finS 2 op15 (tw15 c d) (s0S (tw15 a b))).G 1 = q) :
    Calls Try.prog 12 #[.int .i64 3, .slice (some ⟨og, 0, none⟩) 3 3, .slice (some ⟨wg, 0, none⟩) 2 2, .slice (some ⟨ig, 0, none⟩) 2 2] w fun e w' => ∃ g k gg gc, e = .returned (.tuple #[.slice (some ⟨g, 0, none⟩) 2 k, .slice (some ⟨gg, 0, none⟩) 2 gc, .int .i64 0]) ∧ Is w' (some ⟨g, 0, none⟩) 2 (tw15 x y) ∧ w'.cell? ⟨gg, 0, none⟩ = some (.bool p) ∧ w'.cell? ⟨gg, 1, none⟩ = some (.bool q) ∧ Below w.heap.size w w' ∧ 2 ≤ gc ∧ gc ≤ maxLen := by
  refine (settle15_ok 3 3 3 2 2 2 2 _ _ _ op15 (tw15 a b) (tw15 c d) w (bo_three hO) (is_two hP) (fun e => by cases e) (is_two hW) (ok_two h1 h2 h3 h4 hne)).mono ?_
  rintro e w' ⟨A, k, gA, gc, rfl, -, hI, hG, hb, -, -, hg1, hg2⟩
  obtain ⟨g, e1, -, -, hc, -⟩ := hI.at (show 0 < 2 by omega)
  obtain ⟨gg, e2, -, -, hd, -⟩ := hG.at (show 0 < 2 by omega)
  subst e1 e2
  refine ⟨g, k, gg, gc, rfl, hI.is.congr fun i hi => ?_, by rw [hd 0 (by omega), hp], by rw [hd 1 (by omega), hq], hb, hg1, hg2⟩
  have : i = 0 ∨ i = 1 := by omega
  rcases this with rfl | rfl
  · exact hx
  · exact hy
/-- Two rows beside what lies. -/
theorem two_rows {w X : World} {og : Nat} (h : Kx w og X 4 #[.bool true, .bool true, .bool true]) (a b c d : Int) :
    Kx w og ((X.alloc (.cells #[.int .i64 a, .int .i64 b] 3)).alloc (.cells #[.int .i64 c, .int .i64 d] 3)) 4 #[.bool true, .bool true, .bool true] ∧
      ((X.alloc (.cells #[.int .i64 a, .int .i64 b] 3)).alloc (.cells #[.int .i64 c, .int .i64 d] 3)).heap[X.heap.size]? = some (.cells #[.int .i64 a, .int .i64 b] 3 (0, 0)) ∧
      ((X.alloc (.cells #[.int .i64 a, .int .i64 b] 3)).alloc (.cells #[.int .i64 c, .int .i64 d] 3)).heap[X.heap.size + 1]? = some (.cells #[.int .i64 c, .int .i64 d] 3 (0, 0)) ∧
      Below X.heap.size X ((X.alloc (.cells #[.int .i64 a, .int .i64 b] 3)).alloc (.cells #[.int .i64 c, .int .i64 d] 3)) := by
  have e : (X.alloc (.cells #[.int .i64 a, .int .i64 b] 3)).heap.size = X.heap.size + 1 := by simp
  refine ⟨(h.alloc _).alloc _, ?_, ?_, (newBox _).trans ((newBox _).mono (by simp))⟩
  · rw [(newBox (w := X.alloc (.cells #[.int .i64 a, .int .i64 b] 3)) (.cells #[.int .i64 c, .int .i64 d] 3)).block X.heap.size (by rw [e]; omega)]
    exact World.alloc_heap_new X _
  · rw [← e]
    exact World.alloc_heap_new _ _
set_option maxRecDepth 100000 in
set_option maxHeartbeats 4000000 in
theorem awake15_any (w : World) : Calls Try.prog 11 #[] w (Ret (.bool true) w) := by
  have KO := Kx.new w 4 #[.bool true, .bool true, .bool true]
  obtain ⟨KA, hA1, hA2, -⟩ := two_rows KO 0 1 1 2
  rw [show (w.alloc (.cells #[.bool true, .bool true, .bool true] 4)).heap.size = w.heap.size + 1 by simp] at hA1 hA2
  have C1 := Lib.hid (settle_two 0 1 1 2 1 2 (by omega) (by omega) (by omega) (by omega) (by omega) w.heap.size (w.heap.size + 1) (w.heap.size + 1 + 1) _ KA.blk hA1 hA2 (by decide +kernel) (by decide +kernel) true true (by decide +kernel) (by decide +kernel))
  have HKA := Lib.hid KA
  clear KA hA1 hA2 KO
  go_enter Try.func11, Try.ntmps11
  go_wp2_with fail
  refine C1.out.mono ?_
  rintro e w1 ⟨g1, k1, gg, gc, rfl, hI, c0, c1, hb, hg1, hg2⟩
  obtain ⟨KB, hB1, hB2, bB⟩ := two_rows (HKA.out.keep hb) 0 1 1 0
  have HB := Lib.hid (And.intro (hI.keep bB) (And.intro (kc bB c0) (kc bB c1)))
  have C2 := Lib.hid (settle_two 0 1 1 0 0 1 (by omega) (by omega) (by omega) (by omega) (by omega) w.heap.size w1.heap.size (w1.heap.size + 1) _ KB.blk hB1 hB2 (by decide +kernel) (by decide +kernel) false false (by decide +kernel) (by decide +kernel))
  have HKB := Lib.hid KB
  clear KB hB1 hB2 bB hI c0 c1 hb C1 HKA
  go_wp2_with fail
  refine C2.out.mono ?_
  rintro e w2 ⟨g2, k2, gg2, gc2, rfl, hI2, -, -, hb, -, -⟩
  obtain ⟨KC, hC1, hC2, bC⟩ := two_rows (HKB.out.keep hb) 0 2 1 1
  have bC' := hb.trans (bC.mono hb.size)
  have HC := Lib.hid (And.intro (HB.out.1.keep bC') (And.intro (kc bC' HB.out.2.1) (And.intro (kc bC' HB.out.2.2) (hI2.keep bC))))
  have C3 := Lib.hid (settle_two 0 2 1 1 1 2 (by omega) (by omega) (by omega) (by omega) (by omega) w.heap.size w2.heap.size (w2.heap.size + 1) _ KC.blk hC1 hC2 (by decide +kernel) (by decide +kernel) true false (by decide +kernel) (by decide +kernel))
  have HKC := Lib.hid KC
  clear KC hC1 hC2 bC bC' hI2 hb C2 HKB HB
  go_wp2_with fail
  refine C3.out.mono ?_
  rintro e w3 ⟨g3, k3, gg3, gc3, rfl, hI3, -, -, hb, -, -⟩
  have K3 := Lib.hid (HKC.out.keep hb)
  have H3 := Lib.hid (And.intro (HC.out.1.keep hb) (And.intro (kc hb HC.out.2.1) (And.intro (kc hb HC.out.2.2.1) (And.intro (HC.out.2.2.2.keep hb) hI3))))
  have hgc := hg1
  unfold maxLen at hg2
  clear hb hI3 C3 HKC HC
  -- the first comparison
  have b3 := newBox (w := w3) (.cells #[.int .i64 1, .int .i64 2] 3)
  have S1 := Lib.hid (same15_any (some ⟨g1, 0, none⟩) (some ⟨w3.heap.size, 0, none⟩) 2 k1 2 (tw15 1 2) (w3.alloc (.cells #[.int .i64 1, .int .i64 2] 3)) (H3.out.1.keep b3) (is_two (World.alloc_heap_new _ _)) (by omega))
  have K4 := Lib.hid (K3.out.keep b3)
  have H4 := Lib.hid (And.intro (kc b3 H3.out.2.1) (And.intro (kc b3 H3.out.2.2.1) (And.intro (H3.out.2.2.2.1.keep b3) (H3.out.2.2.2.2.keep b3))))
  clear b3 H3 K3
  go_wp2_with fail
  refine S1.out.mono ?_
  rintro e w4 ⟨rfl, hb⟩
  have K5 := Lib.hid (K4.out.keep hb)
  have d0 := kc hb H4.out.1
  have d1 := kc hb H4.out.2.1
  have hb2 := hb.trans ((newBox (w := w4) (.cells #[.int .i64 0, .int .i64 1] 3)).mono hb.size)
  have S2 := Lib.hid (same15_any (some ⟨g2, 0, none⟩) (some ⟨w4.heap.size, 0, none⟩) 2 k2 2 (tw15 0 1) (w4.alloc (.cells #[.int .i64 0, .int .i64 1] 3)) (H4.out.2.2.1.keep hb2) (is_two (World.alloc_heap_new _ _)) (by omega))
  have H5 := Lib.hid (H4.out.2.2.2.keep hb2)
  have K6 := Lib.hid (K5.out.alloc (.cells #[.int .i64 0, .int .i64 1] 3))
  clear hb hb2 S1 K4 K5 H4
  go_wp2_with fail
  refine S2.out.mono ?_
  rintro e w5 ⟨rfl, hb⟩
  have hb2 := hb.trans ((newBox (w := w5) (.cells #[.int .i64 1, .int .i64 2] 3)).mono hb.size)
  have S3 := Lib.hid (same15_any (some ⟨g3, 0, none⟩) (some ⟨w5.heap.size, 0, none⟩) 2 k3 2 (tw15 1 2) (w5.alloc (.cells #[.int .i64 1, .int .i64 2] 3)) (H5.out.keep hb2) (is_two (World.alloc_heap_new _ _)) (by omega))
  have K7 := Lib.hid (K6.out.keep hb2)
  clear hb hb2 S2 K6 H5 d0 d1
  go_wp2_with fail
  refine S3.out.mono ?_
  rintro e w6 ⟨rfl, hb⟩
  have K8 := Lib.hid (K7.out.keep hb)
  clear hb S3 K7
  go_wp2_with fail
  go_ret
  exact Ret.mk rfl K8.out.below
end Go.Proofs.Ytoibbnkpfplmbaa
