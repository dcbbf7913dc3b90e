/- Contracts of the law's helpers: awake. -/
import Derived.Test.YtkghjaodnkjmoaaNr20
namespace Go.Proofs.Ytkghjaodnkjmoaa
open Go.RowKit Go.Sort Go.Shelf
set_option linter.unusedVariables false

/-- '==' on two arrays of two. -/
theorem eq_two (a b c d : Int) (w : World) : (Op.equalIn 10000 47 (.agg #[.int .i64 a, .int .i64 b]) (.agg #[.int .i64 c, .int .i64 d])).run Try.prog w = .ok (a == c && b == d) w := by
  have u3 := Try.underlying3
  have a3 := Try.isAgg3
  have z3 := Try.sizeOf3
  rw [show (10000 : Nat) = 9999 + 1 from rfl, Op.equalIn]
  simp only [Sem.run_bind, run_underlying Try.underlying47, Result.andThen_ok]
  simp only [Std.Legacy.Range.forIn_eq_forIn_range', Std.Legacy.Range.size, Nat.sub_zero, Nat.add_sub_cancel, Nat.div_one, List.range'_succ, List.range'_zero, List.forIn_cons, List.forIn_nil]
  go_simp
  by_cases h1 : a = c <;> by_cases h2 : b = d <;> simp [h1, h2]
attribute [local go_sem] eq_two

def Xa (i : Nat) : Int := if i = 0 then 0 else 3
def Ya (i : Nat) : Int := if i = 0 then 0 else 4
theorem okA : oks Xa Ya 3 := by
  intro i _
  unfold Xa Ya
  split <;> decide
theorem wselA : wsel Xa Ya 3 0 0 5 0 = [0, 1, 2] := by decide
theorem pallA : pall Xa Ya 3 0 3 = [(1, 2)] := by decide
theorem mnA {m : Nat} (h : Mn Xa Ya 4 4 (List.range 3) m) : m = 1 := by
  obtain ⟨h1, h2⟩ := h
  have h1' : m < 3 := by simpa using h1
  have h3 := h2 1 (by simp)
  rcases h3 with h3 | h3
  · exact h3.symm
  · unfold nlt dst Xa Ya at h3
    match m, h1' with
    | 0, _ => simp at h3
    | 1, _ => rfl
    | 2, _ => simp at h3
theorem sp0 : sp 0 = true := by decide
theorem sp4 : sp 4 = true := by decide
theorem sp5 : sp 5 = true := by decide
set_option maxRecDepth 100000 in
set_option maxHeartbeats 2000000 in
theorem awake_any (w : World) : Calls Try.prog 9 #[] w (Ret (.bool true) w) := by
  have KX := Lib.hid (Kx.new w 46 #[.int .i64 0, .int .i64 0, .int .i64 3, .int .i64 4, .int .i64 3, .int .i64 4])
  have HP : Ps Xa Ya (w.alloc (.cells #[.int .i64 0, .int .i64 0, .int .i64 3, .int .i64 4, .int .i64 3, .int .i64 4] 46)) (some ⟨w.heap.size, 0, none⟩) 3 := by
    intro _
    refine ⟨w.heap.size, 0, rfl, by simp, fun i hi => ?_⟩
    rw [cell_new, cell_new]
    match i, hi with
    | 0, _ => exact ⟨rfl, rfl⟩
    | 1, _ => exact ⟨rfl, rfl⟩
    | 2, _ => exact ⟨rfl, rfl⟩
  have HN := Lib.hid (new_few Xa Ya (some ⟨w.heap.size, 0, none⟩) 3 3 _ (by decide) HP)
  clear HP
  go_enter Try.func9, Try.ntmps9
  go_wp2_with fail
  refine HN.out.mono ?_
  rintro e w1 ⟨b1, ⟨_, p, rfl, hI⟩ | ⟨ho, _⟩⟩
  case inr => exact absurd okA ho
  have HI : Hid (Ix Xa Ya w1 p 3) := hI w1 (Nat.le_refl _) (fun _ _ _ => rfl)
  have K1 := Lib.hid (KX.out.keep b1)
  clear b1 hI HN KX
  have WN := Lib.hid (withinM_any Xa Ya p 3 0 0 5 w1 HI.out okA (by decide))
  go_wp2_with fail
  refine WN.out.mono ?_
  rintro e w2 ⟨b2, ⟨hno, _⟩ | ⟨_, A, k, rfl, -⟩⟩
  case inl => exact absurd ⟨sp0, sp0, sp5⟩ hno
  rw [wselA]
  have K2 := Lib.hid (K1.out.keep b2)
  have HI2 := Lib.hid (HI.out.keep Xa Ya b2)
  clear b2 WN K1 HI
  have NN := Lib.hid (nearestM_any Xa Ya p 3 4 4 w2 HI2.out okA (by decide))
  go_wp2_with fail
  refine NN.out.mono ?_
  rintro e w3 ⟨b3, ⟨hno, _⟩ | ⟨_, h0, _⟩ | ⟨_, m, hm, rfl⟩⟩
  case inl => exact absurd ⟨sp4, sp4⟩ hno
  case inr.inl => cases h0
  obtain rfl := mnA hm
  have K3 := Lib.hid (K2.out.keep b3)
  have HI3 := Lib.hid (HI2.out.keep Xa Ya b3)
  clear b3 hm NN K2 HI2
  have PN := Lib.hid (pairs_any Xa Ya p 3 0 w3 HI3.out okA (by decide))
  go_wp2_with fail
  refine PN.out.mono ?_
  rintro e w4 ⟨b4, ⟨hno, _⟩ | ⟨_, A5, k5, rfl, _, _, hP⟩⟩
  case inl => cases hno
  rw [pallA] at hP ⊢
  have K4 := Lib.hid (K3.out.keep b4)
  obtain ⟨g5, o5, rfl, _, hc⟩ := hP (by simp)
  obtain ⟨c0, c1⟩ := hc 0 (1, 2) rfl
  simp only [Nat.zero_mul, Nat.add_zero] at c0 c1
  clear b4 hP hc PN K3 HI3
  go_wp2
  go_ret
  exact Ret.mk rfl K4.out.below
end Go.Proofs.Ytkghjaodnkjmoaa
