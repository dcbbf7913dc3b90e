/- What each law of stage 10 begins or ends with: least, awake, Few. -/
import Derived.Test.YtpgifcgidelmaaaKg8
namespace Go.Proofs.Ytpgifcgidelmaaa
open Go.RowKit
set_option linter.unusedVariables false

abbrev leastF : Nat → Int := lst [0, 1, 0, 0, 0, 0, 0, 0, 0, 0, 1, 0, 0, 0, 0, 0, 0, 0, 255, 0]
theorem least_cells : kcs leastF = #[.int .i64 0, .int .i64 1, .int .i64 0, .int .i64 0, .int .i64 0, .int .i64 0, .int .i64 0, .int .i64 0, .int .i64 0, .int .i64 0, .int .i64 1, .int .i64 0, .int .i64 0, .int .i64 0, .int .i64 0, .int .i64 0, .int .i64 0, .int .i64 0, .int .i64 255, .int .i64 0] := rfl
theorem kn_new (W : World) (f : Nat → Int) : Kn (W.alloc (.cells (kcs f) 46)) (some ⟨W.heap.size, 0, none⟩) 1 (fun _ => f) := by
  intro _
  refine ⟨W.heap.size, 0, rfl, by simp, fun i hi j hj => ?_⟩
  obtain rfl : i = 0 := by omega
  rw [cell_new]
  have := kcs_at f j hj
  simpa using this

set_option maxRecDepth 100000 in
set_option maxHeartbeats 1000000 in
theorem least_any (w : World) : Calls Try.prog 18 #[] w fun e w' => ∃ g, e = .returned (.agg #[.slice (some ⟨g, 0, none⟩) 1 1, .slice none 0 0]) ∧ Kn w' (some ⟨g, 0, none⟩) 1 (fun _ => leastF) ∧ Below w.heap.size w w' := by
  have X := Lib.hid (Kx.new w 26 #[.slice none 0 0, .slice none 0 0])
  go_enter Try.func18, Try.ntmps18
  go_upto_region 1 with fail
  generalize w.alloc (.cells #[.slice none 0 0, .slice none 0 0] 26) = w0 at *
  have d0 := X.out.cell 0 (v := .slice none 0 0) rfl
  have d1 := X.out.cell 1 (v := .slice none 0 0) rfl
  have f0 := X.out.free 0
  have f1 := X.out.free 1
  have lt := X.out.lt
  have X2 := Lib.hid ((X.out.set 0 (.slice (some ⟨w0.heap.size, 0, none⟩) 1 1)).set 1 (.slice none 0 0))
  have HK := Lib.hid (kn_new ((w0.setCell ⟨w.heap.size, 0, none⟩ (.slice (some ⟨w0.heap.size, 0, none⟩) 1 1)).setCell ⟨w.heap.size, 1, none⟩ (.slice none 0 0)) leastF)
  rw [least_cells] at HK
  have hsz : ((w0.setCell ⟨w.heap.size, 0, none⟩ (.slice (some ⟨w0.heap.size, 0, none⟩) 1 1)).setCell ⟨w.heap.size, 1, none⟩ (.slice none 0 0)).heap.size = w0.heap.size := by simp
  rw [hsz] at HK
  clear hsz
  go_wp2
  have X3 := X2.out.alloc (.cells #[.int .i64 0, .int .i64 1, .int .i64 0, .int .i64 0, .int .i64 0, .int .i64 0, .int .i64 0, .int .i64 0, .int .i64 0, .int .i64 0, .int .i64 1, .int .i64 0, .int .i64 0, .int .i64 0, .int .i64 0, .int .i64 0, .int .i64 0, .int .i64 0, .int .i64 255, .int .i64 0] 46)
  refine bodyPost_ret (v := .agg #[.slice (some ⟨w0.heap.size, 0, none⟩) 1 1, .slice none 0 0]) (results_cell_row rfl _ _ w.heap.size 26 _ (0, 0) _ rfl X3.blk Try.underlying26 rfl Try.sizeBook) rfl ?_
  exact ⟨w0.heap.size, rfl, HK.out, X3.below⟩

/-- The bytes of the chapter's book. -/
abbrev leastL : List Nat := [1, 0, 0, 1, 0, 0, 0, 0, 0, 0, 0, 1, 0, 0, 0, 0, 0, 0, 0, 0, 0, 0, 0, 0, 0, 0, 0, 0, 255, 0, 0, 0, 0, 0, 0, 0, 0]
theorem least_fine : Chk 1 0 (fun _ => leastF) (fun _ _ => 0) 0 0 := by
  refine .fine (by decide) (by decide) (by decide) (fun j hj => ?_) (fun j hj => absurd hj (Nat.not_lt_zero _))
  show okK leastF ((0 : Nat) : Int) = true
  decide
theorem least_bytes : bby (fun _ => leastF) (fun _ _ => 0) (fun _ => false) 1 0 = leastL := by
  have h0 : spd 0 = 0 := (spd_in 0 (by decide) (by decide)).2.2.1 rfl
  have h2 : leastF 2 = 0 := rfl
  unfold bby kbys kby wbys kbys
  rw [h2, h0]
  decide
theorem wn_none (W : World) (U : Nat → Nat → Int) (F : Nat → Bool) (A : Option Addr) : Wn W A 0 U F := fun h => absurd h (Nat.lt_irrefl 0)
def p0 : Nat → Nat := fun i => leastL.getD i 0
theorem p0_lt (i : Nat) : p0 i < 256 := by
  unfold p0
  rcases Nat.lt_or_ge i 37 with h | h
  · have : ∀ j, j < 37 → leastL.getD j 0 < 256 := by decide
    exact this i h
  · simp [List.getD, List.getElem?_eq_none (show leastL.length ≤ i from h)]
def p1 : Nat → Nat := fun i => if i = 35 then 248 else if i = 36 then 127 else p0 i
theorem p1_lt (i : Nat) : p1 i < 256 := by
  unfold p1
  have := p0_lt i
  split
  · omega
  · split <;> omega
theorem dec_few : Dec p0 36 2 36 := .few (by decide) (by decide)
theorem dec_nan : Dec p1 37 14 29 := by
  have hb : num p1 29 8 = 9221120237041090560 := by decide
  have hE : kE p1 0 = 14 := by
    unfold kE kq
    show ofE (num p1 29 8) = 14
    rw [hb]
    exact if_pos (by decide)
  have h := Dec.kind (p := p1) (N := 37) 0 (by decide) (by decide) (by decide) (fun j hj => absurd hj (Nat.not_lt_zero _)) (by rw [hE]; decide)
  rw [hE] at h
  exact h
end Go.Proofs.Ytpgifcgidelmaaa
