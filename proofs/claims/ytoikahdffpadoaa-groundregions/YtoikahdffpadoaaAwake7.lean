/- law07's awake: the chapter's examples hold. -/
import Derived.Test.YtoikahdffpadoaaGr9
namespace Go.Proofs.Ytoikahdffpadoaa
open Go.RowKit
set_option linter.unusedVariables false

theorem Try.infoU : (Try.prog.info? 5).map (fun i => (i.zero, i.size, i.bytes)) = some (some (.int .u8 0), 1, 1) := by kernel_rfl
/-- The chapter's corners. -/
def zf (i : Nat) : Nat := 0
theorem zf_bd (i : Nat) : zf i < 256 := by unfold zf; omega
theorem zf_val : Val ((2 : Nat) : Int) ((1 : Nat) : Int) 16 6 := ⟨by decide, by decide⟩
theorem zf_made (w : World) (o : Obj) : Bs ((w.alloc (.cells (madeCells #[.int .u8 0] 6) 5)).alloc o) (some ⟨w.heap.size, 0, none⟩) 6 zf := by
  intro _
  refine ⟨w.heap.size, 0, rfl, by simp; omega, fun i hi => ?_⟩
  rw [Nat.zero_add, cell_old _ _ _ _ (by simp), cell_new _ _ _ _ _ rfl, ← Array.getElem?_toList, toList_madeCells_one, List.getElem?_replicate, if_pos hi]
  rfl
theorem zf_a : opAt zf 2 16 0 0 0 = false := by decide +kernel
theorem zf_b : opAt zf 2 16 2 1 0 = true := by decide +kernel
theorem zf_g0 : gr zf 2 16 2 0 = true := by decide +kernel
theorem zf_g1 : gr zf 2 16 2 1 = true := by decide +kernel
theorem zf_lab {R : Nat → Int} (h : IsLab (Adj 2 2) (gr zf 2 16 2) 2 R) : R 0 = 0 ∧ R 1 = 0 := by
  have h0 := h.free 0 (by omega) zf_g0
  have h1 := h.same 0 1 ⟨by omega, by omega, .inr (.inr (.inl ⟨rfl, by decide⟩))⟩ zf_g0 zf_g1
  omega
theorem zf_j1 {R : Nat → Int} (h : R 0 = 0 ∧ R 1 = 0) : jn R 2 0 1 = true := by simp [jn, h.1, h.2]
theorem zf_j2 (R : Nat → Int) : jn R 2 0 2 = false := by simp [jn]

set_option maxRecDepth 100000 in
set_option maxHeartbeats 1000000 in
theorem awake_any (w : World) : Calls Try.prog 9 #[] w (Ret (.bool true) w) := by
  have m6 : 6 ≤ maxLen := by simp [maxLen]
  have hmk : ∀ w : World, (Instr.makeSlice 23 (.int .i64 6) (.int .i64 6)).run Try.prog w = .ok (.slice (some ⟨w.heap.size, 0, none⟩) 6 6) (w.alloc (.cells (madeCells #[.int .u8 0] 6) 5)) :=
    run_make_row' (P := Try.prog) 23 5 (.int .u8 0) 1 Try.underlying23 Try.infoU rfl .i64 .i64 6 (by omega) (by omega)
  have C1 : Hid (∀ A u, Bs u A 6 zf → Calls Try.prog 11 #[.agg #[.int .i64 2, .int .i64 1, .int .i64 16, .slice A 6 6], .int .i64 0, .int .i64 0, .int .i64 0] u (Ret (.tuple #[.bool false, .int .i64 0]) u)) := by
    intro A u hb
    have h := open_in 2 1 16 0 0 0 A 6 6 zf u m6 hb zf_bd zf_val (by decide) (by omega) (by omega) (by omega) (by omega)
    rw [zf_a] at h
    exact h
  have C2 : Hid (∀ A u, Bs u A 6 zf → Calls Try.prog 11 #[.agg #[.int .i64 2, .int .i64 1, .int .i64 16, .slice A 6 6], .int .i64 2, .int .i64 1, .int .i64 0] u (Ret (.tuple #[.bool true, .int .i64 0]) u)) := by
    intro A u hb
    have h := open_in 2 1 16 2 1 0 A 6 6 zf u m6 hb zf_bd zf_val (by decide) (by omega) (by omega) (by omega) (by omega)
    rw [zf_b] at h
    exact h
  have C3 : Hid (∀ A u, Bs u A 6 zf → Calls Try.prog 16 #[.agg #[.int .i64 2, .int .i64 1, .int .i64 16, .slice A 6 6], .int .i64 2] u (RetReg 2 2 (gr zf 2 16 2) u)) := by
    intro A u hb
    exact regions_in 2 1 16 2 A 6 6 zf u m6 hb zf_bd zf_val (by decide)
  have C4 : Hid (∀ A u R, IsLab (Adj 2 2) (gr zf 2 16 2) 2 R → Bs u A 6 zf → Calls Try.prog 17 #[.agg #[.int .i64 2, .int .i64 1, .int .i64 16, .slice A 6 6], .int .i64 2, .int .i64 0, .int .i64 1] u (Ret (.bool true) u)) := by
    intro A u R hR hb
    have h := joined_in 2 1 16 2 0 1 A 6 6 zf R u m6 hb zf_bd zf_val (by decide) hR
    have e : jn R (2 * 1) 0 1 = true := zf_j1 (zf_lab hR)
    rw [e] at h
    exact h
  have C5 : Hid (∀ A u R, IsLab (Adj 2 2) (gr zf 2 16 2) 2 R → Bs u A 6 zf → Calls Try.prog 17 #[.agg #[.int .i64 2, .int .i64 1, .int .i64 16, .slice A 6 6], .int .i64 2, .int .i64 0, .int .i64 2] u (Ret (.bool false) u)) := by
    intro A u R hR hb
    have h := joined_in 2 1 16 2 0 2 A 6 6 zf R u m6 hb zf_bd zf_val (by decide) hR
    have e : jn R (2 * 1) 0 2 = false := zf_j2 R
    rw [e] at h
    exact h
  clear m6
  have HB0 := Lib.hid (zf_made w)
  have X0 := Lib.hid (Bx.next ((Below.refl _ w).alloc (Nat.le_refl _) (.cells (madeCells #[.int .u8 0] 6) 5)) (.int .i64 2) (.int .i64 1) (.int .i64 16) (.slice (some ⟨w.heap.size, 0, none⟩) 6 6) 25)
  rw [size_alloc] at X0
  go_enter Try.func9, Try.ntmps9
  go_wp2_with fail
  refine (C1.out _ _ (HB0.out _)).mono ?_
  rintro e w2 ⟨rfl, b2⟩
  have X2 := Lib.hid (X0.out.keep b2)
  have HB2 := Lib.hid ((HB0.out _).keep b2)
  clear b2 X0 HB0 hmk
  obtain ⟨-, c0, c1, c2, c3, -, -, -, -, -⟩ := X2.out
  go_wp2_with fail
  refine (C2.out _ _ HB2.out).mono ?_
  rintro e w3 ⟨rfl, b2⟩
  have X3 := Lib.hid (X2.out.keep b2)
  have HB3 := Lib.hid (HB2.out.keep b2)
  clear b2 X2 HB2 c0 c1 c2 c3
  obtain ⟨-, c0, c1, c2, c3, -, -, -, -, -⟩ := X3.out
  go_wp2_with fail
  refine (C3.out _ _ HB3.out).mono ?_
  rintro e w4 ⟨rg, R, rfl, hI, hL, b2⟩
  have X4 := Lib.hid (X3.out.keep b2)
  have HB4 := Lib.hid (HB3.out.keep b2)
  have HL := Lib.hid hL
  have i0 := hI.cell (i := 0) (by omega)
  have i1 := hI.cell (i := 1) (by omega)
  rw [(zf_lab hL).1] at i0
  rw [(zf_lab hL).2] at i1
  clear b2 X3 HB3 c0 c1 c2 c3 hI hL
  obtain ⟨-, c0, c1, c2, c3, -, -, -, -, -⟩ := X4.out
  go_wp2_with fail
  refine (C4.out _ _ R HL.out HB4.out).mono ?_
  rintro e w5 ⟨rfl, b2⟩
  have X5 := Lib.hid (X4.out.keep b2)
  have HB5 := Lib.hid (HB4.out.keep b2)
  clear b2 X4 HB4 c0 c1 c2 c3 i0 i1
  obtain ⟨-, c0, c1, c2, c3, -, -, -, -, -⟩ := X5.out
  go_wp2_with fail
  refine (C5.out _ _ R HL.out HB5.out).mono ?_
  rintro e w6 ⟨rfl, b2⟩
  have X6 := Lib.hid (X5.out.keep b2)
  clear b2 X5 HB5 c0 c1 c2 c3
  go_wp2
  go_ret
  exact Ret.mk rfl X6.out.below

end Go.Proofs.Ytoikahdffpadoaa
