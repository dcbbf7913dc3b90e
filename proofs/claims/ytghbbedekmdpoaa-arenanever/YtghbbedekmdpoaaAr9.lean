/- What each law of stage 11 ends with: awake. -/
import Derived.Test.YtghbbedekmdpoaaAr8
namespace Go.Proofs.Ytghbbedekmdpoaa
open Go.RowKit Go.Sort
set_option linter.unusedVariables false
attribute [local go_sem] Try.zeroAr

section
variable {ops : Array Oper} {rest : List Oper} {o : Oper} {a : Act} {Q : Exit → Act → World → Prop}
/-- A load of a whole struct whose guard says yes. -/
theorem wpList_load_g {w : World} {ty : TypeId} {x : Operand} {ad : Addr} {v : Value} (hl : (loadVar ty ad).run Try.prog w = .ok v w) (ho : o.op = .load ty x) (hx : a.eval x = .pointer (some ad)) (hw : Region.wanted o (yielded ops a.tmps) = true)
    (h : wpList Try.prog ops Q rest (a.put o.dst v) w) : wpList Try.prog ops Q (o :: rest) a w := by
  refine BigFrame.wpList_want hw fun K hK => ?_
  unfold Oper.wp execOp
  simp only [ho, hx, Instr.loadAt, Instr.sureAddr, Sem.run_bind, Sem.run_pure, Result.andThen_ok, hl]
  exact hK _ _ h
end

def T0 : Nat → Int := fun _ => 0
def L0 : Nat → Bool := fun _ => false
def T1 : Nat → Int := setI T0 0 (T0 0 + 1)
def L1 : Nat → Bool := setB L0 0 true
def T2 : Nat → Int := setI T1 1 (T1 1 + 1)
def L2 : Nat → Bool := setB L1 1 true
def L3 : Nat → Bool := fre T2 L2 0
def T4 : Nat → Int := setI T2 0 (T2 0 + 1)
def L4 : Nat → Bool := setB L3 0 true
theorem ok0 : okA T0 L0 = true := by decide +kernel
theorem ok1 : okA T1 L1 = true := by decide +kernel
theorem ok2 : okA T2 L2 = true := by decide +kernel
theorem ok3 : okA T2 L3 = true := by decide +kernel
theorem ok4 : okA T4 L4 = true := by decide +kernel
theorem room0 : Room T0 L0 0 := ⟨by omega, fun i hi => by omega, fun _ => by decide⟩
theorem room1 : Room T1 L1 1 := ⟨by omega, fun i hi => by have : i = 0 := by omega
                                                          subst this; decide, fun _ => by decide⟩
theorem room3 : Room T2 L3 0 := ⟨by omega, fun i hi => by omega, fun _ => by decide +kernel⟩
theorem is2 : isA T2 L2 0 = true := by decide +kernel
theorem is4 : isA T4 L4 0 = false := by decide +kernel
theorem giv4 : giv T4 0 = true := by decide +kernel
theorem giv5 : giv T4 128 = false := by decide +kernel
theorem nums4 : nums T4 L4 64 = [64, 1] := by decide +kernel
theorem las1 : las T1 0 = 0 := by decide +kernel
theorem las2 : las T2 1 = 1 := by decide +kernel
theorem las4 : las T4 0 = 64 := by decide +kernel

/-- A block of the call's own that is made and filled. -/
theorem Kx.made {w X : World} (hb : Below w.heap.size w X) (c : Array Value) : Kx w X.heap.size ((X.alloc (.cells ar0 25)).setRow X.heap.size c) 25 c := (Kx.next hb 25 ar0).row c
/-- Another block is made and filled. -/
theorem Kx.besides {w X : World} {g : Nat} {t : TypeId} {cs : Array Value} (h : Kx w g X t cs) (c : Array Value) : Kx w g ((X.alloc (.cells ar0 25)).setRow X.heap.size c) t cs :=
  (h.alloc _).farRow (by have := h.lt; omega) (by have := h.below.size; omega) c

set_option maxRecDepth 100000 in
set_option maxHeartbeats 4000000 in
theorem awake_any (w : World) : Calls Try.prog 10 #[] w (Ret (.bool true) w) := by
  go_enter Try.func10, Try.ntmps10
  go_wp2_with fail
  refine (take_yes T0 L0 0 w ok0 room0 (by decide)).mono ?_
  rintro e w1 ⟨rfl, b1⟩
  rw [show las (setI T0 0 (T0 0 + 1)) 0 = 0 from las1]
  have A1 : Hid (Kx w w1.heap.size ((w1.alloc (.cells ar0 25)).setRow w1.heap.size (ar T1 L1)) 25 (ar T1 L1)) := Kx.made b1 _
  go_wp2_with (first | (refine wpList_store_blk (c' := ar T1 L1) Try.sizeAr (alloc_blk _ _ _) rfl rfl rfl rfl (ar_size _ _) (ar_size _ _) (ar_one _ _) ?_) | (refine wpList_load_at (loadVar_ar A1.out.blk) rfl rfl rfl ?_))
  generalize w1.heap.size = g at *
  generalize (w1.alloc (.cells ar0 25)).setRow g (ar T1 L1) = v1 at *
  clear b1
  refine (take_yes T1 L1 1 v1 ok1 room1 (by decide)).mono ?_
  rintro e w2 ⟨rfl, b2⟩
  rw [show las (setI T1 1 (T1 1 + 1)) 1 = 1 from las2]
  have A2 := Lib.hid (A1.out.keep b2)
  have B2 := Lib.hid (A2.out.row (ar T2 L2))
  clear b2 A1
  go_wp2_with (first | (refine wpList_store_blk (c' := ar T2 L2) Try.sizeAr A2.out.blk rfl rfl rfl rfl (ar_size _ _) (ar_size _ _) (ar_one _ _) ?_) | (refine wpList_load_at (loadVar_ar B2.out.blk) rfl rfl rfl ?_))
  generalize w2.setRow g (ar T2 L2) = v2 at *
  clear A2
  refine (free_yes T2 L2 0 v2 ok2 is2).mono ?_
  rintro e w3 ⟨rfl, b3⟩
  have A3 := Lib.hid (B2.out.keep b3)
  have B3 := Lib.hid (A3.out.row (ar T2 L3))
  clear b3 B2
  go_wp2_with (first | (refine wpList_store_blk (c' := ar T2 L3) Try.sizeAr A3.out.blk rfl rfl rfl rfl (ar_size _ _) (ar_size _ _) (ar_one _ _) ?_) | (refine wpList_load_at (loadVar_ar B3.out.blk) rfl rfl rfl ?_))
  generalize w3.setRow g (ar T2 L3) = v3 at *
  clear A3
  refine (take_yes T2 L3 0 v3 ok3 room3 (by decide)).mono ?_
  rintro e w4 ⟨rfl, b4⟩
  rw [show las (setI T2 0 (T2 0 + 1)) 0 = 64 from las4]
  have A4 := Lib.hid (B3.out.keep b4)
  have B4 := Lib.hid (A4.out.row (ar T4 L4))
  clear b4 B3
  go_wp2_with (first | (refine wpList_store_blk (c' := ar T4 L4) Try.sizeAr A4.out.blk rfl rfl rfl rfl (ar_size _ _) (ar_size _ _) (ar_one _ _) ?_) | (refine wpList_load_at (loadVar_ar B4.out.blk) rfl rfl rfl ?_))
  generalize w4.setRow g (ar T4 L4) = v4 at *
  clear A4
  refine (free_stale T4 L4 0 v4 ok4 giv4 is4).mono ?_
  rintro e w5 ⟨rfl, b5⟩
  have A5 := Lib.hid ((B4.out.keep b5).besides ar0)
  clear b5 B4
  go_wp2_with (first | (refine wpList_store_blk (c' := ar0) Try.sizeAr (alloc_blk _ _ _) rfl rfl rfl rfl (ar_size _ _) (ar_size _ _) (ar_one _ _) ?_) | (refine wpList_load_at (loadVar_ar A5.out.blk) rfl rfl rfl ?_))
  generalize w5.heap.size = g5 at *
  generalize (w5.alloc (.cells ar0 25)).setRow g5 ar0 = v5 at *
  refine (free_none T4 L4 128 v5 ok4 giv5).mono ?_
  rintro e w6 ⟨rfl, b6⟩
  have A6 := Lib.hid ((A5.out.keep b6).besides ar0)
  clear b6 A5
  go_wp2_with (first | (refine wpList_store_blk (c' := ar0) Try.sizeAr (alloc_blk _ _ _) rfl rfl rfl rfl (ar_size _ _) (ar_size _ _) (ar_one _ _) ?_) | (refine wpList_load_at (loadVar_ar A6.out.blk) rfl rfl rfl ?_))
  generalize w6.heap.size = g6 at *
  generalize (w6.alloc (.cells ar0 25)).setRow g6 ar0 = v6 at *
  refine (all_ok T4 L4 v6 ok4).mono ?_
  rw [nums4]
  rintro e w7 ⟨A, c, rfl, h1, h2, h3, b7⟩
  obtain ⟨ga, oa, rfl, hga, hca⟩ := h3 (by decide)
  have q0 : w7.cell? ⟨ga, oa, none⟩ = some (.int .i64 64) := hca 0 (by decide)
  have q1 : w7.cell? ⟨ga, oa + 1, none⟩ = some (.int .i64 1) := hca 1 (by decide)
  have A7 := Lib.hid (A6.out.keep b7)
  have QA := Lib.hid (And.intro hga (And.intro q0 q1))
  clear b7 A6 h1 h2 h3 hca hga q0 q1
  go_wp2_with (refine wpList_load_g (loadVar_ar A7.out.blk) rfl rfl (by rfl) ?_)
  refine (is_any T4 L4 0 w7).mono ?_
  rw [ok4, is4]
  rintro e w8 ⟨rfl, b8⟩
  have q0 : w8.cell? ⟨ga, oa, none⟩ = some (.int .i64 64) := kc b8 QA.out.2.1
  have q1 : w8.cell? ⟨ga, oa + 1, none⟩ = some (.int .i64 1) := kc b8 QA.out.2.2
  have B := Lib.hid (A7.out.keep b8).below
  clear b8 A7 QA
  go_wp2
  go_ret
  exact Ret.mk rfl B.out
end Go.Proofs.Ytghbbedekmdpoaa
