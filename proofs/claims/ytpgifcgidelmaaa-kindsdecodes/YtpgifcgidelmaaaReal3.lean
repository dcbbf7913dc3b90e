/- The three deferred functions of package real, and the exported functions. -/
import Derived.Test.YtpgifcgidelmaaaReal2
namespace Go.Proofs.Ytpgifcgidelmaaa
open Go.RowKit
set_option linter.unusedVariables false

theorem errno_is (n : Int) (w : World) : (Instr.typeAssert (.iface 28 (.int .i64 n)) 20 28 false).run Try.prog w = .ok (.int .i64 n) w := by rfl
theorem run_store_float (P : Program) (w : World) (a : Addr) (m : Mode) (k : FloatKind) (b : Nat) : (store a (.float k b) m).run P w = stored P w a (.float k b) m := run_store P w a _ m rfl
attribute [local go_sem] run_store_float

theorem of_idle (p q : Addr) (w : World) :
    CallsD Try.prog 57 #[.pointer (some p), .pointer (some q)] .returning w fun e u' w' => e = .returned (.tuple #[]) ∧ u' = .returning ∧ w' = w := by
  refine callsD_of_wpS Try.func57 rfl fun c₀ cs hu => ?_
  apply wpS_seq
  apply wpS_region
  simp [wpOpsS, go_sem, recoverD, hu, Try.ntmps57, Exit.thenS]
  refine wpS_of_wp ?_
  change Code.wp _ _ _ { tmps := #[.pointer (some p), .pointer (some q), .nilIface, .nilIface, undef, undef, undef, undef], defers := [] } w
  go_wp2
  cases c₀
  simp_all [bodyPostS, results, Try.results57]

set_option maxHeartbeats 400000 in
theorem of_catch (h : Nat) (n : Int) (u v : Value) (w : World) (hp : w.cell? ⟨h, 0, none⟩ = some u) (hq : w.cell? ⟨h + 1, 0, none⟩ = some v) (fp : w.frozen? ⟨h, 0, none⟩ = false) (fq : w.frozen? ⟨h + 1, 0, none⟩ = false) :
    CallsD Try.prog 57 #[.pointer (some ⟨h, 0, none⟩), .pointer (some ⟨h + 1, 0, none⟩)] (.panicking (Raised n)) w fun e u' w' =>
      e = .returned (.tuple #[]) ∧ u' = .panicking [{ v := .iface 28 (.int .i64 n), recovered := true }] ∧ w' = ((w.setCell ⟨h, 0, none⟩ (.int .i64 0)).setCell ⟨h + 1, 0, none⟩ (.int .i64 n)).drew := by
  refine callsD_of_wpS Try.func57 rfl fun c₀ cs hu => ?_
  apply wpS_seq
  apply wpS_region
  simp [wpOpsS, go_sem, recoverD, hu, Try.ntmps57, Exit.thenS]
  refine wpS_of_wp ?_
  change Code.wp _ _ _ { tmps := #[.pointer (some ⟨h, 0, none⟩), .pointer (some ⟨h + 1, 0, none⟩), .iface 28 (.int .i64 n), .iface 28 (.int .i64 n), undef, undef, undef, undef], defers := [] } w
  have hta := errno_is n
  go_wp2
  go_region
  exact ⟨rfl, _, rfl, _, results_none rfl _ _ _, rfl, rfl, rfl⟩

theorem to_idle (p q : Addr) (w : World) :
    CallsD Try.prog 48 #[.pointer (some p), .pointer (some q)] .returning w fun e u' w' => e = .returned (.tuple #[]) ∧ u' = .returning ∧ w' = w := by
  refine callsD_of_wpS Try.func48 rfl fun c₀ cs hu => ?_
  apply wpS_seq
  apply wpS_region
  simp [wpOpsS, go_sem, recoverD, hu, Try.ntmps48, Exit.thenS]
  refine wpS_of_wp ?_
  change Code.wp _ _ _ { tmps := #[.pointer (some p), .pointer (some q), .nilIface, .nilIface, undef, undef, undef, undef], defers := [] } w
  go_wp2
  cases c₀
  simp_all [bodyPostS, results, Try.results48]

set_option maxHeartbeats 400000 in
theorem to_catch (h : Nat) (n : Int) (u v : Value) (w : World) (hp : w.cell? ⟨h, 0, none⟩ = some u) (hq : w.cell? ⟨h + 1, 0, none⟩ = some v) (fp : w.frozen? ⟨h, 0, none⟩ = false) (fq : w.frozen? ⟨h + 1, 0, none⟩ = false) :
    CallsD Try.prog 48 #[.pointer (some ⟨h, 0, none⟩), .pointer (some ⟨h + 1, 0, none⟩)] (.panicking (Raised n)) w fun e u' w' =>
      e = .returned (.tuple #[]) ∧ u' = .panicking [{ v := .iface 28 (.int .i64 n), recovered := true }] ∧ w' = ((w.setCell ⟨h, 0, none⟩ (.float .f64 0)).setCell ⟨h + 1, 0, none⟩ (.int .i64 n)).drew := by
  refine callsD_of_wpS Try.func48 rfl fun c₀ cs hu => ?_
  apply wpS_seq
  apply wpS_region
  simp [wpOpsS, go_sem, recoverD, hu, Try.ntmps48, Exit.thenS]
  refine wpS_of_wp ?_
  change Code.wp _ _ _ { tmps := #[.pointer (some ⟨h, 0, none⟩), .pointer (some ⟨h + 1, 0, none⟩), .iface 28 (.int .i64 n), .iface 28 (.int .i64 n), undef, undef, undef, undef], defers := [] } w
  have hta := errno_is n
  go_wp2
  go_region
  exact ⟨rfl, _, rfl, _, results_none rfl _ _ _, rfl, rfl, rfl⟩

theorem below_two {w : World} (o o2 : Obj) : Below w.heap.size w ((w.alloc o).alloc o2) := ((Below.refl _ _).alloc (Nat.le_refl _) _).alloc (by simp) _

set_option maxHeartbeats 400000 in
theorem of_panics (b : Nat) (n : Int) (w : World) (hc : ∀ w, Calls Try.prog 59 #[.float .f64 b] w (fun e w' => e = .panicked (Raised n) ∧ w' = w)) :
    Calls Try.prog 55 #[.float .f64 b] w (Ret (.tuple #[.int .i64 0, .int .i64 n]) w) := by
  have hmf : ∀ (fn : Fn) (first cap : Array Value) (w : World), (Instr.makeFunc fn first cap).run Try.prog w = .ok (.func fn first cap) w := fun _ _ _ _ => rfl
  go_enter_defers Try.func55, Try.ntmps55
  go_wp2_with fail
  refine (hc _).mono ?_
  rintro e w1 ⟨rfl, rfl⟩
  go_wp2
  refine leaves_cons (f := 57) (args := #[.pointer (some ⟨w.heap.size, 0, none⟩), .pointer (some ⟨w.heap.size + 1, 0, none⟩)]) (by simp) (by simp [go_sem]) ?_
  refine (of_catch w.heap.size n (.int .i64 0) (.int .i64 0) _ ?_ ?_ ?_ ?_).mono ?_
  · simp [go_sem]
  · simp [go_sem]
  · simp [go_sem]
  · simp [go_sem]
  rintro e u' w'' ⟨rfl, rfl, rfl⟩
  simp [Leaves, settle, results, Try.results55, go_sem]
  exact Ret.mk rfl (below_two _ _).drew

set_option maxHeartbeats 400000 in
theorem of_fine (b r : Nat) (v : Int) (w : World) (hc : ∀ w, Calls Try.prog 59 #[.float .f64 b] w (fun e w' => e = .returned (.float .f64 r) ∧ w' = w)) (hd : ∀ w, Calls Try.prog 58 #[.float .f64 r] w (fun e w' => e = .returned (.int .i64 v) ∧ w' = w)) :
    Calls Try.prog 55 #[.float .f64 b] w (Ret (.tuple #[.int .i64 v, .int .i64 0]) w) := by
  have hmf : ∀ (fn : Fn) (first cap : Array Value) (w : World), (Instr.makeFunc fn first cap).run Try.prog w = .ok (.func fn first cap) w := fun _ _ _ _ => rfl
  go_enter_defers Try.func55, Try.ntmps55
  go_wp2_with fail
  refine (hc _).mono ?_
  rintro e w1 ⟨rfl, rfl⟩
  go_wp2_with fail
  refine (hd _).mono ?_
  rintro e w1 ⟨rfl, rfl⟩
  go_wp2
  refine leaves_cons (f := 57) (args := #[.pointer (some ⟨w.heap.size, 0, none⟩), .pointer (some ⟨w.heap.size + 1, 0, none⟩)]) (by simp) (by simp [go_sem]) ?_
  refine (of_idle ⟨w.heap.size, 0, none⟩ ⟨w.heap.size + 1, 0, none⟩ _).mono ?_
  rintro e u' w'' ⟨rfl, rfl, rfl⟩
  simp [Leaves, settle, results, Try.results55, go_sem]
  exact Ret.mk rfl (below_two _ _)

set_option maxHeartbeats 400000 in
theorem to_panics (v : Int) (n : Int) (w : World) (hh : ∀ w, Calls Try.prog 50 #[.int .i64 v] w (fun e w' => e = .panicked (Raised n) ∧ w' = w)) :
    Calls Try.prog 42 #[.int .i64 v] w (Ret (.tuple #[.float .f64 0, .int .i64 n]) w) := by
  have hmf : ∀ (fn : Fn) (first cap : Array Value) (w : World), (Instr.makeFunc fn first cap).run Try.prog w = .ok (.func fn first cap) w := fun _ _ _ _ => rfl
  go_enter_defers Try.func42, Try.ntmps42
  go_wp2_with fail
  refine (hh _).mono ?_
  rintro e w1 ⟨rfl, rfl⟩
  go_wp2
  refine leaves_cons (f := 48) (args := #[.pointer (some ⟨w.heap.size, 0, none⟩), .pointer (some ⟨w.heap.size + 1, 0, none⟩)]) (by simp) (by simp [go_sem]) ?_
  refine (to_catch w.heap.size n (.float .f64 0) (.int .i64 0) _ ?_ ?_ ?_ ?_).mono ?_
  · simp [go_sem]
  · simp [go_sem]
  · simp [go_sem]
  · simp [go_sem]
  rintro e u' w'' ⟨rfl, rfl, rfl⟩
  simp [Leaves, settle, results, Try.results42, go_sem]
  exact Ret.mk rfl (below_two _ _).drew

set_option maxHeartbeats 400000 in
theorem to_fine (v : Int) (r : Nat) (w : World) (hh : ∀ w, Calls Try.prog 50 #[.int .i64 v] w (fun e w' => e = .returned (.int .i64 v) ∧ w' = w)) (hx : ∀ w, Calls Try.prog 49 #[.int .i64 v] w (fun e w' => e = .returned (.float .f64 r) ∧ w' = w)) :
    Calls Try.prog 42 #[.int .i64 v] w (Ret (.tuple #[.float .f64 r, .int .i64 0]) w) := by
  have hmf : ∀ (fn : Fn) (first cap : Array Value) (w : World), (Instr.makeFunc fn first cap).run Try.prog w = .ok (.func fn first cap) w := fun _ _ _ _ => rfl
  go_enter_defers Try.func42, Try.ntmps42
  go_wp2_with fail
  refine (hh _).mono ?_
  rintro e w1 ⟨rfl, rfl⟩
  go_wp2_with fail
  refine (hx _).mono ?_
  rintro e w1 ⟨rfl, rfl⟩
  go_wp2
  refine leaves_cons (f := 48) (args := #[.pointer (some ⟨w.heap.size, 0, none⟩), .pointer (some ⟨w.heap.size + 1, 0, none⟩)]) (by simp) (by simp [go_sem]) ?_
  refine (to_idle ⟨w.heap.size, 0, none⟩ ⟨w.heap.size + 1, 0, none⟩ _).mono ?_
  rintro e u' w'' ⟨rfl, rfl, rfl⟩
  simp [Leaves, settle, results, Try.results42, go_sem]
  exact Ret.mk rfl (below_two _ _)

end Go.Proofs.Ytpgifcgidelmaaa
