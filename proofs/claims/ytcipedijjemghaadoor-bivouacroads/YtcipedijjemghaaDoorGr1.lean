/- Contracts of package ground, first part: classes, enters, Open; the reference's Open; right, few. -/
import Derived.Test.YtcipedijjemghaaDoorRel9
import Derived.Test.YtcipedijjemghaaDoorGrMath
namespace Go.Proofs.YtcipedijjemghaaDoor
open Go.RowKit
set_option linter.unusedVariables false

/-- Whether ground so steep and so deep is open to a class. -/
def opn (c s d : Int) : Bool :=
  if c = 5 then true else if c = 0 then decide (s ≤ 24) && decide (d ≤ 12) else if c = 1 then decide (0 < d) || decide (s ≤ 16)
  else if c = 2 then decide (16 ≤ d) else if c = 3 then decide (24 ≤ d) else if c = 4 then decide (s ≤ 20) else false
def Cls (c : Int) : Prop := 0 ≤ c ∧ c ≤ 5
instance (c : Int) : Decidable (Cls c) := by unfold Cls; exact inferInstance
theorem Cls.six {c : Int} (h : Cls c) : c = 0 ∨ c = 1 ∨ c = 2 ∨ c = 3 ∨ c = 4 ∨ c = 5 := by unfold Cls at h; omega
theorem bool_back {x y : Bool} (e : x = y) : Ending.returned (Value.bool x) = Ending.returned (Value.bool y) := by rw [e]

set_option maxHeartbeats 400000 in
theorem isClass_any (c : Int) (w : World) : Calls Tryd.prog 34 #[.int .i64 c] w fun e w' => e = .returned (.bool (decide (Cls c))) ∧ w = w' := by
  unfold Cls
  rcases Int.lt_or_le c 0 with h | h
  · have HE : Hid (decide (0 ≤ c ∧ c ≤ 5) = false) := by show _ = _; simp; omega
    go_enter Tryd.func34, Tryd.ntmps34
    go_wp2
    go_ret
    exact ⟨bool_back HE.out.symm, rfl⟩
  · rcases Int.lt_or_le 5 c with h5 | h5
    · have HE : Hid (decide (0 ≤ c ∧ c ≤ 5) = false) := by show _ = _; simp; omega
      have hb : decide (c ≤ 5) = false := by simp; omega
      go_enter Tryd.func34, Tryd.ntmps34
      go_wp2
      go_ret
      exact ⟨bool_back (by rw [HE.out]), rfl⟩
    · have HE : Hid (decide (0 ≤ c ∧ c ≤ 5) = true) := by show _ = _; simp; omega
      go_enter Tryd.func34, Tryd.ntmps34
      go_wp2
      go_ret
      exact ⟨bool_back (by rw [HE.out]), rfl⟩

set_option maxHeartbeats 1000000 in
theorem enters_any (c s d : Int) (w : World) (hc : Cls c) : Calls Tryd.prog 37 #[.int .i64 c, .int .i64 s, .int .i64 d] w fun e w' => e = .returned (.bool (opn c s d)) ∧ w = w' := by
  rcases hc.six with h | h | h | h | h | h <;> (clear hc; subst h)
  · by_cases h1 : s ≤ 24
    · have HE : Hid (opn 0 s d = decide (d ≤ 12)) := by show _ = _; simp [opn, h1]
      go_enter Tryd.func37, Tryd.ntmps37
      go_wp2
      go_ret
      exact ⟨bool_back (by rw [HE.out]), rfl⟩
    · have HE : Hid (opn 0 s d = false) := by show _ = _; simp [opn, h1]
      have hb : decide (s ≤ 24) = false := by simp; omega
      clear h1
      go_enter Tryd.func37, Tryd.ntmps37
      go_wp2
      go_ret
      exact ⟨bool_back (by rw [HE.out]), rfl⟩
  · by_cases h1 : 0 < d
    · have HE : Hid (opn 1 s d = true) := by show _ = _; simp [opn, h1]
      go_enter Tryd.func37, Tryd.ntmps37
      go_wp2
      go_ret
      exact ⟨bool_back (by rw [HE.out]), rfl⟩
    · have HE : Hid (opn 1 s d = decide (s ≤ 16)) := by show _ = _; simp [opn, h1]
      have hb : decide (0 < d) = false := by simp; omega
      clear h1
      go_enter Tryd.func37, Tryd.ntmps37
      go_wp2
      go_ret
      exact ⟨bool_back (by rw [HE.out]), rfl⟩
  · have HE : Hid (opn 2 s d = decide (16 ≤ d)) := by show _ = _; simp [opn]
    go_enter Tryd.func37, Tryd.ntmps37
    go_wp2
    go_ret
    exact ⟨bool_back (by rw [HE.out]), rfl⟩
  · have HE : Hid (opn 3 s d = decide (24 ≤ d)) := by show _ = _; simp [opn]
    go_enter Tryd.func37, Tryd.ntmps37
    go_wp2
    go_ret
    exact ⟨bool_back (by rw [HE.out]), rfl⟩
  · have HE : Hid (opn 4 s d = decide (s ≤ 20)) := by show _ = _; simp [opn]
    go_enter Tryd.func37, Tryd.ntmps37
    go_wp2
    go_ret
    exact ⟨bool_back (by rw [HE.out]), rfl⟩
  · have HE : Hid (opn 5 s d = true) := by show _ = _; simp [opn]
    go_enter Tryd.func37, Tryd.ntmps37
    go_wp2
    go_ret
    exact ⟨bool_back (by rw [HE.out]), rfl⟩

/-- How deep a cell is. -/
def dep (p : Nat → Nat) (W T i j : Int) : Int := if T ≤ cLo p W i j then 0 else T - cLo p W i j
/-- Whether a cell is open. -/
def opAt (p : Nat → Nat) (W T c i j : Int) : Bool := opn c (cHi p W i j - cLo p W i j) (dep p W T i j)
theorem pair_back {x y : Bool} {a b : Int} (e : x = y) (f : a = b) : Value.tuple #[.bool x, .int .i64 a] = .tuple #[.bool y, .int .i64 b] := by rw [e, f]

set_option maxHeartbeats 400000 in
/-- No such class. -/
theorem open_class (W H T c i j : Int) (A : Option Addr) (n k : Nat) (w : World) (hc : ¬ Cls c) :
    Calls Tryd.prog 23 #[.agg #[.int .i64 W, .int .i64 H, .int .i64 T, .slice A n k], .int .i64 c, .int .i64 i, .int .i64 j] w (Ret (.tuple #[.bool false, .int .i64 1]) w) := by
  have hd : decide (Cls c) = false := by simp [hc]
  have C := Lib.hid (fun u => isClass_any c u)
  rw [hd] at C
  clear hc hd
  go_enter Tryd.func23, Tryd.ntmps23
  go_wp2_with fail
  refine (C.out _).mono ?_
  rintro e w1 ⟨rfl, rfl⟩
  go_wp2
  go_ret2
  exact Ret.mk rfl ((Below.refl _ _).alloc (Nat.le_refl _) _)

set_option maxHeartbeats 400000 in
/-- The slope is refused. -/
theorem open_err (W H T c i j x : Int) (A : Option Addr) (n k : Nat) (w : World) (hc : Cls c) (hx : (x != 0) = true)
    (C1 : ∀ u, Calls Tryd.prog 35 #[.agg #[.int .i64 W, .int .i64 H, .int .i64 T, .slice A n k], .int .i64 i, .int .i64 j] u (Ret (.tuple #[.int .i64 0, .int .i64 x]) u)) :
    Calls Tryd.prog 23 #[.agg #[.int .i64 W, .int .i64 H, .int .i64 T, .slice A n k], .int .i64 c, .int .i64 i, .int .i64 j] w (Ret (.tuple #[.bool false, .int .i64 x]) w) := by
  have hd : decide (Cls c) = true := by simp [hc]
  have C := Lib.hid (fun u => isClass_any c u)
  rw [hd] at C
  replace C1 := Lib.hid C1
  clear hc hd
  go_enter Tryd.func23, Tryd.ntmps23
  go_wp2_with fail
  refine (C.out _).mono ?_
  rintro e w1 ⟨rfl, rfl⟩
  go_wp2_with fail
  refine (C1.out _).mono ?_
  rintro e w1 ⟨rfl, b1⟩
  have B1 := Lib.hid (below_box b1)
  clear b1
  go_wp2
  go_ret2
  exact Ret.mk rfl B1.out

set_option maxHeartbeats 1000000 in
theorem open_in (W H T c i j : Int) (A : Option Addr) (n k : Nat) (p : Nat → Nat) (w : World) (hn : n ≤ maxLen) (hb : Bs w A n p) (hp : ∀ i, p i < 256) (hv : Val W H T n) (hc : Cls c) (i0 : 0 ≤ i) (i1 : i < W) (j0 : 0 ≤ j) (j1 : j < H) :
    Calls Tryd.prog 23 #[.agg #[.int .i64 W, .int .i64 H, .int .i64 T, .slice A n k], .int .i64 c, .int .i64 i, .int .i64 j] w (Ret (.tuple #[.bool (opAt p W T c i j), .int .i64 0]) w) := by
  have hd : decide (Cls c) = true := by simp [hc]
  have C := Lib.hid (fun u => isClass_any c u)
  rw [hd] at C
  have C1 := Lib.hid (fun u hb => slope_in W H T i j A n k p u hn hb hp hv i0 i1 j0 j1)
  have C2 := Lib.hid (fun u hb => depth_in W H T i j A n k p u hn hb hp hv i0 i1 j0 j1)
  have C3 := Lib.hid (fun s d u => enters_any c s d u hc)
  have HB := Lib.hid hb
  have HX := Lib.hid (Bx.new w (.int .i64 W) (.int .i64 H) (.int .i64 T) (.slice A n k) 45)
  have HA : Hid (opAt p W T c i j = opn c (cHi p W i j - cLo p W i j) (if T ≤ cLo p W i j then 0 else T - cLo p W i j)) := rfl
  rw [HA.out]
  clear HA
  generalize (if T ≤ cLo p W i j then 0 else T - cLo p W i j) = D at *
  generalize cHi p W i j - cLo p W i j = S at *
  clear hv hb hp hc hd
  go_enter Tryd.func23, Tryd.ntmps23
  go_wp2_with fail
  refine (C.out _).mono ?_
  rintro e w1 ⟨rfl, rfl⟩
  go_wp2_with fail
  refine (C1.out _ (HB.out.alloc _)).mono ?_
  rintro e w1 ⟨rfl, b1⟩
  have X1 := Lib.hid (HX.out.keep b1)
  have HB1 := Lib.hid ((HB.out.alloc _).keep b1)
  clear b1
  obtain ⟨-, c0, c1, c2, c3, -, -, -, -, -⟩ := X1.out
  go_wp2_with fail
  refine (C2.out _ HB1.out).mono ?_
  rintro e w2 ⟨rfl, b2⟩
  have X2 := Lib.hid (X1.out.keep b2)
  clear b2 X1 c0 c1 c2 c3
  go_wp2_with fail
  refine (C3.out _ _ _).mono ?_
  rintro e w3 ⟨rfl, rfl⟩
  go_wp2
  go_ret2
  exact Ret.mk rfl X2.out.below

end Go.Proofs.YtcipedijjemghaaDoor
