/- Contracts of package relief, eleventh part: Decode. -/
import Derived.Test.YthfnmgpeekjjoaaRel10
import Derived.Deep.RegionHeld3
import Derived.Deep.DeepCutAuto
namespace Go.Proofs.Ythfnmgpeekjjoaa
open Go.RowKit
set_option linter.unusedVariables false

set_option maxHeartbeats 400000 in
theorem decode_short (A : Option Addr) (n c : Nat) (w : World) (h : n < 3) :
    Calls Try.prog 22 #[.slice A n c] w (Ret (.tuple #[.agg #[.int .i64 0, .int .i64 0, .int .i64 0, .slice none 0 0], .int .i64 2]) w) := by
  have h' : (n : Int) < 3 := by omega
  go_enter Try.func22, Try.ntmps22
  go_wp2
  refine bodyPost_ret (v := .tuple #[.agg #[.int .i64 0, .int .i64 0, .int .i64 0, .slice none 0 0], .int .i64 2]) (by simp [results, Try.results22, go_sem]) rfl ?_
  exact Ret.mk rfl ((Below.refl _ _).alloc (Nat.le_refl _) _)

/-- The address behind the head. -/
def behind (A : Option Addr) (c : Nat) : Option Addr := if c = 3 then A else A.map (·.add 3)
theorem behind_bs {w : World} {A : Option Addr} {n c : Nat} {p : Nat → Nat} (hb : Bs w A n p) (hn : 3 ≤ n) (hc : n ≤ c) : Bs w (behind A c) (n - 3) (fun i => p (3 + i)) := by
  intro h0
  obtain ⟨g, o, rfl, hg, hcell⟩ := hb (by omega)
  refine ⟨g, o + 3, ?_, hg, fun i hi => ?_⟩
  · unfold behind
    rw [if_neg (by omega)]
    rfl
  · rw [Nat.add_assoc]
    exact hcell (3 + i) (by omega)

set_option maxHeartbeats 1000000 in
theorem decode_bad (A : Option Addr) (n c : Nat) (p : Nat → Nat) (w : World) (hb : Bs w A n p) (hp : ∀ i, p i < 256) (hn : 3 ≤ n) (hnc : n ≤ c) (hc : c ≤ maxLen) (hv : ¬ Val (p 0) (p 1) (p 2) (n - 3)) :
    Calls Try.prog 22 #[.slice A n c] w (Ret (.tuple #[.agg #[.int .i64 0, .int .i64 0, .int .i64 0, .slice none 0 0], .int .i64 (chk (p 0) (p 1) (p 2) (n - 3))]) w) := by
  have C := Lib.hid (fun u => check_any (p 0) (p 1) (p 2) (behind A c) (n - 3) (c - 3) u (by omega))
  obtain ⟨k, ek⟩ : ∃ k, chk (p 0) (p 1) (p 2) (n - 3) = k := ⟨_, rfl⟩
  obtain ⟨k1, k2⟩ := chk_bad hv
  rw [ek] at C k1 k2 ⊢
  have hk : (k != 0) = true := by simp; omega
  clear hv ek
  obtain ⟨g, o, rfl, hg, hcell⟩ := hb (by omega)
  have q0 : w.cell? ⟨g, o, none⟩ = some (.int .u8 (p 0 : Int)) := hcell 0 (by omega)
  have q1 := hcell 1 (by omega)
  have q2 := hcell 2 (by omega)
  have r0 := hp 0
  have r1 := hp 1
  have r2 := hp 2
  clear hcell hb hp
  generalize p 0 = v0 at *
  generalize p 1 = v1 at *
  generalize p 2 = v2 at *
  unfold maxLen at hc
  have x0 := IntWalk.i64_in (v0 : Int) (by omega)
  have x1 := IntWalk.i64_in (v1 : Int) (by omega)
  have x2 := IntWalk.i64_in (v2 : Int) (by omega)
  have h' : ¬ (n : Int) < 3 := by omega
  have t0 : (0 : Int) < (n : Int) := by omega
  have t1 : (1 : Int) < (n : Int) := by omega
  have t2 : (2 : Int) < (n : Int) := by omega
  have t3 : (3 : Int) ≤ (n : Int) := by omega
  unfold behind at C
  have t0' : 0 < n := by omega
  by_cases hc3 : c = 3
  · have hn3 : n = 3 := by omega
    subst hn3 hc3
    rw [if_pos rfl] at C
    change Hid (∀ u, Calls Try.prog 12 #[.agg #[.int .i64 (v0 : Int), .int .i64 (v1 : Int), .int .i64 (v2 : Int), .slice (some ⟨g, o, none⟩) 0 0]] u (Ret (.int .i64 k) u)) at C
    have HX := Lib.hid (Bx.new w (.int .i64 0) (.int .i64 0) (.int .i64 0) (.slice none 0 0) 24)
    go_enter Try.func22, Try.ntmps22
    go_wp2
    have HZ := Lib.hid HX.out.c0
    have p0 := kc HX.out.below q0
    have p1 := kc HX.out.below q1
    have p2 := kc HX.out.below q2
    clear q0 q1 q2
    generalize w.alloc (.cells #[.int .i64 0, .int .i64 0, .int .i64 0, .slice none 0 0] 24) = X at *
    go_region_held3 (fun w' => w'.cell? ⟨g, o, none⟩ = some (.int .u8 (v0 : Int)) ∧ w'.cell? ⟨g, o + 1, none⟩ = some (.int .u8 (v1 : Int)) ∧ w'.cell? ⟨g, o + 2, none⟩ = some (.int .u8 (v2 : Int)))
      (go_keep)
      (first | fail)
    have Y1 := Lib.hid (HX.out.keep ((Below.refl _ _).alloc (Nat.le_refl _) (.cells #[.int .i64 (v0 : Int), .int .i64 (v1 : Int), .int .i64 (v2 : Int), .slice (some ⟨g, o, none⟩) 0 0] 24))).drew
    have Y2 := Lib.hid (Bx.next HX.out.below (.int .i64 (v0 : Int)) (.int .i64 (v1 : Int)) (.int .i64 (v2 : Int)) (.slice (some ⟨g, o, none⟩) 0 0) 24).drew
    clear HX p0 p1 p2 x0 x1 x2
    have hne : X.heap.size ≠ w.heap.size := by have := World.block_lt_of_cell? _ _ HZ.out; simp at this; omega
    clear HZ
    generalize X.heap.size = G at *
    generalize (X.alloc (.cells #[.int .i64 (v0 : Int), .int .i64 (v1 : Int), .int .i64 (v2 : Int), .slice (some ⟨g, o, none⟩) 0 0] 24)).drew = Y at *
    obtain ⟨_, c0, c1, c2, c3, _, _, _, _, _⟩ := Y2.out
    go_wp2_with fail
    refine (C.out _).mono ?_
    rintro e w1 ⟨rfl, b1⟩
    have Z1 := Lib.hid (Y1.out.keep b1)
    clear b1 Y1 Y2 c0 c1 c2 c3
    obtain ⟨_, c0, c1, c2, c3, f0, f1, f2, f3, _⟩ := Z1.out
    go_wp2
    have HP := Z1.out.put (.int .i64 0) (.int .i64 0) (.int .i64 0) (.slice none 0 0)
    unfold put4 at HP
    refine bodyPost_ret (v := .tuple #[.agg #[.int .i64 0, .int .i64 0, .int .i64 0, .slice none 0 0], .int .i64 k]) (by simp [results, Try.results22, go_sem, HP.c0, HP.c1, HP.c2, HP.c3]) rfl ?_
    exact Ret.mk rfl HP.below
  · rw [if_neg hc3] at C
    change Hid (∀ u, Calls Try.prog 12 #[.agg #[.int .i64 (v0 : Int), .int .i64 (v1 : Int), .int .i64 (v2 : Int), .slice (some ⟨g, o + 3, none⟩) (n - 3) (c - 3)]] u (Ret (.int .i64 k) u)) at C
    have HX := Lib.hid (Bx.new w (.int .i64 0) (.int .i64 0) (.int .i64 0) (.slice none 0 0) 24)
    go_enter Try.func22, Try.ntmps22
    go_wp2
    have HZ := Lib.hid HX.out.c0
    have p0 := kc HX.out.below q0
    have p1 := kc HX.out.below q1
    have p2 := kc HX.out.below q2
    clear q0 q1 q2
    generalize w.alloc (.cells #[.int .i64 0, .int .i64 0, .int .i64 0, .slice none 0 0] 24) = X at *
    go_region_held3 (fun w' => w'.cell? ⟨g, o, none⟩ = some (.int .u8 (v0 : Int)) ∧ w'.cell? ⟨g, o + 1, none⟩ = some (.int .u8 (v1 : Int)) ∧ w'.cell? ⟨g, o + 2, none⟩ = some (.int .u8 (v2 : Int)))
      (go_keep)
      (first | fail)
    have Y1 := Lib.hid (HX.out.keep ((Below.refl _ _).alloc (Nat.le_refl _) (.cells #[.int .i64 (v0 : Int), .int .i64 (v1 : Int), .int .i64 (v2 : Int), .slice (some ⟨g, o + 3, none⟩) (n - 3) (c - 3)] 24))).drew
    have Y2 := Lib.hid (Bx.next HX.out.below (.int .i64 (v0 : Int)) (.int .i64 (v1 : Int)) (.int .i64 (v2 : Int)) (.slice (some ⟨g, o + 3, none⟩) (n - 3) (c - 3)) 24).drew
    clear HX p0 p1 p2 x0 x1 x2
    have hne : X.heap.size ≠ w.heap.size := by have := World.block_lt_of_cell? _ _ HZ.out; simp at this; omega
    clear HZ
    generalize X.heap.size = G at *
    generalize (X.alloc (.cells #[.int .i64 (v0 : Int), .int .i64 (v1 : Int), .int .i64 (v2 : Int), .slice (some ⟨g, o + 3, none⟩) (n - 3) (c - 3)] 24)).drew = Y at *
    obtain ⟨_, c0, c1, c2, c3, _, _, _, _, _⟩ := Y2.out
    go_wp2_with fail
    refine (C.out _).mono ?_
    rintro e w1 ⟨rfl, b1⟩
    have Z1 := Lib.hid (Y1.out.keep b1)
    clear b1 Y1 Y2 c0 c1 c2 c3
    obtain ⟨_, c0, c1, c2, c3, f0, f1, f2, f3, _⟩ := Z1.out
    go_wp2
    have HP := Z1.out.put (.int .i64 0) (.int .i64 0) (.int .i64 0) (.slice none 0 0)
    unfold put4 at HP
    refine bodyPost_ret (v := .tuple #[.agg #[.int .i64 0, .int .i64 0, .int .i64 0, .slice none 0 0], .int .i64 k]) (by simp [results, Try.results22, go_sem, HP.c0, HP.c1, HP.c2, HP.c3]) rfl ?_
    exact Ret.mk rfl HP.below

/-- A map of the call's own comes back, beside OK. -/
def RetMap (a b c : Int) (N : Nat) (q : Nat → Nat) (w : World) (e : Ending) (w' : World) : Prop :=
  ∃ A K, e = .returned (.tuple #[.agg #[.int .i64 a, .int .i64 b, .int .i64 c, .slice A N K], .int .i64 0]) ∧ N ≤ K ∧ K ≤ maxLen ∧ Ob w' w.heap.size A N q ∧ Below w.heap.size w w'
theorem Ob.put {w : World} {B n : Nat} {A : Option Addr} {p : Nat → Nat} (h : Ob w B A n p) {g : Nat} (hg : g < B) (a b c d : Value) : Ob (put4 w g a b c d) B A n p := by
  intro hn
  obtain ⟨g0, e, hB, h0, hc, hf⟩ := h hn
  have hne : g ≠ g0 := by omega
  unfold put4
  refine ⟨g0, e, hB, by simpa using h0, fun i hi => ?_, fun i => by simpa [World.frozen?_setCell] using hf i⟩
  exact cell_far (cell_far (cell_far (cell_far (hc i hi) (.inl hne)) (.inl hne)) (.inl hne)) (.inl hne)
theorem Ob.one {w : World} {B n : Nat} {A : Option Addr} {p : Nat → Nat} (h : Ob w B A n p) {g j : Nat} (hg : g < B) (a : Value) : Ob (w.setCell ⟨g, j, none⟩ a) B A n p := by
  intro hn
  obtain ⟨g0, e, hB, h0, hc, hf⟩ := h hn
  have hne : g ≠ g0 := by omega
  refine ⟨g0, e, hB, by simpa using h0, fun i hi => cell_far (hc i hi) (.inl hne), fun i => by simpa [World.frozen?_setCell] using hf i⟩
/-- The last of the four written anew. -/
theorem Bx.last {w X : World} {g : Nat} {a b c d : Value} (h : Bx w g X a b c d) (d' : Value) : Bx w g (X.setCell ⟨g, 3, none⟩ d') a b c d' :=
  ⟨h.ge, cell_far h.c0 (by omega), cell_far h.c1 (by omega), cell_far h.c2 (by omega), cell_set h.c3,
    by simpa [World.frozen?_setCell] using h.f0, by simpa [World.frozen?_setCell] using h.f1, by simpa [World.frozen?_setCell] using h.f2, by simpa [World.frozen?_setCell] using h.f3, h.below.setCell (p := ⟨g, 3, none⟩) h.ge _⟩
/-- Another block written does not touch the box. -/
theorem Bx.far {w X : World} {g j i : Nat} {a b c d : Value} (h : Bx w g X a b c d) (hne : j ≠ g) (hj : w.heap.size ≤ j) (u : Value) : Bx w g (X.setCell ⟨j, i, none⟩ u) a b c d :=
  ⟨h.ge, cell_far h.c0 (.inl hne), cell_far h.c1 (.inl hne), cell_far h.c2 (.inl hne), cell_far h.c3 (.inl hne),
    by simpa [World.frozen?_setCell] using h.f0, by simpa [World.frozen?_setCell] using h.f1, by simpa [World.frozen?_setCell] using h.f2, by simpa [World.frozen?_setCell] using h.f3, h.below.setCell (p := ⟨j, i, none⟩) hj _⟩

set_option maxHeartbeats 1000000 in
theorem decode_ok (A : Option Addr) (n c : Nat) (p : Nat → Nat) (w : World) (hb : Bs w A n p) (hp : ∀ i, p i < 256) (hn : 3 ≤ n) (hnc : n ≤ c) (hc : c ≤ maxLen) (hv : Val (p 0) (p 1) (p 2) (n - 3)) :
    Calls Try.prog 22 #[.slice A n c] w (RetMap (p 0) (p 1) (p 2) (n - 3) (fun i => p (3 + i)) w) := by
  obtain ⟨n0, n1⟩ := val_few hv
  have C := Lib.hid (fun u => check_ok (p 0) (p 1) (p 2) (behind A c) (n - 3) (c - 3) u (by omega) hv)
  have K := Lib.hid (fun u hb => clone_any (behind A c) (n - 3) (c - 3) (fun i => p (3 + i)) u hb (by omega) (by omega))
  have HB := Lib.hid (behind_bs hb hn hnc)
  clear hv
  obtain ⟨g, o, rfl, hg, hcell⟩ := hb (by omega)
  have q0 : w.cell? ⟨g, o, none⟩ = some (.int .u8 (p 0 : Int)) := hcell 0 (by omega)
  have q1 := hcell 1 (by omega)
  have q2 := hcell 2 (by omega)
  have r0 := hp 0
  have r1 := hp 1
  have r2 := hp 2
  clear hcell hb hp
  obtain ⟨q, eq⟩ : ∃ q, (fun i => p (3 + i)) = q := ⟨_, rfl⟩
  rw [eq] at K HB ⊢
  clear eq
  generalize p 0 = v0 at *
  generalize p 1 = v1 at *
  generalize p 2 = v2 at *
  unfold maxLen at hc
  have x0 := IntWalk.i64_in (v0 : Int) (by omega)
  have x1 := IntWalk.i64_in (v1 : Int) (by omega)
  have x2 := IntWalk.i64_in (v2 : Int) (by omega)
  have h' : ¬ (n : Int) < 3 := by omega
  have t0 : (0 : Int) < (n : Int) := by omega
  have t1 : (1 : Int) < (n : Int) := by omega
  have t2 : (2 : Int) < (n : Int) := by omega
  have t3 : (3 : Int) ≤ (n : Int) := by omega
  unfold behind at C K HB
  have t0' : 0 < n := by omega
  have hc3 : ¬ c = 3 := by omega
  rw [if_neg hc3] at C K HB
  change Hid (∀ u, Calls Try.prog 12 #[.agg #[.int .i64 (v0 : Int), .int .i64 (v1 : Int), .int .i64 (v2 : Int), .slice (some ⟨g, o + 3, none⟩) (n - 3) (c - 3)]] u (Ret (.int .i64 0) u)) at C
  change Hid (∀ u, Bs u (some ⟨g, o + 3, none⟩) (n - 3) q → Calls Try.prog 37 #[.slice (some ⟨g, o + 3, none⟩) (n - 3) (c - 3)] u (RetOb (n - 3) q u)) at K
  change Hid (Bs w (some ⟨g, o + 3, none⟩) (n - 3) q) at HB
  have HX := Lib.hid (Bx.new w (.int .i64 0) (.int .i64 0) (.int .i64 0) (.slice none 0 0) 24)
  go_enter Try.func22, Try.ntmps22
  go_wp2
  have HZ := Lib.hid HX.out.c0
  have p0 := kc HX.out.below q0
  have p1 := kc HX.out.below q1
  have p2 := kc HX.out.below q2
  clear q0 q1 q2
  generalize w.alloc (.cells #[.int .i64 0, .int .i64 0, .int .i64 0, .slice none 0 0] 24) = X at *
  go_region_held3 (fun w' => w'.cell? ⟨g, o, none⟩ = some (.int .u8 (v0 : Int)) ∧ w'.cell? ⟨g, o + 1, none⟩ = some (.int .u8 (v1 : Int)) ∧ w'.cell? ⟨g, o + 2, none⟩ = some (.int .u8 (v2 : Int)))
    (go_keep)
    (first | fail)
  have Y1 := Lib.hid (HX.out.keep ((Below.refl _ _).alloc (Nat.le_refl _) (.cells #[.int .i64 (v0 : Int), .int .i64 (v1 : Int), .int .i64 (v2 : Int), .slice (some ⟨g, o + 3, none⟩) (n - 3) (c - 3)] 24))).drew
  have Y2 := Lib.hid (Bx.next HX.out.below (.int .i64 (v0 : Int)) (.int .i64 (v1 : Int)) (.int .i64 (v2 : Int)) (.slice (some ⟨g, o + 3, none⟩) (n - 3) (c - 3)) 24).drew
  clear HX p0 p1 p2 x0 x1 x2
  have hne : X.heap.size ≠ w.heap.size := by have := World.block_lt_of_cell? _ _ HZ.out; simp at this; omega
  clear HZ
  generalize X.heap.size = G at *
  generalize (X.alloc (.cells #[.int .i64 (v0 : Int), .int .i64 (v1 : Int), .int .i64 (v2 : Int), .slice (some ⟨g, o + 3, none⟩) (n - 3) (c - 3)] 24)).drew = Y at *
  obtain ⟨_, c0, c1, c2, c3, _, _, _, _, _⟩ := Y2.out
  go_wp2_with fail
  refine (C.out _).mono ?_
  rintro e w1 ⟨rfl, b1⟩
  have Z1 := Lib.hid (Y1.out.keep b1)
  have Z2 := Lib.hid (Y2.out.keep b1)
  clear b1 Y1 Y2 c0 c1 c2 c3
  obtain ⟨_, c0, c1, c2, c3, _, _, _, _, _⟩ := Z2.out
  go_wp2_with fail
  refine (K.out _ (HB.out.keep Z1.out.below)).mono ?_
  rintro e w2 ⟨A2, K2, rfl, hK1, hK2, hO, b2⟩
  have U1 := Lib.hid (Z1.out.keep b2)
  have U2 := Lib.hid (Z2.out.keep b2)
  have HO := Lib.hid hO
  have HK := Lib.hid (And.intro hK1 hK2)
  have G1 : Hid (G < w1.heap.size) := World.block_lt_of_cell? _ _ c0
  have G2 : Hid (w.heap.size < w1.heap.size) := World.block_lt_of_cell? _ _ Z1.out.c0
  clear b2 hO hK1 hK2 c0 c1 c2 c3 Z1 Z2
  obtain ⟨_, c0, c1, c2, c3, f0, f1, f2, f3, _⟩ := U2.out
  have V2 := Lib.hid (U2.out.last (.slice A2 (n - 3) K2))
  have V1 := Lib.hid (U1.out.far (i := 3) hne U2.out.ge (.slice A2 (n - 3) K2))
  have V0 := Lib.hid (HO.out.one (j := 3) G1.out (.slice A2 (n - 3) K2))
  obtain ⟨_, e0, e1, e2, e3, _, _, _, _, _⟩ := V2.out
  obtain ⟨_, d0, d1, d2, d3, k0, k1, k2, k3, _⟩ := V1.out
  go_wp2
  have HP := V1.out.put (.int .i64 (v0 : Int)) (.int .i64 (v1 : Int)) (.int .i64 (v2 : Int)) (.slice A2 (n - 3) K2)
  have HQ := V0.out.put G2.out (.int .i64 (v0 : Int)) (.int .i64 (v1 : Int)) (.int .i64 (v2 : Int)) (.slice A2 (n - 3) K2)
  unfold put4 at HP HQ
  refine bodyPost_ret (v := .tuple #[.agg #[.int .i64 (v0 : Int), .int .i64 (v1 : Int), .int .i64 (v2 : Int), .slice A2 (n - 3) K2], .int .i64 0]) (by simp [results, Try.results22, go_sem, HP.c0, HP.c1, HP.c2, HP.c3]) rfl ?_
  exact ⟨A2, K2, rfl, HK.out.1, HK.out.2, HQ.base (Nat.le_of_lt G2.out), HP.below⟩

end Go.Proofs.Ythfnmgpeekjjoaa
