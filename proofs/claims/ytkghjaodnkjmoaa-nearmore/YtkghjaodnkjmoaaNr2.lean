/- Contracts: squared, the closures that compare. -/
import Derived.Test.YtkghjaodnkjmoaaNr1
namespace Go.Proofs.Ytkghjaodnkjmoaa
open Go.RowKit Go.Sort
set_option linter.unusedVariables false

/-- An entry's cells. -/
def en (i : Nat) (X Y : Int) : Array Value := #[.int .i64 (i : Int), .int .i64 X, .int .i64 Y]
/-- The square of a distance. -/
def sqd (X Y x y : Int) : Int := (X - x) * (X - x) + (Y - y) * (Y - y)
theorem sqd_bound {X Y x y : Int} (hX : 0 ≤ X ∧ X ≤ 67108864) (hY : 0 ≤ Y ∧ Y ≤ 67108864) (hx : 0 ≤ x ∧ x ≤ 67108864) (hy : 0 ≤ y ∧ y ≤ 67108864) : 0 ≤ sqd X Y x y ∧ sqd X Y x y ≤ 9007199254740992 := by
  obtain ⟨a1, a2⟩ := mul_bound (a := X - x) (b := 67108864) (by omega) (by omega)
  obtain ⟨b1, b2⟩ := mul_bound (a := Y - y) (b := 67108864) (by omega) (by omega)
  unfold sqd
  omega

attribute [local go_sem] Oper.semAt_some
set_option maxHeartbeats 1000000 in
theorem squared_any (i X Y x y : Int) (w : World) (hX : 0 ≤ X ∧ X ≤ 67108864) (hY : 0 ≤ Y ∧ Y ≤ 67108864) (hx : 0 ≤ x ∧ x ≤ 67108864) (hy : 0 ≤ y ∧ y ≤ 67108864) :
    Calls Try.prog 32 #[.agg #[.int .i64 i, .int .i64 X, .int .i64 Y], .int .i64 x, .int .i64 y] w (Ret (.int .i64 (sqd X Y x y)) w) := by
  obtain ⟨a1, a2⟩ := mul_bound (a := X - x) (b := 67108864) (by omega) (by omega)
  obtain ⟨b1, b2⟩ := mul_bound (a := Y - y) (b := 67108864) (by omega) (by omega)
  have HE : Hid ((X - x) * (X - x) + (Y - y) * (Y - y) = sqd X Y x y) := rfl
  obtain ⟨dx, hdx⟩ : ∃ d, X - x = d := ⟨_, rfl⟩
  obtain ⟨dy, hdy⟩ := (⟨_, rfl⟩ : ∃ d, Y - y = d)
  rw [hdx] at a1 a2 HE
  rw [hdy] at b1 b2 HE
  have d1 : -67108864 ≤ dx := by omega
  have d2 : dx ≤ 67108864 := by omega
  have d3 : -67108864 ≤ dy := by omega
  have d4 : dy ≤ 67108864 := by omega
  have w1 : wrap64 (X - x) = dx := by rw [hdx]; exact IntWalk.wrap64_in _ (by omega)
  have w2 : wrap64 (Y - y) = dy := by rw [hdy]; exact IntWalk.wrap64_in _ (by omega)
  have w3 : wrap64 (dx * dx) = dx * dx := IntWalk.wrap64_in _ (by omega)
  have w4 : wrap64 (dy * dy) = dy * dy := IntWalk.wrap64_in _ (by omega)
  have w5 : wrap64 (dx * dx + dy * dy) = dx * dx + dy * dy := IntWalk.wrap64_in _ (by omega)
  go_enter Try.func32, Try.ntmps32
  go_wp2
  have c0 : (w.alloc (.cells #[.int .i64 i, .int .i64 X, .int .i64 Y] 58)).cell? ⟨w.heap.size, 1, none⟩ = some (.int .i64 X) := by simp
  have c1 : (w.alloc (.cells #[.int .i64 i, .int .i64 X, .int .i64 Y] 58)).cell? ⟨w.heap.size, 2, none⟩ = some (.int .i64 Y) := by simp
  have B := Lib.hid (below_box (w := w) (.cells #[.int .i64 i, .int .i64 X, .int .i64 Y] 58))
  generalize w.alloc (.cells #[.int .i64 i, .int .i64 X, .int .i64 Y] 58) = V at *
  have k0 := cell_regrown c0
  have k1 := cell_regrown c1
  clear c0 c1
  refine wp_region_quiet_below (by kernel_rfl) (by kernel_rfl) ?_
  repeat (go_big_quiet_step (fail))
  refine wpQuiet_nil ?_
  intro _ hw'
  obtain ⟨⟨dq, osq⟩, hw''⟩ := hw'
  subst hw''
  have HB : Hid (Below w.heap.size w (grow (redrawn V dq) osq)) := B.out.trans ((below_regrown V dq osq).mono B.out.size)
  clear k0 k1
  generalize grow (redrawn V dq) osq = U at *
  go_wp2
  go_ret
  exact Ret.mk (by rw [HE.out]; rfl) HB.out
set_option maxHeartbeats 1000000 in
/-- The closure of all: by indexes. -/
theorem all1_any (i j X Y X' Y' : Int) (w : World) :
    Calls Try.prog 36 #[.agg #[.int .i64 i, .int .i64 X, .int .i64 Y], .agg #[.int .i64 j, .int .i64 X', .int .i64 Y']] w fun e w' => e = .returned (.int .i64 (cmpI i j)) ∧ ∃ q os', w' = grow (w.drewN q) os' := by
  have C := Lib.hid (compare_same i j)
  generalize cmpI i j = r at *
  go_enter Try.func36, Try.ntmps36
  go_wp2_with fail
  refine (C.out _).mono ?_
  rintro e w1 ⟨rfl, rfl⟩
  go_wp2
  go_ret
  exact ⟨rfl, 0, _, by rw [alloc_eq_grow, alloc_eq_grow, grow_grow]; rfl⟩

/-- The cells of both entries and of the place. -/
def N8 (g gx gy : Nat) (i X Y j X' Y' x y : Int) (w' : World) : Prop :=
  w'.cell? ⟨g, 0, none⟩ = some (.int .i64 i) ∧ w'.cell? ⟨g, 1, none⟩ = some (.int .i64 X) ∧ w'.cell? ⟨g, 2, none⟩ = some (.int .i64 Y) ∧
  w'.cell? ⟨g + 1, 0, none⟩ = some (.int .i64 j) ∧ w'.cell? ⟨g + 1, 1, none⟩ = some (.int .i64 X') ∧ w'.cell? ⟨g + 1, 2, none⟩ = some (.int .i64 Y') ∧
  w'.cell? ⟨gx, 0, none⟩ = some (.int .i64 x) ∧ w'.cell? ⟨gy, 0, none⟩ = some (.int .i64 y)
theorem N8.below {g gx gy : Nat} {i X Y j X' Y' x y : Int} {w w' : World} (s : N8 g gx gy i X Y j X' Y' x y w) (hb : RowKit.Below w.heap.size w w') : N8 g gx gy i X Y j X' Y' x y w' :=
  ⟨kc hb s.1, kc hb s.2.1, kc hb s.2.2.1, kc hb s.2.2.2.1, kc hb s.2.2.2.2.1, kc hb s.2.2.2.2.2.1, kc hb s.2.2.2.2.2.2.1, kc hb s.2.2.2.2.2.2.2⟩
/-- By distances, then by indexes. -/
def nearI (i X Y j X' Y' x y : Int) : Int := orI (cmpI (sqd X Y x y) (sqd X' Y' x y)) (cmpI i j)
set_option maxHeartbeats 4000000 in
theorem near1_any (i j X Y X' Y' x y : Int) (gx gy : Nat) (w : World) (hX : 0 ≤ X ∧ X ≤ 67108864) (hY : 0 ≤ Y ∧ Y ≤ 67108864) (hX' : 0 ≤ X' ∧ X' ≤ 67108864) (hY' : 0 ≤ Y' ∧ Y' ≤ 67108864) (hx : 0 ≤ x ∧ x ≤ 67108864) (hy : 0 ≤ y ∧ y ≤ 67108864)
    (h1 : w.cell? ⟨gx, 0, none⟩ = some (.int .i64 x)) (h2 : w.cell? ⟨gy, 0, none⟩ = some (.int .i64 y)) :
    Calls Try.prog 29 #[.agg #[.int .i64 i, .int .i64 X, .int .i64 Y], .agg #[.int .i64 j, .int .i64 X', .int .i64 Y'], .pointer (some ⟨gx, 0, none⟩), .pointer (some ⟨gy, 0, none⟩)] w
      (Ret (.int .i64 (nearI i X Y j X' Y' x y)) w) := by
  have S1 := Lib.hid (fun u => squared_any i X Y x y u hX hY hx hy)
  have S2 := Lib.hid (fun u => squared_any j X' Y' x y u hX' hY' hx hy)
  have C1 := Lib.hid (compare64_any (sqd X Y x y) (sqd X' Y' x y))
  have C2 := Lib.hid (compare_any i j)
  have O := Lib.hid (or_any (cmpI (sqd X Y x y) (sqd X' Y' x y)) (cmpI i j))
  have HE : Hid (orI (cmpI (sqd X Y x y) (sqd X' Y' x y)) (cmpI i j) = nearI i X Y j X' Y' x y) := rfl
  clear hX hY hX' hY' hx hy
  generalize nearI i X Y j X' Y' x y = r at *
  generalize cmpI (sqd X Y x y) (sqd X' Y' x y) = c1 at *
  generalize cmpI i j = c2 at *
  generalize sqd X Y x y = d1 at *
  generalize sqd X' Y' x y = d2 at *
  obtain ⟨V, hV⟩ : ∃ V, (w.alloc (.cells #[.int .i64 i, .int .i64 X, .int .i64 Y] 58)).alloc (.cells #[.int .i64 j, .int .i64 X', .int .i64 Y'] 58) = V := ⟨_, rfl⟩
  have HV := Lib.hid hV
  have b0 : RowKit.Below w.heap.size w V := by rw [← hV]; exact ((Below.refl _ _).alloc (Nat.le_refl _) _).alloc (by simp) _
  have NV : N8 w.heap.size gx gy i X Y j X' Y' x y V := by
    have l1 := World.block_lt_of_cell? w _ h1
    have l2 := World.block_lt_of_cell? w _ h2
    have q : ∀ k, V.cell? ⟨w.heap.size, k, none⟩ = #[Value.int .i64 i, .int .i64 X, .int .i64 Y][k]? := by
      intro k
      rw [← hV]
      have := (below_box (w := w.alloc (.cells #[.int .i64 i, .int .i64 X, .int .i64 Y] 58)) (.cells #[.int .i64 j, .int .i64 X', .int .i64 Y'] 58)).cell (p := ⟨w.heap.size, k, none⟩) (by simp)
      rw [this, cell_new]
    have q' : ∀ k, V.cell? ⟨w.heap.size + 1, k, none⟩ = #[Value.int .i64 j, .int .i64 X', .int .i64 Y'][k]? := by
      intro k
      rw [← hV]
      simp
    exact ⟨q 0, q 1, q 2, q' 0, q' 1, q' 2, kc b0 h1, kc b0 h2⟩
  have HB : Hid (RowKit.Below w.heap.size w V.drew) := b0.drew
  have HN : Hid (N8 w.heap.size gx gy i X Y j X' Y' x y V.drew) := NV.below (Below.refl _ _).drew
  obtain ⟨n0, n1, n2, n3, n4, n5, n6, n7⟩ := NV
  clear hV h1 h2 b0
  go_enter Try.func29, Try.ntmps29
  go_wp2
  rw [HV.out]
  clear HV
  go_region_held3 (fun w' => w'.cell? ⟨w.heap.size, 0, none⟩ = some (.int .i64 i) ∧ w'.cell? ⟨w.heap.size, 1, none⟩ = some (.int .i64 X) ∧ w'.cell? ⟨w.heap.size, 2, none⟩ = some (.int .i64 Y) ∧ w'.cell? ⟨w.heap.size + 1, 0, none⟩ = some (.int .i64 j) ∧ w'.cell? ⟨w.heap.size + 1, 1, none⟩ = some (.int .i64 X') ∧ w'.cell? ⟨w.heap.size + 1, 2, none⟩ = some (.int .i64 Y') ∧ w'.cell? ⟨gx, 0, none⟩ = some (.int .i64 x) ∧ w'.cell? ⟨gy, 0, none⟩ = some (.int .i64 y))
    (go_keep)
    (first
      | (go_at_call_of 32 (Value.agg #[Value.int IntKind.i64 i, Value.int IntKind.i64 X, Value.int IntKind.i64 Y]); refine (S1.out _).mono ?_; rintro e w1 ⟨rfl, b1⟩; have HB := Lib.hid (HB.out.trans (b1.mono HB.out.size)); have HN := Lib.hid (HN.out.below b1); clear b1; obtain ⟨n0, n1, n2, n3, n4, n5, n6, n7⟩ := HN.out)
      | (go_at_call_of 32 (Value.agg #[Value.int IntKind.i64 j, Value.int IntKind.i64 X', Value.int IntKind.i64 Y']); refine (S2.out _).mono ?_; rintro e w1 ⟨rfl, b1⟩; have HB := Lib.hid (HB.out.trans (b1.mono HB.out.size)); have HN := Lib.hid (HN.out.below b1); clear b1; obtain ⟨n0, n1, n2, n3, n4, n5, n6, n7⟩ := HN.out)
      | (go_at_call 31; refine (C1.out _).mono ?_; rintro e w1 ⟨rfl, b1⟩; have HB := Lib.hid (HB.out.trans (b1.mono HB.out.size)); have HN := Lib.hid (HN.out.below b1); clear b1; obtain ⟨n0, n1, n2, n3, n4, n5, n6, n7⟩ := HN.out)
      | (go_at_call 33; refine (C2.out _).mono ?_; rintro e w1 ⟨rfl, b1⟩; have HB := Lib.hid (HB.out.trans (b1.mono HB.out.size)); have HN := Lib.hid (HN.out.below b1); clear b1; obtain ⟨n0, n1, n2, n3, n4, n5, n6, n7⟩ := HN.out)
      | (go_at_call 30; refine (O.out _ _ _ (by simp) (by simp)).mono ?_; rintro e w1 ⟨rfl, b1⟩; have HB := Lib.hid (((HB.out.alloc HB.out.size _).trans (b1.mono (HB.out.alloc HB.out.size _).size))); have HN := Lib.hid ((HN.out.below (below_box _)).below b1); clear b1; obtain ⟨n0, n1, n2, n3, n4, n5, n6, n7⟩ := HN.out))
  all_goals
    go_wp2
    go_ret
    exact Ret.mk (by rw [HE.out]; rfl) HB.out
end Go.Proofs.Ytkghjaodnkjmoaa
