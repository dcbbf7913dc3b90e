/- Contracts of package crater, eighth part: Strike. -/
import Derived.Test.YtcneilhhpblclaaCr7
import Derived.Deep.RegionHeld3
namespace Go.Proofs.Ytcneilhhpblclaa
open Go.RowKit Go.Shelf
set_option linter.unusedVariables false

theorem far4x {X : World} {g b i : Nat} {v a0 a1 a2 a3 : Value} (h : X.cell? ⟨b, i, none⟩ = some v) (hne : g ≠ b) : ((((X.setCell ⟨g, 0, none⟩ a0).setCell ⟨g, 1, none⟩ a1).setCell ⟨g, 2, none⟩ a2).setCell ⟨g, 3, none⟩ a3).cell? ⟨b, i, none⟩ = some v :=
  cell_far (cell_far (cell_far (cell_far h (.inl hne)) (.inl hne)) (.inl hne)) (.inl hne)

set_option maxHeartbeats 2000000 in
theorem strike_ok (W H T : Int) (A : Option Addr) (n c : Nat) (p : Nat → Nat) (x : Ht) (w : World) (hb : Bs w A n p) (hp : ∀ i, p i < 256)
    (hv9 : Val W H T n) (hok : Ok9 x) :
    Calls Try.prog 20 #[.agg #[.int .i64 W, .int .i64 H, .int .i64 T, .slice A n c], hv x] w (RetMap W H T n (fell p (W + 1).toNat (fun _ => x) 1) w) := by
  obtain ⟨V, hV⟩ : ∃ V, ((w.alloc (.cells #[.int .i64 W, .int .i64 H, .int .i64 T, .slice A n c] 30)).alloc (.cells #[.int .i64 x.I, .int .i64 x.J, .int .i64 x.R, .int .i64 x.D] 23)).alloc (.cells #[.int .i64 0, .int .i64 0, .int .i64 0, .slice none 0 0] 30) = V := ⟨_, rfl⟩
  have b1 : Below w.heap.size w (w.alloc (.cells #[.int .i64 W, .int .i64 H, .int .i64 T, .slice A n c] 30)) := (Below.refl _ _).alloc (Nat.le_refl _) _
  have b2 : Below w.heap.size w ((w.alloc (.cells #[.int .i64 W, .int .i64 H, .int .i64 T, .slice A n c] 30)).alloc (.cells #[.int .i64 x.I, .int .i64 x.J, .int .i64 x.R, .int .i64 x.D] 23)) := b1.alloc b1.size _
  have M1 := ((Bx.new w (.int .i64 W) (.int .i64 H) (.int .i64 T) (.slice A n c) 30).keep ((Below.refl _ _).alloc (Nat.le_refl _) (.cells #[.int .i64 x.I, .int .i64 x.J, .int .i64 x.R, .int .i64 x.D] 23))).keep ((Below.refl _ _).alloc (Nat.le_refl _) (.cells #[.int .i64 0, .int .i64 0, .int .i64 0, .slice none 0 0] 30))
  have X1 := (Bx.next b1 (.int .i64 x.I) (.int .i64 x.J) (.int .i64 x.R) (.int .i64 x.D) 23).keep ((Below.refl _ _).alloc (Nat.le_refl _) (.cells #[.int .i64 0, .int .i64 0, .int .i64 0, .slice none 0 0] 30))
  have R1 := Bx.next b2 (.int .i64 0) (.int .i64 0) (.int .i64 0) (.slice none 0 0) 30
  have hs : (w.alloc (.cells #[.int .i64 W, .int .i64 H, .int .i64 T, .slice A n c] 30)).heap.size = w.heap.size + 1 := by simp
  have hs2 : ((w.alloc (.cells #[.int .i64 W, .int .i64 H, .int .i64 T, .slice A n c] 30)).alloc (.cells #[.int .i64 x.I, .int .i64 x.J, .int .i64 x.R, .int .i64 x.D] 23)).heap.size = w.heap.size + 1 + 1 := by simp
  rw [hs] at X1
  rw [hs2] at R1
  rw [hV] at M1 R1 X1
  obtain ⟨Y, hY⟩ : ∃ Y, (V.alloc (.cells #[.int .i64 x.I, .int .i64 x.J, .int .i64 x.R, .int .i64 x.D] 23)).drew = Y := ⟨_, rfl⟩
  obtain ⟨U, hU⟩ : ∃ U, Y.alloc (.cells #[.slice (some ⟨V.heap.size, 0, none⟩) 1 1] 31) = U := ⟨_, rfl⟩
  have sY : Y.heap.size = V.heap.size + 1 := by rw [← hY]; exact World.size_alloc _ _
  have bY : Below V.heap.size V Y := by rw [← hY]; exact ((Below.refl _ _).alloc (Nat.le_refl _) _).drew
  have bYU : Below Y.heap.size Y U := by rw [← hU]; exact (Below.refl _ _).alloc (Nat.le_refl _) _
  have bU : Below V.heap.size V U := bY.trans (bYU.mono (by omega))
  have lU : V.heap.size < U.heap.size := by have := bYU.size; omega
  have hitY : ∀ i, Y.cell? ⟨V.heap.size, i, none⟩ = (#[Value.int .i64 x.I, .int .i64 x.J, .int .i64 x.R, .int .i64 x.D] : Array Value)[i]? := fun i => by rw [← hY]; exact cell_new V _ _ _ _ rfl
  have hitU : ∀ i, i < 1 → U.cell? ⟨V.heap.size, 0 + i * 4, none⟩ = some (.int .i64 x.I) ∧ U.cell? ⟨V.heap.size, 0 + i * 4 + 1, none⟩ = some (.int .i64 x.J) ∧ U.cell? ⟨V.heap.size, 0 + i * 4 + 2, none⟩ = some (.int .i64 x.R) ∧ U.cell? ⟨V.heap.size, 0 + i * 4 + 3, none⟩ = some (.int .i64 x.D) := by
    intro i hi
    obtain rfl : i = 0 := by omega
    exact ⟨kc bYU ((hitY 0).trans rfl), kc bYU ((hitY 1).trans rfl), kc bYU ((hitY 2).trans rfl), kc bYU ((hitY 3).trans rfl)⟩
  have bxU : Boxed U (V.heap.size + 1) 31 (.slice (some ⟨V.heap.size, 0, none⟩) 1 1) := by rw [← sY, ← hU]; exact Boxed.new Y _ _
  have M2 := M1.keep bU
  have R2 := R1.keep bU
  have X2 := X1.keep bU
  have AF := Lib.hid (after_ok W H T A n c (V.heap.size + 1) 1 1 (some ⟨V.heap.size, 0, none⟩) p (fun _ => x) U (by simp [maxLen]) (hb.keep M2.below) hp bxU (by intro _; exact ⟨V.heap.size, 0, rfl, lU, hitU⟩) hv9 (fun _ _ => hok))
  have EA : Hid (Calls Try.prog 30 #[.slice (some ⟨V.heap.size, 0, none⟩) 1 1] Y fun e w' => e = .returned (.func (.func 43) #[] #[.pointer (some ⟨V.heap.size + 1, 0, none⟩)]) ∧ w' = U) := by
    refine (each_any (some ⟨V.heap.size, 0, none⟩) 1 1 Y).mono ?_
    rintro e w' ⟨h1, h2⟩
    rw [sY] at h1
    exact ⟨h1, h2.trans hU⟩
  have HM1 := Lib.hid M1
  have HM2 := Lib.hid M2
  have HR2 := Lib.hid R2
  have HX2 := Lib.hid X2
  have HV := Lib.hid hV
  have HY := Lib.hid hY
  have HMY := Lib.hid (M1.keep bY)
  have HXY := Lib.hid (X1.keep bY)
  have hlt : Hid (w.heap.size + 1 + 1 < U.heap.size) := World.block_lt_of_cell? _ _ R2.c0
  obtain ⟨-, m0, m1, m2, m3, -, -, -, -, -⟩ := M1
  obtain ⟨-, x0, x1, x2, x3, -, -, -, -, -⟩ := X1
  clear R1 b1 b2 hs hs2 hV hU hY M2 R2 X2 bU bY bYU hitY hitU bxU lU sY hb hp hv9 hok
  have n1 : w.heap.size + 1 + 1 ≠ w.heap.size := by omega
  have n2 : w.heap.size + 1 + 1 ≠ w.heap.size + 1 := by omega
  unfold hv
  go_enter Try.func20, Try.ntmps20
  go_wp2
  rw [HV.out]
  go_region_held3 (fun w' => w'.cell? ⟨w.heap.size, 0, none⟩ = some (.int .i64 W) ∧ w'.cell? ⟨w.heap.size, 1, none⟩ = some (.int .i64 H) ∧ w'.cell? ⟨w.heap.size, 2, none⟩ = some (.int .i64 T) ∧ w'.cell? ⟨w.heap.size, 3, none⟩ = some (.slice A n c) ∧ w'.cell? ⟨w.heap.size + 1, 0, none⟩ = some (.int .i64 x.I) ∧ w'.cell? ⟨w.heap.size + 1, 1, none⟩ = some (.int .i64 x.J) ∧ w'.cell? ⟨w.heap.size + 1, 2, none⟩ = some (.int .i64 x.R) ∧ w'.cell? ⟨w.heap.size + 1, 3, none⟩ = some (.int .i64 x.D))
    (refine ⟨?_, ?_, ?_, ?_, ?_, ?_, ?_, ?_⟩ <;> first | (with_reducible exact HM2.out.c0) | (with_reducible exact HM2.out.c1) | (with_reducible exact HM2.out.c2) | (with_reducible exact HM2.out.c3) | (with_reducible exact HX2.out.c0) | (with_reducible exact HX2.out.c1) | (with_reducible exact HX2.out.c2) | (with_reducible exact HX2.out.c3) | (with_reducible exact M6.out.c0) | (with_reducible exact M6.out.c1) | (with_reducible exact M6.out.c2) | (with_reducible exact M6.out.c3) | (with_reducible exact X6.out.c0) | (with_reducible exact X6.out.c1) | (with_reducible exact X6.out.c2) | (with_reducible exact X6.out.c3) | (with_reducible exact far4x M6.out.c0 n1) | (with_reducible exact far4x M6.out.c1 n1) | (with_reducible exact far4x M6.out.c2 n1) | (with_reducible exact far4x M6.out.c3 n1) | (with_reducible exact far4x X6.out.c0 n2) | (with_reducible exact far4x X6.out.c1 n2) | (with_reducible exact far4x X6.out.c2 n2) | (with_reducible exact far4x X6.out.c3 n2) | go_keep)
    (first
     | (go_at_call 30; rw [HY.out]; refine EA.out.mono ?_; rintro e w5 ⟨rfl, h5⟩; subst h5)
     | (go_at_call 29; refine AF.out.mono ?_; rintro e w6 ⟨A6, K6, rfl, k1, k2, hO, b6⟩; (have R6 := Lib.hid (HR2.out.keep b6)); (have M6 := Lib.hid (HM2.out.keep b6)); (have X6 := Lib.hid (HX2.out.keep b6)); (have HK := Lib.hid (And.intro k1 k2)); (have HO := Lib.hid hO); clear k1 k2 hO b6; obtain ⟨-, c0, c1, c2, c3, f0, f1, f2, f3, -⟩ := R6.out))
  go_wp2
  have HP := R6.out.put (.int .i64 W) (.int .i64 H) (.int .i64 T) (.slice A6 n K6)
  have HQ := HO.out.put (g := w.heap.size + 1 + 1) hlt.out (.int .i64 W) (.int .i64 H) (.int .i64 T) (.slice A6 n K6)
  unfold put4 at HP HQ
  refine bodyPost_ret (v := .tuple #[.agg #[.int .i64 W, .int .i64 H, .int .i64 T, .slice A6 n K6], .int .i64 0]) (by simp [results, Try.results20, go_sem, HP.c0, HP.c1, HP.c2, HP.c3]) rfl ?_
  exact ⟨A6, K6, rfl, HK.out.1, HK.out.2, HQ.base (by have := hlt.out; omega), HP.below⟩

set_option maxHeartbeats 2000000 in
theorem strike_bad (W H T : Int) (A : Option Addr) (n c : Nat) (x : Ht) (w : World) (hn : n ≤ maxLen)
    (hbad : ¬ (Val W H T n ∧ Ok9 x)) :
    Calls Try.prog 20 #[.agg #[.int .i64 W, .int .i64 H, .int .i64 T, .slice A n c], hv x] w (Ret (.tuple #[.agg #[.int .i64 0, .int .i64 0, .int .i64 0, .slice none 0 0], .int .i64 1]) w) := by
  obtain ⟨V, hV⟩ : ∃ V, ((w.alloc (.cells #[.int .i64 W, .int .i64 H, .int .i64 T, .slice A n c] 30)).alloc (.cells #[.int .i64 x.I, .int .i64 x.J, .int .i64 x.R, .int .i64 x.D] 23)).alloc (.cells #[.int .i64 0, .int .i64 0, .int .i64 0, .slice none 0 0] 30) = V := ⟨_, rfl⟩
  have b1 : Below w.heap.size w (w.alloc (.cells #[.int .i64 W, .int .i64 H, .int .i64 T, .slice A n c] 30)) := (Below.refl _ _).alloc (Nat.le_refl _) _
  have b2 : Below w.heap.size w ((w.alloc (.cells #[.int .i64 W, .int .i64 H, .int .i64 T, .slice A n c] 30)).alloc (.cells #[.int .i64 x.I, .int .i64 x.J, .int .i64 x.R, .int .i64 x.D] 23)) := b1.alloc b1.size _
  have M1 := ((Bx.new w (.int .i64 W) (.int .i64 H) (.int .i64 T) (.slice A n c) 30).keep ((Below.refl _ _).alloc (Nat.le_refl _) (.cells #[.int .i64 x.I, .int .i64 x.J, .int .i64 x.R, .int .i64 x.D] 23))).keep ((Below.refl _ _).alloc (Nat.le_refl _) (.cells #[.int .i64 0, .int .i64 0, .int .i64 0, .slice none 0 0] 30))
  have X1 := (Bx.next b1 (.int .i64 x.I) (.int .i64 x.J) (.int .i64 x.R) (.int .i64 x.D) 23).keep ((Below.refl _ _).alloc (Nat.le_refl _) (.cells #[.int .i64 0, .int .i64 0, .int .i64 0, .slice none 0 0] 30))
  have R1 := Bx.next b2 (.int .i64 0) (.int .i64 0) (.int .i64 0) (.slice none 0 0) 30
  have hs : (w.alloc (.cells #[.int .i64 W, .int .i64 H, .int .i64 T, .slice A n c] 30)).heap.size = w.heap.size + 1 := by simp
  have hs2 : ((w.alloc (.cells #[.int .i64 W, .int .i64 H, .int .i64 T, .slice A n c] 30)).alloc (.cells #[.int .i64 x.I, .int .i64 x.J, .int .i64 x.R, .int .i64 x.D] 23)).heap.size = w.heap.size + 1 + 1 := by simp
  rw [hs] at X1
  rw [hs2] at R1
  rw [hV] at M1 R1 X1
  obtain ⟨Y, hY⟩ : ∃ Y, (V.alloc (.cells #[.int .i64 x.I, .int .i64 x.J, .int .i64 x.R, .int .i64 x.D] 23)).drew = Y := ⟨_, rfl⟩
  obtain ⟨U, hU⟩ : ∃ U, Y.alloc (.cells #[.slice (some ⟨V.heap.size, 0, none⟩) 1 1] 31) = U := ⟨_, rfl⟩
  have sY : Y.heap.size = V.heap.size + 1 := by rw [← hY]; exact World.size_alloc _ _
  have bY : Below V.heap.size V Y := by rw [← hY]; exact ((Below.refl _ _).alloc (Nat.le_refl _) _).drew
  have bYU : Below Y.heap.size Y U := by rw [← hU]; exact (Below.refl _ _).alloc (Nat.le_refl _) _
  have bU : Below V.heap.size V U := bY.trans (bYU.mono (by omega))
  have lU : V.heap.size < U.heap.size := by have := bYU.size; omega
  have hitY : ∀ i, Y.cell? ⟨V.heap.size, i, none⟩ = (#[Value.int .i64 x.I, .int .i64 x.J, .int .i64 x.R, .int .i64 x.D] : Array Value)[i]? := fun i => by rw [← hY]; exact cell_new V _ _ _ _ rfl
  have hitU : ∀ i, i < 1 → U.cell? ⟨V.heap.size, 0 + i * 4, none⟩ = some (.int .i64 x.I) ∧ U.cell? ⟨V.heap.size, 0 + i * 4 + 1, none⟩ = some (.int .i64 x.J) ∧ U.cell? ⟨V.heap.size, 0 + i * 4 + 2, none⟩ = some (.int .i64 x.R) ∧ U.cell? ⟨V.heap.size, 0 + i * 4 + 3, none⟩ = some (.int .i64 x.D) := by
    intro i hi
    obtain rfl : i = 0 := by omega
    exact ⟨kc bYU ((hitY 0).trans rfl), kc bYU ((hitY 1).trans rfl), kc bYU ((hitY 2).trans rfl), kc bYU ((hitY 3).trans rfl)⟩
  have bxU : Boxed U (V.heap.size + 1) 31 (.slice (some ⟨V.heap.size, 0, none⟩) 1 1) := by rw [← sY, ← hU]; exact Boxed.new Y _ _
  have M2 := M1.keep bU
  have R2 := R1.keep bU
  have X2 := X1.keep bU
  have AF := Lib.hid (after_bad W H T A n c (V.heap.size + 1) 1 1 (some ⟨V.heap.size, 0, none⟩) (fun _ => x) U hn (by simp [maxLen]) bxU (by intro _; exact ⟨V.heap.size, 0, rfl, lU, hitU⟩) (fun q => hbad ⟨q.1, q.2 0 (by omega)⟩))
  have EA : Hid (Calls Try.prog 30 #[.slice (some ⟨V.heap.size, 0, none⟩) 1 1] Y fun e w' => e = .returned (.func (.func 43) #[] #[.pointer (some ⟨V.heap.size + 1, 0, none⟩)]) ∧ w' = U) := by
    refine (each_any (some ⟨V.heap.size, 0, none⟩) 1 1 Y).mono ?_
    rintro e w' ⟨h1, h2⟩
    rw [sY] at h1
    exact ⟨h1, h2.trans hU⟩
  have HM1 := Lib.hid M1
  have HM2 := Lib.hid M2
  have HR2 := Lib.hid R2
  have HX2 := Lib.hid X2
  have HV := Lib.hid hV
  have HY := Lib.hid hY
  have HMY := Lib.hid (M1.keep bY)
  have HXY := Lib.hid (X1.keep bY)
  have hlt : Hid (w.heap.size + 1 + 1 < U.heap.size) := World.block_lt_of_cell? _ _ R2.c0
  obtain ⟨-, m0, m1, m2, m3, -, -, -, -, -⟩ := M1
  obtain ⟨-, x0, x1, x2, x3, -, -, -, -, -⟩ := X1
  clear R1 b1 b2 hs hs2 hV hU hY M2 R2 X2 bU bY bYU hitY hitU bxU lU sY hbad
  have n1 : w.heap.size + 1 + 1 ≠ w.heap.size := by omega
  have n2 : w.heap.size + 1 + 1 ≠ w.heap.size + 1 := by omega
  unfold hv
  go_enter Try.func20, Try.ntmps20
  go_wp2
  rw [HV.out]
  go_region_held3 (fun w' => w'.cell? ⟨w.heap.size, 0, none⟩ = some (.int .i64 W) ∧ w'.cell? ⟨w.heap.size, 1, none⟩ = some (.int .i64 H) ∧ w'.cell? ⟨w.heap.size, 2, none⟩ = some (.int .i64 T) ∧ w'.cell? ⟨w.heap.size, 3, none⟩ = some (.slice A n c) ∧ w'.cell? ⟨w.heap.size + 1, 0, none⟩ = some (.int .i64 x.I) ∧ w'.cell? ⟨w.heap.size + 1, 1, none⟩ = some (.int .i64 x.J) ∧ w'.cell? ⟨w.heap.size + 1, 2, none⟩ = some (.int .i64 x.R) ∧ w'.cell? ⟨w.heap.size + 1, 3, none⟩ = some (.int .i64 x.D))
    (refine ⟨?_, ?_, ?_, ?_, ?_, ?_, ?_, ?_⟩ <;> first | (with_reducible exact HM2.out.c0) | (with_reducible exact HM2.out.c1) | (with_reducible exact HM2.out.c2) | (with_reducible exact HM2.out.c3) | (with_reducible exact HX2.out.c0) | (with_reducible exact HX2.out.c1) | (with_reducible exact HX2.out.c2) | (with_reducible exact HX2.out.c3) | (with_reducible exact M6.out.c0) | (with_reducible exact M6.out.c1) | (with_reducible exact M6.out.c2) | (with_reducible exact M6.out.c3) | (with_reducible exact X6.out.c0) | (with_reducible exact X6.out.c1) | (with_reducible exact X6.out.c2) | (with_reducible exact X6.out.c3) | (with_reducible exact far4x M6.out.c0 n1) | (with_reducible exact far4x M6.out.c1 n1) | (with_reducible exact far4x M6.out.c2 n1) | (with_reducible exact far4x M6.out.c3 n1) | (with_reducible exact far4x X6.out.c0 n2) | (with_reducible exact far4x X6.out.c1 n2) | (with_reducible exact far4x X6.out.c2 n2) | (with_reducible exact far4x X6.out.c3 n2) | go_keep)
    (first
     | (go_at_call 30; rw [HY.out]; refine EA.out.mono ?_; rintro e w5 ⟨rfl, h5⟩; subst h5)
     | (go_at_call 29; refine AF.out.mono ?_; rintro e w6 ⟨rfl, b6⟩; (have R6 := Lib.hid (HR2.out.keep b6)); (have M6 := Lib.hid (HM2.out.keep b6)); (have X6 := Lib.hid (HX2.out.keep b6)); clear b6; obtain ⟨-, c0, c1, c2, c3, f0, f1, f2, f3, -⟩ := R6.out))
  go_wp2
  have HP := R6.out.put (.int .i64 0) (.int .i64 0) (.int .i64 0) (.slice none 0 0)
  unfold put4 at HP
  refine bodyPost_ret (v := .tuple #[.agg #[.int .i64 0, .int .i64 0, .int .i64 0, .slice none 0 0], .int .i64 1]) (by simp [results, Try.results20, go_sem, HP.c0, HP.c1, HP.c2, HP.c3]) rfl ?_
  exact Ret.mk rfl HP.below

end Go.Proofs.Ytcneilhhpblclaa
