/- Contracts of package crater, seventh part: All, Strike. -/
import Derived.Test.YtcneilhhpblclaaCr6
import Derived.Deep.RegionHeld3
namespace Go.Proofs.Ytcneilhhpblclaa
open Go.RowKit Go.Shelf
set_option linter.unusedVariables false

set_option maxHeartbeats 2000000 in
theorem all_ok (W H T : Int) (A : Option Addr) (n c N hc : Nat) (AN : Option Addr) (p : Nat → Nat) (h : Nat → Ht) (w : World) (hN : N ≤ maxLen) (hb : Bs w A n p) (hp : ∀ i, p i < 256) (hH : Hs w AN N h)
    (hv : Val W H T n) (hok : ∀ q, q < N → Ok9 (h q)) :
    Calls Try.prog 15 #[.agg #[.int .i64 W, .int .i64 H, .int .i64 T, .slice A n c], .slice AN N hc] w (RetMap W H T n (fell p (W + 1).toNat h N) w) := by
  obtain ⟨V, hV⟩ : ∃ V, (w.alloc (.cells #[.int .i64 W, .int .i64 H, .int .i64 T, .slice A n c] 30)).alloc (.cells #[.int .i64 0, .int .i64 0, .int .i64 0, .slice none 0 0] 30) = V := ⟨_, rfl⟩
  have b1 : Below w.heap.size w (w.alloc (.cells #[.int .i64 W, .int .i64 H, .int .i64 T, .slice A n c] 30)) := (Below.refl _ _).alloc (Nat.le_refl _) _
  have M1 := (Bx.new w (.int .i64 W) (.int .i64 H) (.int .i64 T) (.slice A n c) 30).keep ((Below.refl _ _).alloc (Nat.le_refl _) (.cells #[.int .i64 0, .int .i64 0, .int .i64 0, .slice none 0 0] 30))
  have R1 := Bx.next b1 (.int .i64 0) (.int .i64 0) (.int .i64 0) (.slice none 0 0) 30
  have hs : (w.alloc (.cells #[.int .i64 W, .int .i64 H, .int .i64 T, .slice A n c] 30)).heap.size = w.heap.size + 1 := by simp
  rw [hs] at R1
  rw [hV] at M1 R1
  obtain ⟨U, hU⟩ : ∃ U, V.drew.alloc (.cells #[.slice AN N hc] 31) = U := ⟨_, rfl⟩
  have bU : Below V.heap.size V U := by rw [← hU]; exact ((Below.refl _ _).drew).alloc (Nat.le_refl _) _
  have M2 := M1.keep bU
  have R2 := R1.keep bU
  have AF := Lib.hid (after_ok W H T A n c V.heap.size N hc AN p h U hN (hb.keep M2.below) hp (by rw [← hU]; exact Boxed.new V.drew _ _) (hH.keep M2.below) hv hok)
  have EA := Lib.hid (fun u => each_any AN N hc u)
  have HM1 := Lib.hid M1
  have HM2 := Lib.hid M2
  have HR2 := Lib.hid R2
  have HV := Lib.hid hV
  have HU := Lib.hid hU
  have hlt : Hid (w.heap.size + 1 < U.heap.size) := World.block_lt_of_cell? _ _ R2.c0
  obtain ⟨-, m0, m1, m2, m3, -, -, -, -, -⟩ := M1
  clear R1 b1 hs hV hU M2 R2 bU hb hp hH hv hok
  go_enter Try.func15, Try.ntmps15
  go_wp2
  rw [HV.out]
  go_region_held3 (fun w' => w'.cell? ⟨w.heap.size, 0, none⟩ = some (.int .i64 W) ∧ w'.cell? ⟨w.heap.size, 1, none⟩ = some (.int .i64 H) ∧ w'.cell? ⟨w.heap.size, 2, none⟩ = some (.int .i64 T) ∧ w'.cell? ⟨w.heap.size, 3, none⟩ = some (.slice A n c))
    (first | (go_keep) | exact ⟨HM2.out.c0, HM2.out.c1, HM2.out.c2, HM2.out.c3⟩)
    (first
     | (go_at_call 30; refine (EA.out _).mono ?_; rintro e w5 ⟨rfl, h5⟩; (have h6 := h5.trans HU.out); clear h5; subst h6)
     | (go_at_call 29; refine AF.out.mono ?_; rintro e w6 ⟨A6, K6, rfl, k1, k2, hO, b6⟩; (have R6 := Lib.hid (HR2.out.keep b6)); (have M6 := Lib.hid (HM2.out.keep b6)); (have HK := Lib.hid (And.intro k1 k2)); (have HO := Lib.hid hO); clear k1 k2 hO b6; obtain ⟨-, c0, c1, c2, c3, f0, f1, f2, f3, -⟩ := R6.out; obtain ⟨-, z0, z1, z2, z3, -, -, -, -, -⟩ := M6.out))
  go_wp2
  have HP := R6.out.put (.int .i64 W) (.int .i64 H) (.int .i64 T) (.slice A6 n K6)
  have HQ := HO.out.put (g := w.heap.size + 1) hlt.out (.int .i64 W) (.int .i64 H) (.int .i64 T) (.slice A6 n K6)
  unfold put4 at HP HQ
  refine bodyPost_ret (v := .tuple #[.agg #[.int .i64 W, .int .i64 H, .int .i64 T, .slice A6 n K6], .int .i64 0]) (by simp [results, Try.results15, go_sem, HP.c0, HP.c1, HP.c2, HP.c3]) rfl ?_
  exact ⟨A6, K6, rfl, HK.out.1, HK.out.2, HQ.base (by have := hlt.out; omega), HP.below⟩

set_option maxHeartbeats 2000000 in
theorem all_bad (W H T : Int) (A : Option Addr) (n c N hc : Nat) (AN : Option Addr) (h : Nat → Ht) (w : World) (hN : N ≤ maxLen) (hn : n ≤ maxLen) (hH : Hs w AN N h)
    (hbad : ¬ (Val W H T n ∧ ∀ q, q < N → Ok9 (h q))) :
    Calls Try.prog 15 #[.agg #[.int .i64 W, .int .i64 H, .int .i64 T, .slice A n c], .slice AN N hc] w (Ret (.tuple #[.agg #[.int .i64 0, .int .i64 0, .int .i64 0, .slice none 0 0], .int .i64 1]) w) := by
  obtain ⟨V, hV⟩ : ∃ V, (w.alloc (.cells #[.int .i64 W, .int .i64 H, .int .i64 T, .slice A n c] 30)).alloc (.cells #[.int .i64 0, .int .i64 0, .int .i64 0, .slice none 0 0] 30) = V := ⟨_, rfl⟩
  have b1 : Below w.heap.size w (w.alloc (.cells #[.int .i64 W, .int .i64 H, .int .i64 T, .slice A n c] 30)) := (Below.refl _ _).alloc (Nat.le_refl _) _
  have M1 := (Bx.new w (.int .i64 W) (.int .i64 H) (.int .i64 T) (.slice A n c) 30).keep ((Below.refl _ _).alloc (Nat.le_refl _) (.cells #[.int .i64 0, .int .i64 0, .int .i64 0, .slice none 0 0] 30))
  have R1 := Bx.next b1 (.int .i64 0) (.int .i64 0) (.int .i64 0) (.slice none 0 0) 30
  have hs : (w.alloc (.cells #[.int .i64 W, .int .i64 H, .int .i64 T, .slice A n c] 30)).heap.size = w.heap.size + 1 := by simp
  rw [hs] at R1
  rw [hV] at M1 R1
  obtain ⟨U, hU⟩ : ∃ U, V.drew.alloc (.cells #[.slice AN N hc] 31) = U := ⟨_, rfl⟩
  have bU : Below V.heap.size V U := by rw [← hU]; exact ((Below.refl _ _).drew).alloc (Nat.le_refl _) _
  have M2 := M1.keep bU
  have R2 := R1.keep bU
  have AF := Lib.hid (after_bad W H T A n c V.heap.size N hc AN h U hn hN (by rw [← hU]; exact Boxed.new V.drew _ _) (hH.keep M2.below) hbad)
  have EA := Lib.hid (fun u => each_any AN N hc u)
  have HM1 := Lib.hid M1
  have HM2 := Lib.hid M2
  have HR2 := Lib.hid R2
  have HV := Lib.hid hV
  have HU := Lib.hid hU
  have hlt : Hid (w.heap.size + 1 < U.heap.size) := World.block_lt_of_cell? _ _ R2.c0
  obtain ⟨-, m0, m1, m2, m3, -, -, -, -, -⟩ := M1
  clear R1 b1 hs hV hU M2 R2 bU hH hbad
  go_enter Try.func15, Try.ntmps15
  go_wp2
  rw [HV.out]
  go_region_held3 (fun w' => w'.cell? ⟨w.heap.size, 0, none⟩ = some (.int .i64 W) ∧ w'.cell? ⟨w.heap.size, 1, none⟩ = some (.int .i64 H) ∧ w'.cell? ⟨w.heap.size, 2, none⟩ = some (.int .i64 T) ∧ w'.cell? ⟨w.heap.size, 3, none⟩ = some (.slice A n c))
    (first | (go_keep) | exact ⟨HM2.out.c0, HM2.out.c1, HM2.out.c2, HM2.out.c3⟩)
    (first
     | (go_at_call 30; refine (EA.out _).mono ?_; rintro e w5 ⟨rfl, h5⟩; (have h6 := h5.trans HU.out); clear h5; subst h6)
     | (go_at_call 29; refine AF.out.mono ?_; rintro e w6 ⟨rfl, b6⟩; (have R6 := Lib.hid (HR2.out.keep b6)); (have M6 := Lib.hid (HM2.out.keep b6)); clear b6; obtain ⟨-, c0, c1, c2, c3, f0, f1, f2, f3, -⟩ := R6.out; obtain ⟨-, z0, z1, z2, z3, -, -, -, -, -⟩ := M6.out))
  go_wp2
  have HP := R6.out.put (.int .i64 0) (.int .i64 0) (.int .i64 0) (.slice none 0 0)
  unfold put4 at HP
  refine bodyPost_ret (v := .tuple #[.agg #[.int .i64 0, .int .i64 0, .int .i64 0, .slice none 0 0], .int .i64 1]) (by simp [results, Try.results15, go_sem, HP.c0, HP.c1, HP.c2, HP.c3]) rfl ?_
  exact Ret.mk rfl HP.below

end Go.Proofs.Ytcneilhhpblclaa
