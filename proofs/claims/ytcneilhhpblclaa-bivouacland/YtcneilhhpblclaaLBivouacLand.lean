/- The walk of the law BivouacLand. -/
import Derived.Test.YtcneilhhpblclaaCrHelp
import Derived.Test.YtcneilhhpblclaaLandOpen
import Derived.Test.YtcneilhhpblclaaRel12
import Derived.Lib.QuietBelow
import Derived.BigQuiet
import Derived.Deep.RegionHeld3
import Derived.Deep.DeepCutAuto
namespace Go.Proofs.Ytcneilhhpblclaa
open Go.RowKit Go.Sort
set_option linter.unusedVariables false

instance (W H x y : Int) : Decidable (On W H x y) := by unfold On; exact inferInstance
/-- A contract that ends in 'Ret', in a world of the class. -/
theorem calls_reL {f : FuncId} {args : Array Value} {V : World} {v : Value} (h : ∀ u, Calls Try.prog f args u (Ret v u)) : ∀ d os, Calls Try.prog f args (grow (redrawn V d) os) fun e w'' => e = .returned v ∧ ∃ p : Regrown, w'' = grow (redrawn V p.d) p.os :=
  fun d os => Calls.regrown_of (h _)
/-- The Land's box. -/
structure L7 (w X : World) (a0 a1 a2 a3 a4 a5 a6 : Value) : Prop where
  c0 : X.cell? ⟨w.heap.size, 0, none⟩ = some a0
  c1 : X.cell? ⟨w.heap.size, 1, none⟩ = some a1
  c2 : X.cell? ⟨w.heap.size, 2, none⟩ = some a2
  c3 : X.cell? ⟨w.heap.size, 3, none⟩ = some a3
  c4 : X.cell? ⟨w.heap.size, 4, none⟩ = some a4
  c5 : X.cell? ⟨w.heap.size, 5, none⟩ = some a5
  c6 : X.cell? ⟨w.heap.size, 6, none⟩ = some a6
  below : Below w.heap.size w X
theorem L7.keep {w X Y : World} {a0 a1 a2 a3 a4 a5 a6 : Value} (h : L7 w X a0 a1 a2 a3 a4 a5 a6) (hb : Below X.heap.size X Y) : L7 w Y a0 a1 a2 a3 a4 a5 a6 :=
  ⟨kc hb h.c0, kc hb h.c1, kc hb h.c2, kc hb h.c3, kc hb h.c4, kc hb h.c5, kc hb h.c6, h.below.trans (hb.mono h.below.size)⟩
theorem L7.drew {w X : World} {a0 a1 a2 a3 a4 a5 a6 : Value} (h : L7 w X a0 a1 a2 a3 a4 a5 a6) : L7 w X.drew a0 a1 a2 a3 a4 a5 a6 := h.keep (Below.refl _ _).drew
theorem L7.new (w : World) (a0 a1 a2 a3 a4 a5 a6 : Value) (t : TypeId) : L7 w (w.alloc (.cells #[a0, a1, a2, a3, a4, a5, a6] t)) a0 a1 a2 a3 a4 a5 a6 :=
  ⟨by rw [cell_new _ _ _ _ _ rfl]; rfl, by rw [cell_new _ _ _ _ _ rfl]; rfl, by rw [cell_new _ _ _ _ _ rfl]; rfl, by rw [cell_new _ _ _ _ _ rfl]; rfl, by rw [cell_new _ _ _ _ _ rfl]; rfl, by rw [cell_new _ _ _ _ _ rfl]; rfl, by rw [cell_new _ _ _ _ _ rfl]; rfl,
    (Below.refl _ _).alloc (Nat.le_refl _) _⟩

set_option maxRecDepth 100000 in
set_option maxHeartbeats 3000000 in
theorem land_ok (W H T : Int) (A : Option Addr) (n c : Nat) (p : Nat → Nat) (Ah : Option Addr) (nh kh : Nat) (h : Nat → Ht) (x y : Int) (w : World) (hb : Bs w A n p) (hp : ∀ i, p i < 256) (hn : n ≤ c) (hc : c ≤ maxLen) (hH : Hs w Ah nh h) (hn2 : nh ≤ kh) (hkh : kh ≤ maxLen)
    (wx : (Lit.int .i64 x).wf = true) (wy : (Lit.int .i64 y).wf = true)
    (hv : Val W H T (fewN n)) (hok : ∀ q, q < someN nh → Ok9 (h q)) :
    Calls Try.prog 7 #[.agg #[.int .i64 W, .int .i64 H, .int .i64 T, .slice A n c, .slice Ah nh kh, .int .i64 x, .int .i64 y]] w (Ret (.bool true) w) := by
  have hN := (fewN_le n).2
  have hM : fewN n ≤ maxLen := by unfold maxLen; omega
  have hLM : someN nh ≤ maxLen := by have := (someN_le nh).2; unfold maxLen; omega
  have HB0 := Lib.hid (hb.take (fewN_le n).1)
  have HHt := Lib.hid (hH.take (someN_le nh).1)
  have hso : (20 < nh ∧ someN nh = 20) ∨ (¬ 20 < nh ∧ someN nh = nh) := by unfold someN; split <;> omega
  have hAh : 20 < nh → ∃ g o, Ah = some ⟨g, o, none⟩ := fun hh => by obtain ⟨g, o, e, -⟩ := hH (by omega); exact ⟨g, o, e⟩
  have HF0 : ∀ u, Below w.heap.size w u → Calls Try.prog 21 #[.agg #[.int .i64 W, .int .i64 H, .int .i64 T, .slice A n c]] u (Ret (.agg #[.int .i64 W, .int .i64 H, .int .i64 T, .slice A (fewN n) c]) u) :=
    fun u hu => fewT_any W H T A n c p u (hb.keep hu) hn hc
  generalize fewN n = N at *
  generalize someN nh = M at *
  obtain ⟨wd, ht, rfl, rfl⟩ : ∃ wd ht : Nat, W = (wd : Int) ∧ H = (ht : Int) := by
    obtain ⟨a, b, c, d, -⟩ := hv.s
    exact ⟨W.toNat, H.toNat, by omega, by omega⟩
  obtain ⟨hW1, hW2, hH1, hH2, hT1, hT2⟩ := hv.s
  have CA := Lib.hid (fun u hb hH => all_ok wd ht T A N c M kh Ah p h u hLM hb hp hH hv hok)
  obtain ⟨q, eq⟩ : ∃ q : Nat → Nat, q = fell p ((wd : Int) + 1).toNat h M := ⟨_, rfl⟩
  have hqp : ∀ i, q i ≤ p i := fun i => by rw [eq]; exact fell_le _ _ _ _ _
  have hq : ∀ i, q i < 256 := fun i => Nat.lt_of_le_of_lt (hqp i) (hp i)
  rw [← eq] at CA
  clear eq
  have C1 := Lib.hid (fun B K u => refCheck_ok wd ht T B N K u hM hv)
  obtain ⟨a, b, ee, hab, HA, HBt⟩ : ∃ a b ee : Int, b ≤ a ∧ Hid (∀ u, Bs u A N p → Calls Try.prog 22 #[.agg #[.int .i64 (wd : Int), .int .i64 (ht : Int), .int .i64 T, .slice A N c], .int .i64 x, .int .i64 y] u (Ret (.tuple #[.int .i64 a, .int .i64 ee]) u)) ∧
      Hid (∀ u B K, Bs u B N q → Calls Try.prog 22 #[.agg #[.int .i64 (wd : Int), .int .i64 (ht : Int), .int .i64 T, .slice B N K], .int .i64 x, .int .i64 y] u (Ret (.tuple #[.int .i64 b, .int .i64 ee]) u)) := by
    by_cases ho : On wd ht x y
    · exact ⟨hAt p wd x y, hAt q wd x y, 0, hAt_le hqp wd ho, fun u hu => height_in wd ht T x y A N c p u hM hu hp hv ho, fun u B K hu => height_in wd ht T x y B N K q u hM hu hq hv ho⟩
    · exact ⟨0, 0, 4, by omega, fun u _ => height_out wd ht T x y A N c u hM hv ho, fun u B K _ => height_out wd ht T x y B N K u hM hv ho⟩
  obtain ⟨bo, O1, O2⟩ : ∃ bo : Bool, Hid (∀ u, Calls Try.prog 23 #[.agg #[.int .i64 (wd : Int), .int .i64 (ht : Int), .int .i64 T, .slice A N c], .int .i64 x, .int .i64 y] u (Ret (.bool bo) u)) ∧
      Hid (∀ B K u, Calls Try.prog 23 #[.agg #[.int .i64 (wd : Int), .int .i64 (ht : Int), .int .i64 T, .slice B N K], .int .i64 x, .int .i64 y] u (Ret (.bool bo) u)) := by
    have hbo : decide (On wd ht x y) = true ↔ On wd ht x y := by simp
    exact ⟨decide (On wd ht x y), fun u => on_ok wd ht T x y A N c u hM hv _ hbo, fun B K u => on_ok wd ht T x y B N K u hM hv _ hbo⟩
  have OP : Hid (∀ (cl i j : Int) (u : World), Cls cl → 0 ≤ i → i < (wd : Int) → 0 ≤ j → j < (ht : Int) → Bs u A N p → Calls Try.prog 24 #[.agg #[.int .i64 (wd : Int), .int .i64 (ht : Int), .int .i64 T, .slice A N c], .int .i64 cl, .int .i64 i, .int .i64 j] u (Ret (.tuple #[.bool (opAt p wd T cl i j), .int .i64 0]) u)) :=
    fun cl i j u hcl i0 i1 j0 j1 hu => open_in wd ht T cl i j A N c p u hM hu hp hv hcl i0 i1 j0 j1
  have OQ : Hid (∀ (B : Option Addr) (K : Nat) (cl i j : Int) (u : World), Cls cl → 0 ≤ i → i < (wd : Int) → 0 ≤ j → j < (ht : Int) → Bs u B N q → Calls Try.prog 24 #[.agg #[.int .i64 (wd : Int), .int .i64 (ht : Int), .int .i64 T, .slice B N K], .int .i64 cl, .int .i64 i, .int .i64 j] u (Ret (.tuple #[.bool (opAt q wd T cl i j), .int .i64 0]) u)) :=
    fun B K cl i j u hcl i0 i1 j0 j1 hu => open_in wd ht T cl i j B N K q u hM hu hq hv hcl i0 i1 j0 j1
  have HQP := Lib.hid hqp
  have hba : decide (a < b) = false := by simp; omega
  clear hv hok hp hqp hq hab
  have HF := Lib.hid HF0
  clear HF0
  have L0 : Hid (∀ u, Calls Try.prog 10 #[.agg #[.int .i64 0, .int .i64 0, .int .i64 1, .int .i64 3], .int .i64 0, .int .i64 0] u (Ret (.int .i64 3) u)) := by
    intro u
    have := Lowers_any ⟨0, 0, 1, 3⟩ 0 0 u
    rw [show lo9 ⟨0, 0, 1, 3⟩ 0 0 = 3 by decide] at this
    exact this
  have Y0 := Lib.hid (L7.new w (.int .i64 (wd : Int)) (.int .i64 (ht : Int)) (.int .i64 T) (.slice A n c) (.slice Ah nh kh) (.int .i64 x) (.int .i64 y) 45)
  clear hb hH hc hn
  unfold maxLen at hkh
  go_enter Try.func7, Try.ntmps7
  go_wp2_with fail
  generalize w.alloc (.cells #[.int .i64 (wd : Int), .int .i64 (ht : Int), .int .i64 T, .slice A n c, .slice Ah nh kh, .int .i64 x, .int .i64 y] 45) = w2 at *
  obtain ⟨c0, c1, c2, c3, c4, c5, c6, -⟩ := Y0.out
  have hne : w.heap.size ≠ w2.heap.size := by have := World.block_lt_of_cell? w2 _ c0; simp at this; omega
  go_cut [3, 4, 5, 6] (fun s3 s4 s5 s6 wx => ∃ g : Nat, s3 = .pointer (some ⟨g, 0, none⟩) ∧ s4 = .slice Ah nh kh ∧ s5 = .int .i64 x ∧ s6 = .int .i64 y ∧ Bx w g wx (.int .i64 (wd : Int)) (.int .i64 (ht : Int)) (.int .i64 T) (.slice A N c))
  case first =>
    go_region_held3 (fun w' => w'.cell? ⟨w.heap.size, 0, none⟩ = some (.int .i64 (wd : Int)) ∧ w'.cell? ⟨w.heap.size, 1, none⟩ = some (.int .i64 (ht : Int)) ∧ w'.cell? ⟨w.heap.size, 2, none⟩ = some (.int .i64 T) ∧ w'.cell? ⟨w.heap.size, 3, none⟩ = some (.slice A n c) ∧ w'.cell? ⟨w.heap.size, 4, none⟩ = some (.slice Ah nh kh) ∧ w'.cell? ⟨w.heap.size, 5, none⟩ = some (.int .i64 x) ∧ w'.cell? ⟨w.heap.size, 6, none⟩ = some (.int .i64 y))
      (go_keep)
      (first
        | (go_at_call 21; ((with_reducible refine (HF.out w2.drew Y0.out.below.drew).mono ?_)); rintro e w3 ⟨rfl, b3⟩; have YS := Lib.hid (Y0.out.drew.keep b3); clear b3; obtain ⟨c0, c1, c2, c3, c4, c5, c6, -⟩ := YS.out)
        | (go_at_call 21; ((with_reducible refine (HF.out (w2.alloc (.cells #[.int .i64 0, .int .i64 0, .int .i64 0, .slice none 0 0] 30)).drew (Y0.out.below.alloc Y0.out.below.size _).drew).mono ?_)); rintro e w3 ⟨rfl, b3⟩; have YS := Lib.hid ((Y0.out.keep ((Below.refl _ _).alloc (Nat.le_refl _) _)).drew.keep b3); have XN := Lib.hid ((Bx.next Y0.out.below (.int .i64 0) (.int .i64 0) (.int .i64 0) (.slice none 0 0) 30).drew.keep b3); clear b3; obtain ⟨c0, c1, c2, c3, c4, c5, c6, -⟩ := YS.out; obtain ⟨_, d0, d1, d2, d3, g0, g1, g2, g3, _⟩ := XN.out; have m0 := fun x y z u => far4 (x := x) (y := y) (z := z) (u := u) hne c0; have m1 := fun x y z u => far4 (x := x) (y := y) (z := z) (u := u) hne c1; have m2 := fun x y z u => far4 (x := x) (y := y) (z := z) (u := u) hne c2; have m3 := fun x y z u => far4 (x := x) (y := y) (z := z) (u := u) hne c3; have m4 := fun x y z u => far4 (x := x) (y := y) (z := z) (u := u) hne c4; have m5 := fun x y z u => far4 (x := x) (y := y) (z := z) (u := u) hne c5; have m6 := fun x y z u => far4 (x := x) (y := y) (z := z) (u := u) hne c6))
    all_goals (go_wp2_with fail; go_meet)
    all_goals (first | exact ⟨w3.heap.size, rfl, rfl, rfl, rfl, Bx.next YS.out.below _ _ _ _ _⟩ | exact ⟨w2.heap.size, rfl, rfl, rfl, rfl, XN.out.put _ _ _ _⟩)
  case rest =>
    obtain ⟨g0, rfl, rfl, rfl, rfl, hX⟩ := hcut
    clear HF Y0 c0 c1 c2 c3 c4 c5 c6 hne
    have X1 := Lib.hid hX
    clear hX
    rename World => wz
    have HH1 := Lib.hid (HHt.out.keep X1.out.below)
    clear HHt
    rcases hso with ⟨h20, rfl⟩ | ⟨h20, rfl⟩
    · obtain ⟨gh, oh, rfl⟩ := hAh h20
      have hc0 : ¬ kh = 0 := by omega
      have hc1 : (20 : Int) ≤ (kh : Int) := by omega
      have hI : (20 : Int) < (nh : Int) := by omega
      clear hAh
      go_wp2_with fail
      refine (L0.out _).mono ?_
      rintro e w3 ⟨rfl, b3⟩
      have X3 := Lib.hid (X1.out.keep b3)
      have HH3 := Lib.hid (HH1.out.keep b3)
      clear b3 X1 HH1 L0
      obtain ⟨-, c0, c1, c2, c3, -, -, -, -, -⟩ := X3.out
      go_wp2_with fail
      have BS3 := Lib.hid (HB0.out.keep X3.out.below)
      refine (CA.out _ BS3.out HH3.out).mono ?_
      rintro e w4 ⟨A3, K3, rfl, k1, k2, hO, b2⟩
      obtain ⟨Y, hY⟩ : ∃ Y, w4.alloc (.cells #[.int .i64 (wd : Int), .int .i64 (ht : Int), .int .i64 T, .slice A3 N K3] 30) = Y := ⟨_, rfl⟩
      have bY : Below w4.heap.size w4 Y := by rw [← hY]; exact (Below.refl _ _).alloc (Nat.le_refl _) _
      have bZY := b2.trans (bY.mono b2.size)
      have X5 := Lib.hid (X3.out.keep bZY)
      have BS5 := Lib.hid (BS3.out.keep bZY)
      have BN5 := Lib.hid (hO.bs.keep bY)
      have XN : Hid (Bx w w4.heap.size Y (.int .i64 (wd : Int)) (.int .i64 (ht : Int)) (.int .i64 T) (.slice A3 N K3)) := by
        show Bx _ _ _ _ _ _ _
        rw [← hY]
        exact Bx.next (X3.out.below.trans (b2.mono X3.out.below.size)) _ _ _ _ _
      obtain ⟨-, c0, c1, c2, c3, -, -, -, -, -⟩ := X5.out
      obtain ⟨-, d0, d1, d2, d3, -, -, -, -, -⟩ := XN.out
      rw [← hY] at c0 c1 c2 c3 d0 d1 d2 d3
      have HY := Lib.hid hY
      clear b2 bY hY bZY hO k1 k2 CA X3 HH3 BS3
      generalize hG : w4.heap.size = G at XN d0 d1 d2 d3
      subst hG
      go_wp2_with fail
      rw [HY.out]
      refine (C1.out _ _ _).mono ?_
      rintro e w6 ⟨rfl, b2⟩
      have X6 := Lib.hid (X5.out.keep b2)
      have XN6 := Lib.hid (XN.out.keep b2)
      have BS6 := Lib.hid (BS5.out.keep b2)
      have BN6 := Lib.hid (BN5.out.keep b2)
      clear b2 X5 XN BS5 BN5 HY c0 c1 c2 c3 d0 d1 d2 d3
      generalize w4.heap.size = G at *
      obtain ⟨-, c0, c1, c2, c3, -, -, -, -, -⟩ := X6.out
      obtain ⟨-, d0, d1, d2, d3, -, -, -, -, -⟩ := XN6.out
      go_wp2_with fail
      refine (C1.out _ _ _).mono ?_
      rintro e w7 ⟨rfl, b2⟩
      have X7 := Lib.hid (X6.out.keep b2)
      have XN7 := Lib.hid (XN6.out.keep b2)
      have BS7 := Lib.hid (BS6.out.keep b2)
      have BN7 := Lib.hid (BN6.out.keep b2)
      clear b2 X6 XN6 BS6 BN6 c0 c1 c2 c3 d0 d1 d2 d3
      obtain ⟨-, c0, c1, c2, c3, -, -, -, -, -⟩ := X7.out
      obtain ⟨-, d0, d1, d2, d3, -, -, -, -, -⟩ := XN7.out
      go_wp2_with fail
      refine (HA.out _ BS7.out).mono ?_
      rintro e w8 ⟨rfl, b2⟩
      have X8 := Lib.hid (X7.out.keep b2)
      have XN8 := Lib.hid (XN7.out.keep b2)
      have BS8 := Lib.hid (BS7.out.keep b2)
      have BN8 := Lib.hid (BN7.out.keep b2)
      clear b2 X7 XN7 BS7 BN7 c0 c1 c2 c3 d0 d1 d2 d3
      obtain ⟨-, c0, c1, c2, c3, -, -, -, -, -⟩ := X8.out
      obtain ⟨-, d0, d1, d2, d3, -, -, -, -, -⟩ := XN8.out
      go_wp2_with fail
      refine (HBt.out _ _ _ BN8.out).mono ?_
      rintro e w9 ⟨rfl, b2⟩
      have X9 := Lib.hid (X8.out.keep b2)
      have XN9 := Lib.hid (XN8.out.keep b2)
      have BS9 := Lib.hid (BS8.out.keep b2)
      have BN9 := Lib.hid (BN8.out.keep b2)
      clear b2 X8 XN8 BS8 BN8 c0 c1 c2 c3 d0 d1 d2 d3
      obtain ⟨-, c0, c1, c2, c3, -, -, -, -, -⟩ := X9.out
      obtain ⟨-, d0, d1, d2, d3, -, -, -, -, -⟩ := XN9.out
      have g0 := cell_regrown c0
      have g1 := cell_regrown c1
      have g2 := cell_regrown c2
      have g3 := cell_regrown c3
      have n0 := cell_regrown d0
      have n1 := cell_regrown d1
      have n2 := cell_regrown d2
      have n3 := cell_regrown d3
      have K1 := Lib.hid (calls_reL (V := w9) O1.out)
      have K2 := Lib.hid (calls_reL (V := w9) (O2.out A3 K3))
      have hee : (ee != ee) = false := by simp
      have hbb : (bo != bo) = false := by simp
      go_wp2_with fail
      refine wp_region_quiet_below (by kernel_rfl) (by kernel_rfl) ?_
      repeat (go_big_quiet_step (first | with_reducible exact K1.out _ _ | with_reducible exact K2.out _ _))
      refine wpQuiet_nil ?_
      intro _ hw'
      obtain ⟨⟨dq, osq⟩, hw''⟩ := hw'
      subst hw''
      clear g0 g1 g2 g3 n0 n1 n2 n3 c0 c1 c2 c3 d0 d1 d2 d3 K1 K2 hee hbb
      obtain ⟨V, hV⟩ : ∃ V, grow (redrawn w9 dq) osq = V := ⟨_, rfl⟩
      have bV : Below w9.heap.size w9 V := by rw [← hV]; exact below_regrown w9 dq osq
      rw [hV]
      have XV := Lib.hid (X9.out.keep bV)
      have XNV := Lib.hid (XN9.out.keep bV)
      have BSV := Lib.hid (BS9.out.keep bV)
      have BNV := Lib.hid (BN9.out.keep bV)
      clear bV hV X9 XN9 BS9 BN9
      have hA4 : wd * ht ≤ 4096 := Nat.mul_le_mul (show wd ≤ 64 by omega) (show ht ≤ 64 by omega)
      obtain ⟨Q, hQ⟩ : ∃ Q, wd * ht = Q := ⟨_, rfl⟩
      have eQ : (wd : Int) * (ht : Int) = (Q : Int) := by rw [← hQ]; exact (Int.natCast_mul _ _).symm
      have HQ := Lib.hid hQ
      rw [hQ] at hA4
      clear hQ
      go_wp2_with fail
      go_loopw [13] (fun t wr => ∃ k : Nat, k ≤ Q ∧ t = .int .i64 (k : Int) ∧ Below V.heap.size V wr) (fun t _ => Q - (intOf t).toNat)
      case atStart => exact ⟨0, by omega, rfl, Below.refl _ _⟩
      case round =>
        obtain ⟨k, hk, rfl, hB⟩ := hrel
        have HBwr := Lib.hid hB
        have Xwr := Lib.hid (XV.out.keep hB)
        have XNwr := Lib.hid (XNV.out.keep hB)
        have BSwr := Lib.hid (BSV.out.keep hB)
        have BNwr := Lib.hid (BNV.out.keep hB)
        clear hB
        by_cases hlt : k < Q
        · have hkI : (k : Int) < (Q : Int) := by omega
          have hk0 : (0 : Int) ≤ (k : Int) := by omega
          have wn0 : ¬ wd = 0 := by omega
          obtain ⟨r1, h1⟩ : ∃ r1, k % wd = r1 := ⟨_, rfl⟩
          obtain ⟨r2, h2⟩ : ∃ r2, k / wd = r2 := ⟨_, rfl⟩
          have q1 : r1 < wd := by rw [← h1]; exact Nat.mod_lt _ (by omega)
          have q2 : r2 < ht := by rw [← h2]; exact (Nat.div_lt_iff_lt_mul (by omega)).2 (by rw [Nat.mul_comm, HQ.out]; exact hlt)
          have q3 : (r1 : Int) < (wd : Int) := by omega
          have q4 : (r2 : Int) < (ht : Int) := by omega
          have z5 : (r2 : Int) ≤ 4096 := by omega
          have z6 : (r1 : Int) ≤ 4096 := by omega
          have z7 : (0 : Int) ≤ (r2 : Int) := by omega
          have z8 : (0 : Int) ≤ (r1 : Int) := by omega
          have V1 : IntKind.i64.wrap (r1 : Int) = (r1 : Int) := IntWalk.i64_in _ (by omega)
          have V2 : IntKind.i64.wrap (r2 : Int) = (r2 : Int) := IntWalk.i64_in _ (by omega)
          have V3 : wrap64 (r1 : Int) = (r1 : Int) := by unfold wrap64; simp only [Int.emod_def]; omega
          have V4 : wrap64 (r2 : Int) = (r2 : Int) := by unfold wrap64; simp only [Int.emod_def]; omega
          obtain ⟨bw, hbw⟩ : ∃ bw, opAt p wd T 2 (r1 : Int) (r2 : Int) = bw := ⟨_, rfl⟩
          obtain ⟨bi, hbi⟩ : ∃ bi, opAt q wd T 2 (r1 : Int) (r2 : Int) = bi := ⟨_, rfl⟩
          have HSt : Hid (bw = true → bi = true) := fun hh => by rw [← hbi]; exact ship_stays HQP.out wd T _ _ (by rw [hbw]; exact hh)
          have O2a : Hid (∀ u i j, i = (r1 : Int) → j = (r2 : Int) → Bs u A N p → Calls Try.prog 24 #[.agg #[.int .i64 (wd : Int), .int .i64 (ht : Int), .int .i64 T, .slice A N c], .int .i64 2, .int .i64 i, .int .i64 j] u (Ret (.tuple #[.bool bw, .int .i64 0]) u)) := by
            intro u i j hi hj hu
            have := OP.out 2 (r1 : Int) (r2 : Int) u (by decide) z8 q3 z7 q4 hu
            rw [hbw, ← hi, ← hj] at this
            exact this
          have O2b : Hid (∀ u i j, i = (r1 : Int) → j = (r2 : Int) → Bs u A3 N q → Calls Try.prog 24 #[.agg #[.int .i64 (wd : Int), .int .i64 (ht : Int), .int .i64 T, .slice A3 N K3], .int .i64 2, .int .i64 i, .int .i64 j] u (Ret (.tuple #[.bool bi, .int .i64 0]) u)) := by
            intro u i j hi hj hu
            have := OQ.out A3 K3 2 (r1 : Int) (r2 : Int) u (by decide) z8 q3 z7 q4 hu
            rw [hbi, ← hi, ← hj] at this
            exact this
          have O2c : Hid (∀ u i j, i = (r1 : Int) → j = (r2 : Int) → Bs u A3 N q → Calls Try.prog 24 #[.agg #[.int .i64 (wd : Int), .int .i64 (ht : Int), .int .i64 T, .slice A3 N K3], .int .i64 5, .int .i64 i, .int .i64 j] u (Ret (.tuple #[.bool true, .int .i64 0]) u)) := by
            intro u i j hi hj hu
            have := OQ.out A3 K3 5 (r1 : Int) (r2 : Int) u (by decide) z8 q3 z7 q4 hu
            rw [air_open, ← hi, ← hj] at this
            exact this
          clear hbw hbi q1 q2 q3 q4
          have e1 : (k : Int).tmod (wd : Int) = (r1 : Int) := by rw [← h1]; rfl
          have e2 : (k : Int).tdiv (wd : Int) = (r2 : Int) := by rw [← h2]; rfl
          have e3 : (k : Int) % (wd : Int) = (r1 : Int) := by rw [← h1]; rfl
          have e4 : (k : Int) / (wd : Int) = (r2 : Int) := by rw [← h2]; rfl
          have V5 : IntKind.i64.wrap ((k : Int).tmod (wd : Int)) = (r1 : Int) := by rw [e1]; exact V1
          have V6 : IntKind.i64.wrap ((k : Int).tdiv (wd : Int)) = (r2 : Int) := by rw [e2]; exact V2
          obtain ⟨-, c0, c1, c2, c3, -, -, -, -, -⟩ := Xwr.out
          obtain ⟨-, d0, d1, d2, d3, -, -, -, -, -⟩ := XNwr.out
          go_wp2_with fail
          go_region_held3 (fun w' => w'.cell? ⟨g0, 0, none⟩ = some (.int .i64 (wd : Int)) ∧ w'.cell? ⟨g0, 1, none⟩ = some (.int .i64 (ht : Int)) ∧ w'.cell? ⟨g0, 2, none⟩ = some (.int .i64 T) ∧ w'.cell? ⟨g0, 3, none⟩ = some (.slice A N c) ∧ w'.cell? ⟨G, 0, none⟩ = some (.int .i64 (wd : Int)) ∧ w'.cell? ⟨G, 1, none⟩ = some (.int .i64 (ht : Int)) ∧ w'.cell? ⟨G, 2, none⟩ = some (.int .i64 T) ∧ w'.cell? ⟨G, 3, none⟩ = some (.slice A3 N K3))
            (go_keep)
            ((go_at_call 24; refine (O2a.out wr.drew _ _ (by first | rfl | exact e1 | exact e3 | exact V1 | exact V5 | (rw [e1]; done) | (simp; omega)) (by first | rfl | exact e2 | exact e4 | exact V2 | exact V6 | (rw [e2]; done) | (simp; omega)) (BSwr.out.keep (Below.refl _ _).drew)).mono ?_; rintro e wa ⟨rfl, b'⟩; have Xwa := Lib.hid (Xwr.out.drew.keep b'); have XNwa := Lib.hid (XNwr.out.drew.keep b'); have bz := (Below.refl _ wr).drew.trans b'; have BSwa := Lib.hid (BSwr.out.keep bz); have BNwa := Lib.hid (BNwr.out.keep bz); have HBwa := Lib.hid (HBwr.out.trans (bz.mono HBwr.out.size)); clear b' bz c0 c1 c2 c3 d0 d1 d2 d3; obtain ⟨-, c0, c1, c2, c3, -, -, -, -, -⟩ := Xwa.out; obtain ⟨-, d0, d1, d2, d3, -, -, -, -, -⟩ := XNwa.out))
          clear Xwr XNwr BSwr BNwr HBwr
          go_wp2_with fail
          go_region_held3 (fun w' => w'.cell? ⟨g0, 0, none⟩ = some (.int .i64 (wd : Int)) ∧ w'.cell? ⟨g0, 1, none⟩ = some (.int .i64 (ht : Int)) ∧ w'.cell? ⟨g0, 2, none⟩ = some (.int .i64 T) ∧ w'.cell? ⟨g0, 3, none⟩ = some (.slice A N c) ∧ w'.cell? ⟨G, 0, none⟩ = some (.int .i64 (wd : Int)) ∧ w'.cell? ⟨G, 1, none⟩ = some (.int .i64 (ht : Int)) ∧ w'.cell? ⟨G, 2, none⟩ = some (.int .i64 T) ∧ w'.cell? ⟨G, 3, none⟩ = some (.slice A3 N K3))
            (go_keep)
            ((go_at_call 24; refine (O2b.out wa.drew _ _ (by first | rfl | exact e1 | exact e3 | exact V1 | exact V5 | (rw [e1]; done) | (simp; omega)) (by first | rfl | exact e2 | exact e4 | exact V2 | exact V6 | (rw [e2]; done) | (simp; omega)) (BNwa.out.keep (Below.refl _ _).drew)).mono ?_; rintro e wb ⟨rfl, b'⟩; have Xwb := Lib.hid (Xwa.out.drew.keep b'); have XNwb := Lib.hid (XNwa.out.drew.keep b'); have bz := (Below.refl _ wa).drew.trans b'; have BSwb := Lib.hid (BSwa.out.keep bz); have BNwb := Lib.hid (BNwa.out.keep bz); have HBwb := Lib.hid (HBwa.out.trans (bz.mono HBwa.out.size)); clear b' bz c0 c1 c2 c3 d0 d1 d2 d3; obtain ⟨-, c0, c1, c2, c3, -, -, -, -, -⟩ := Xwb.out; obtain ⟨-, d0, d1, d2, d3, -, -, -, -, -⟩ := XNwb.out))
          clear Xwa XNwa BSwa BNwa HBwa
          go_wp2_with fail
          go_region_held3 (fun w' => w'.cell? ⟨g0, 0, none⟩ = some (.int .i64 (wd : Int)) ∧ w'.cell? ⟨g0, 1, none⟩ = some (.int .i64 (ht : Int)) ∧ w'.cell? ⟨g0, 2, none⟩ = some (.int .i64 T) ∧ w'.cell? ⟨g0, 3, none⟩ = some (.slice A N c) ∧ w'.cell? ⟨G, 0, none⟩ = some (.int .i64 (wd : Int)) ∧ w'.cell? ⟨G, 1, none⟩ = some (.int .i64 (ht : Int)) ∧ w'.cell? ⟨G, 2, none⟩ = some (.int .i64 T) ∧ w'.cell? ⟨G, 3, none⟩ = some (.slice A3 N K3))
            (go_keep)
            ((go_at_call 24; refine (O2c.out wb.drew _ _ (by first | rfl | exact e1 | exact e3 | exact V1 | exact V5 | (rw [e1]; done) | (simp; omega)) (by first | rfl | exact e2 | exact e4 | exact V2 | exact V6 | (rw [e2]; done) | (simp; omega)) (BNwb.out.keep (Below.refl _ _).drew)).mono ?_; rintro e wc ⟨rfl, b'⟩; have Xwc := Lib.hid (Xwb.out.drew.keep b'); have XNwc := Lib.hid (XNwb.out.drew.keep b'); have bz := (Below.refl _ wb).drew.trans b'; have BSwc := Lib.hid (BSwb.out.keep bz); have BNwc := Lib.hid (BNwb.out.keep bz); have HBwc := Lib.hid (HBwb.out.trans (bz.mono HBwb.out.size)); clear b' bz c0 c1 c2 c3 d0 d1 d2 d3; obtain ⟨-, c0, c1, c2, c3, -, -, -, -, -⟩ := Xwc.out; obtain ⟨-, d0, d1, d2, d3, -, -, -, -, -⟩ := XNwc.out))
          clear Xwb XNwb BSwb BNwb HBwb
          clear c0 c1 c2 c3 d0 d1 d2 d3 e1 e2 e3 e4 V1 V2 V3 V4 V5 V6
          cases bw with
          | false =>
            go_wp2
            go_roundw
            case rel => exact ⟨k + 1, by omega, by go_num, HBwc.out⟩
            case measure => simp [intOf]; omega
          | true =>
            have hbt : bi = true := HSt.out rfl
            subst hbt
            go_wp2
            go_roundw
            case rel => exact ⟨k + 1, by omega, by go_num, HBwc.out⟩
            case measure => simp [intOf]; omega
        · have hge : ¬ (k : Int) < (Q : Int) := by omega
          obtain ⟨-, c0, c1, c2, c3, -, -, -, -, -⟩ := Xwr.out
          go_wp2
          go_ret
          exact Ret.mk rfl Xwr.out.below
    · have hI : ¬ (20 : Int) < (M : Int) := by omega
      clear hAh
      go_wp2_with fail
      refine (L0.out _).mono ?_
      rintro e w3 ⟨rfl, b3⟩
      have X3 := Lib.hid (X1.out.keep b3)
      have HH3 := Lib.hid (HH1.out.keep b3)
      clear b3 X1 HH1 L0
      obtain ⟨-, c0, c1, c2, c3, -, -, -, -, -⟩ := X3.out
      go_wp2_with fail
      have BS3 := Lib.hid (HB0.out.keep X3.out.below)
      refine (CA.out _ BS3.out HH3.out).mono ?_
      rintro e w4 ⟨A3, K3, rfl, k1, k2, hO, b2⟩
      obtain ⟨Y, hY⟩ : ∃ Y, w4.alloc (.cells #[.int .i64 (wd : Int), .int .i64 (ht : Int), .int .i64 T, .slice A3 N K3] 30) = Y := ⟨_, rfl⟩
      have bY : Below w4.heap.size w4 Y := by rw [← hY]; exact (Below.refl _ _).alloc (Nat.le_refl _) _
      have bZY := b2.trans (bY.mono b2.size)
      have X5 := Lib.hid (X3.out.keep bZY)
      have BS5 := Lib.hid (BS3.out.keep bZY)
      have BN5 := Lib.hid (hO.bs.keep bY)
      have XN : Hid (Bx w w4.heap.size Y (.int .i64 (wd : Int)) (.int .i64 (ht : Int)) (.int .i64 T) (.slice A3 N K3)) := by
        show Bx _ _ _ _ _ _ _
        rw [← hY]
        exact Bx.next (X3.out.below.trans (b2.mono X3.out.below.size)) _ _ _ _ _
      obtain ⟨-, c0, c1, c2, c3, -, -, -, -, -⟩ := X5.out
      obtain ⟨-, d0, d1, d2, d3, -, -, -, -, -⟩ := XN.out
      rw [← hY] at c0 c1 c2 c3 d0 d1 d2 d3
      have HY := Lib.hid hY
      clear b2 bY hY bZY hO k1 k2 CA X3 HH3 BS3
      generalize hG : w4.heap.size = G at XN d0 d1 d2 d3
      subst hG
      go_wp2_with fail
      rw [HY.out]
      refine (C1.out _ _ _).mono ?_
      rintro e w6 ⟨rfl, b2⟩
      have X6 := Lib.hid (X5.out.keep b2)
      have XN6 := Lib.hid (XN.out.keep b2)
      have BS6 := Lib.hid (BS5.out.keep b2)
      have BN6 := Lib.hid (BN5.out.keep b2)
      clear b2 X5 XN BS5 BN5 HY c0 c1 c2 c3 d0 d1 d2 d3
      generalize w4.heap.size = G at *
      obtain ⟨-, c0, c1, c2, c3, -, -, -, -, -⟩ := X6.out
      obtain ⟨-, d0, d1, d2, d3, -, -, -, -, -⟩ := XN6.out
      go_wp2_with fail
      refine (C1.out _ _ _).mono ?_
      rintro e w7 ⟨rfl, b2⟩
      have X7 := Lib.hid (X6.out.keep b2)
      have XN7 := Lib.hid (XN6.out.keep b2)
      have BS7 := Lib.hid (BS6.out.keep b2)
      have BN7 := Lib.hid (BN6.out.keep b2)
      clear b2 X6 XN6 BS6 BN6 c0 c1 c2 c3 d0 d1 d2 d3
      obtain ⟨-, c0, c1, c2, c3, -, -, -, -, -⟩ := X7.out
      obtain ⟨-, d0, d1, d2, d3, -, -, -, -, -⟩ := XN7.out
      go_wp2_with fail
      refine (HA.out _ BS7.out).mono ?_
      rintro e w8 ⟨rfl, b2⟩
      have X8 := Lib.hid (X7.out.keep b2)
      have XN8 := Lib.hid (XN7.out.keep b2)
      have BS8 := Lib.hid (BS7.out.keep b2)
      have BN8 := Lib.hid (BN7.out.keep b2)
      clear b2 X7 XN7 BS7 BN7 c0 c1 c2 c3 d0 d1 d2 d3
      obtain ⟨-, c0, c1, c2, c3, -, -, -, -, -⟩ := X8.out
      obtain ⟨-, d0, d1, d2, d3, -, -, -, -, -⟩ := XN8.out
      go_wp2_with fail
      refine (HBt.out _ _ _ BN8.out).mono ?_
      rintro e w9 ⟨rfl, b2⟩
      have X9 := Lib.hid (X8.out.keep b2)
      have XN9 := Lib.hid (XN8.out.keep b2)
      have BS9 := Lib.hid (BS8.out.keep b2)
      have BN9 := Lib.hid (BN8.out.keep b2)
      clear b2 X8 XN8 BS8 BN8 c0 c1 c2 c3 d0 d1 d2 d3
      obtain ⟨-, c0, c1, c2, c3, -, -, -, -, -⟩ := X9.out
      obtain ⟨-, d0, d1, d2, d3, -, -, -, -, -⟩ := XN9.out
      have g0 := cell_regrown c0
      have g1 := cell_regrown c1
      have g2 := cell_regrown c2
      have g3 := cell_regrown c3
      have n0 := cell_regrown d0
      have n1 := cell_regrown d1
      have n2 := cell_regrown d2
      have n3 := cell_regrown d3
      have K1 := Lib.hid (calls_reL (V := w9) O1.out)
      have K2 := Lib.hid (calls_reL (V := w9) (O2.out A3 K3))
      have hee : (ee != ee) = false := by simp
      have hbb : (bo != bo) = false := by simp
      go_wp2_with fail
      refine wp_region_quiet_below (by kernel_rfl) (by kernel_rfl) ?_
      repeat (go_big_quiet_step (first | with_reducible exact K1.out _ _ | with_reducible exact K2.out _ _))
      refine wpQuiet_nil ?_
      intro _ hw'
      obtain ⟨⟨dq, osq⟩, hw''⟩ := hw'
      subst hw''
      clear g0 g1 g2 g3 n0 n1 n2 n3 c0 c1 c2 c3 d0 d1 d2 d3 K1 K2 hee hbb
      obtain ⟨V, hV⟩ : ∃ V, grow (redrawn w9 dq) osq = V := ⟨_, rfl⟩
      have bV : Below w9.heap.size w9 V := by rw [← hV]; exact below_regrown w9 dq osq
      rw [hV]
      have XV := Lib.hid (X9.out.keep bV)
      have XNV := Lib.hid (XN9.out.keep bV)
      have BSV := Lib.hid (BS9.out.keep bV)
      have BNV := Lib.hid (BN9.out.keep bV)
      clear bV hV X9 XN9 BS9 BN9
      have hA4 : wd * ht ≤ 4096 := Nat.mul_le_mul (show wd ≤ 64 by omega) (show ht ≤ 64 by omega)
      obtain ⟨Q, hQ⟩ : ∃ Q, wd * ht = Q := ⟨_, rfl⟩
      have eQ : (wd : Int) * (ht : Int) = (Q : Int) := by rw [← hQ]; exact (Int.natCast_mul _ _).symm
      have HQ := Lib.hid hQ
      rw [hQ] at hA4
      clear hQ
      go_wp2_with fail
      go_loopw [13] (fun t wr => ∃ k : Nat, k ≤ Q ∧ t = .int .i64 (k : Int) ∧ Below V.heap.size V wr) (fun t _ => Q - (intOf t).toNat)
      case atStart => exact ⟨0, by omega, rfl, Below.refl _ _⟩
      case round =>
        obtain ⟨k, hk, rfl, hB⟩ := hrel
        have HBwr := Lib.hid hB
        have Xwr := Lib.hid (XV.out.keep hB)
        have XNwr := Lib.hid (XNV.out.keep hB)
        have BSwr := Lib.hid (BSV.out.keep hB)
        have BNwr := Lib.hid (BNV.out.keep hB)
        clear hB
        by_cases hlt : k < Q
        · have hkI : (k : Int) < (Q : Int) := by omega
          have hk0 : (0 : Int) ≤ (k : Int) := by omega
          have wn0 : ¬ wd = 0 := by omega
          obtain ⟨r1, h1⟩ : ∃ r1, k % wd = r1 := ⟨_, rfl⟩
          obtain ⟨r2, h2⟩ : ∃ r2, k / wd = r2 := ⟨_, rfl⟩
          have q1 : r1 < wd := by rw [← h1]; exact Nat.mod_lt _ (by omega)
          have q2 : r2 < ht := by rw [← h2]; exact (Nat.div_lt_iff_lt_mul (by omega)).2 (by rw [Nat.mul_comm, HQ.out]; exact hlt)
          have q3 : (r1 : Int) < (wd : Int) := by omega
          have q4 : (r2 : Int) < (ht : Int) := by omega
          have z5 : (r2 : Int) ≤ 4096 := by omega
          have z6 : (r1 : Int) ≤ 4096 := by omega
          have z7 : (0 : Int) ≤ (r2 : Int) := by omega
          have z8 : (0 : Int) ≤ (r1 : Int) := by omega
          have V1 : IntKind.i64.wrap (r1 : Int) = (r1 : Int) := IntWalk.i64_in _ (by omega)
          have V2 : IntKind.i64.wrap (r2 : Int) = (r2 : Int) := IntWalk.i64_in _ (by omega)
          have V3 : wrap64 (r1 : Int) = (r1 : Int) := by unfold wrap64; simp only [Int.emod_def]; omega
          have V4 : wrap64 (r2 : Int) = (r2 : Int) := by unfold wrap64; simp only [Int.emod_def]; omega
          obtain ⟨bw, hbw⟩ : ∃ bw, opAt p wd T 2 (r1 : Int) (r2 : Int) = bw := ⟨_, rfl⟩
          obtain ⟨bi, hbi⟩ : ∃ bi, opAt q wd T 2 (r1 : Int) (r2 : Int) = bi := ⟨_, rfl⟩
          have HSt : Hid (bw = true → bi = true) := fun hh => by rw [← hbi]; exact ship_stays HQP.out wd T _ _ (by rw [hbw]; exact hh)
          have O2a : Hid (∀ u i j, i = (r1 : Int) → j = (r2 : Int) → Bs u A N p → Calls Try.prog 24 #[.agg #[.int .i64 (wd : Int), .int .i64 (ht : Int), .int .i64 T, .slice A N c], .int .i64 2, .int .i64 i, .int .i64 j] u (Ret (.tuple #[.bool bw, .int .i64 0]) u)) := by
            intro u i j hi hj hu
            have := OP.out 2 (r1 : Int) (r2 : Int) u (by decide) z8 q3 z7 q4 hu
            rw [hbw, ← hi, ← hj] at this
            exact this
          have O2b : Hid (∀ u i j, i = (r1 : Int) → j = (r2 : Int) → Bs u A3 N q → Calls Try.prog 24 #[.agg #[.int .i64 (wd : Int), .int .i64 (ht : Int), .int .i64 T, .slice A3 N K3], .int .i64 2, .int .i64 i, .int .i64 j] u (Ret (.tuple #[.bool bi, .int .i64 0]) u)) := by
            intro u i j hi hj hu
            have := OQ.out A3 K3 2 (r1 : Int) (r2 : Int) u (by decide) z8 q3 z7 q4 hu
            rw [hbi, ← hi, ← hj] at this
            exact this
          have O2c : Hid (∀ u i j, i = (r1 : Int) → j = (r2 : Int) → Bs u A3 N q → Calls Try.prog 24 #[.agg #[.int .i64 (wd : Int), .int .i64 (ht : Int), .int .i64 T, .slice A3 N K3], .int .i64 5, .int .i64 i, .int .i64 j] u (Ret (.tuple #[.bool true, .int .i64 0]) u)) := by
            intro u i j hi hj hu
            have := OQ.out A3 K3 5 (r1 : Int) (r2 : Int) u (by decide) z8 q3 z7 q4 hu
            rw [air_open, ← hi, ← hj] at this
            exact this
          clear hbw hbi q1 q2 q3 q4
          have e1 : (k : Int).tmod (wd : Int) = (r1 : Int) := by rw [← h1]; rfl
          have e2 : (k : Int).tdiv (wd : Int) = (r2 : Int) := by rw [← h2]; rfl
          have e3 : (k : Int) % (wd : Int) = (r1 : Int) := by rw [← h1]; rfl
          have e4 : (k : Int) / (wd : Int) = (r2 : Int) := by rw [← h2]; rfl
          have V5 : IntKind.i64.wrap ((k : Int).tmod (wd : Int)) = (r1 : Int) := by rw [e1]; exact V1
          have V6 : IntKind.i64.wrap ((k : Int).tdiv (wd : Int)) = (r2 : Int) := by rw [e2]; exact V2
          obtain ⟨-, c0, c1, c2, c3, -, -, -, -, -⟩ := Xwr.out
          obtain ⟨-, d0, d1, d2, d3, -, -, -, -, -⟩ := XNwr.out
          go_wp2_with fail
          go_region_held3 (fun w' => w'.cell? ⟨g0, 0, none⟩ = some (.int .i64 (wd : Int)) ∧ w'.cell? ⟨g0, 1, none⟩ = some (.int .i64 (ht : Int)) ∧ w'.cell? ⟨g0, 2, none⟩ = some (.int .i64 T) ∧ w'.cell? ⟨g0, 3, none⟩ = some (.slice A N c) ∧ w'.cell? ⟨G, 0, none⟩ = some (.int .i64 (wd : Int)) ∧ w'.cell? ⟨G, 1, none⟩ = some (.int .i64 (ht : Int)) ∧ w'.cell? ⟨G, 2, none⟩ = some (.int .i64 T) ∧ w'.cell? ⟨G, 3, none⟩ = some (.slice A3 N K3))
            (go_keep)
            ((go_at_call 24; refine (O2a.out wr.drew _ _ (by first | rfl | exact e1 | exact e3 | exact V1 | exact V5 | (rw [e1]; done) | (simp; omega)) (by first | rfl | exact e2 | exact e4 | exact V2 | exact V6 | (rw [e2]; done) | (simp; omega)) (BSwr.out.keep (Below.refl _ _).drew)).mono ?_; rintro e wa ⟨rfl, b'⟩; have Xwa := Lib.hid (Xwr.out.drew.keep b'); have XNwa := Lib.hid (XNwr.out.drew.keep b'); have bz := (Below.refl _ wr).drew.trans b'; have BSwa := Lib.hid (BSwr.out.keep bz); have BNwa := Lib.hid (BNwr.out.keep bz); have HBwa := Lib.hid (HBwr.out.trans (bz.mono HBwr.out.size)); clear b' bz c0 c1 c2 c3 d0 d1 d2 d3; obtain ⟨-, c0, c1, c2, c3, -, -, -, -, -⟩ := Xwa.out; obtain ⟨-, d0, d1, d2, d3, -, -, -, -, -⟩ := XNwa.out))
          clear Xwr XNwr BSwr BNwr HBwr
          go_wp2_with fail
          go_region_held3 (fun w' => w'.cell? ⟨g0, 0, none⟩ = some (.int .i64 (wd : Int)) ∧ w'.cell? ⟨g0, 1, none⟩ = some (.int .i64 (ht : Int)) ∧ w'.cell? ⟨g0, 2, none⟩ = some (.int .i64 T) ∧ w'.cell? ⟨g0, 3, none⟩ = some (.slice A N c) ∧ w'.cell? ⟨G, 0, none⟩ = some (.int .i64 (wd : Int)) ∧ w'.cell? ⟨G, 1, none⟩ = some (.int .i64 (ht : Int)) ∧ w'.cell? ⟨G, 2, none⟩ = some (.int .i64 T) ∧ w'.cell? ⟨G, 3, none⟩ = some (.slice A3 N K3))
            (go_keep)
            ((go_at_call 24; refine (O2b.out wa.drew _ _ (by first | rfl | exact e1 | exact e3 | exact V1 | exact V5 | (rw [e1]; done) | (simp; omega)) (by first | rfl | exact e2 | exact e4 | exact V2 | exact V6 | (rw [e2]; done) | (simp; omega)) (BNwa.out.keep (Below.refl _ _).drew)).mono ?_; rintro e wb ⟨rfl, b'⟩; have Xwb := Lib.hid (Xwa.out.drew.keep b'); have XNwb := Lib.hid (XNwa.out.drew.keep b'); have bz := (Below.refl _ wa).drew.trans b'; have BSwb := Lib.hid (BSwa.out.keep bz); have BNwb := Lib.hid (BNwa.out.keep bz); have HBwb := Lib.hid (HBwa.out.trans (bz.mono HBwa.out.size)); clear b' bz c0 c1 c2 c3 d0 d1 d2 d3; obtain ⟨-, c0, c1, c2, c3, -, -, -, -, -⟩ := Xwb.out; obtain ⟨-, d0, d1, d2, d3, -, -, -, -, -⟩ := XNwb.out))
          clear Xwa XNwa BSwa BNwa HBwa
          go_wp2_with fail
          go_region_held3 (fun w' => w'.cell? ⟨g0, 0, none⟩ = some (.int .i64 (wd : Int)) ∧ w'.cell? ⟨g0, 1, none⟩ = some (.int .i64 (ht : Int)) ∧ w'.cell? ⟨g0, 2, none⟩ = some (.int .i64 T) ∧ w'.cell? ⟨g0, 3, none⟩ = some (.slice A N c) ∧ w'.cell? ⟨G, 0, none⟩ = some (.int .i64 (wd : Int)) ∧ w'.cell? ⟨G, 1, none⟩ = some (.int .i64 (ht : Int)) ∧ w'.cell? ⟨G, 2, none⟩ = some (.int .i64 T) ∧ w'.cell? ⟨G, 3, none⟩ = some (.slice A3 N K3))
            (go_keep)
            ((go_at_call 24; refine (O2c.out wb.drew _ _ (by first | rfl | exact e1 | exact e3 | exact V1 | exact V5 | (rw [e1]; done) | (simp; omega)) (by first | rfl | exact e2 | exact e4 | exact V2 | exact V6 | (rw [e2]; done) | (simp; omega)) (BNwb.out.keep (Below.refl _ _).drew)).mono ?_; rintro e wc ⟨rfl, b'⟩; have Xwc := Lib.hid (Xwb.out.drew.keep b'); have XNwc := Lib.hid (XNwb.out.drew.keep b'); have bz := (Below.refl _ wb).drew.trans b'; have BSwc := Lib.hid (BSwb.out.keep bz); have BNwc := Lib.hid (BNwb.out.keep bz); have HBwc := Lib.hid (HBwb.out.trans (bz.mono HBwb.out.size)); clear b' bz c0 c1 c2 c3 d0 d1 d2 d3; obtain ⟨-, c0, c1, c2, c3, -, -, -, -, -⟩ := Xwc.out; obtain ⟨-, d0, d1, d2, d3, -, -, -, -, -⟩ := XNwc.out))
          clear Xwb XNwb BSwb BNwb HBwb
          clear c0 c1 c2 c3 d0 d1 d2 d3 e1 e2 e3 e4 V1 V2 V3 V4 V5 V6
          cases bw with
          | false =>
            go_wp2
            go_roundw
            case rel => exact ⟨k + 1, by omega, by go_num, HBwc.out⟩
            case measure => simp [intOf]; omega
          | true =>
            have hbt : bi = true := HSt.out rfl
            subst hbt
            go_wp2
            go_roundw
            case rel => exact ⟨k + 1, by omega, by go_num, HBwc.out⟩
            case measure => simp [intOf]; omega
        · have hge : ¬ (k : Int) < (Q : Int) := by omega
          obtain ⟨-, c0, c1, c2, c3, -, -, -, -, -⟩ := Xwr.out
          go_wp2
          go_ret
          exact Ret.mk rfl Xwr.out.below

set_option maxRecDepth 100000 in
set_option maxHeartbeats 3000000 in
theorem land_bad (W H T : Int) (A : Option Addr) (n c : Nat) (p : Nat → Nat) (Ah : Option Addr) (nh kh : Nat) (h : Nat → Ht) (x y : Int) (w : World) (hb : Bs w A n p) (hp : ∀ i, p i < 256) (hn : n ≤ c) (hc : c ≤ maxLen) (hH : Hs w Ah nh h) (hn2 : nh ≤ kh) (hkh : kh ≤ maxLen)
    (wx : (Lit.int .i64 x).wf = true) (wy : (Lit.int .i64 y).wf = true)
    (hbad : ¬ (Val W H T (fewN n) ∧ ∀ q, q < someN nh → Ok9 (h q))) :
    Calls Try.prog 7 #[.agg #[.int .i64 W, .int .i64 H, .int .i64 T, .slice A n c, .slice Ah nh kh, .int .i64 x, .int .i64 y]] w (Ret (.bool true) w) := by
  have hN := (fewN_le n).2
  have hM : fewN n ≤ maxLen := by unfold maxLen; omega
  have hLM : someN nh ≤ maxLen := by have := (someN_le nh).2; unfold maxLen; omega
  have HB0 := Lib.hid (hb.take (fewN_le n).1)
  have HHt := Lib.hid (hH.take (someN_le nh).1)
  have hso : (20 < nh ∧ someN nh = 20) ∨ (¬ 20 < nh ∧ someN nh = nh) := by unfold someN; split <;> omega
  have hAh : 20 < nh → ∃ g o, Ah = some ⟨g, o, none⟩ := fun hh => by obtain ⟨g, o, e, -⟩ := hH (by omega); exact ⟨g, o, e⟩
  have HF0 : ∀ u, Below w.heap.size w u → Calls Try.prog 21 #[.agg #[.int .i64 W, .int .i64 H, .int .i64 T, .slice A n c]] u (Ret (.agg #[.int .i64 W, .int .i64 H, .int .i64 T, .slice A (fewN n) c]) u) :=
    fun u hu => fewT_any W H T A n c p u (hb.keep hu) hn hc
  generalize fewN n = N at *
  generalize someN nh = M at *
  have CA := Lib.hid (fun u hH => all_bad W H T A N c M kh Ah h u hLM hM hH hbad)
  clear hbad hp
  have HF := Lib.hid HF0
  clear HF0
  have L0 : Hid (∀ u, Calls Try.prog 10 #[.agg #[.int .i64 0, .int .i64 0, .int .i64 1, .int .i64 3], .int .i64 0, .int .i64 0] u (Ret (.int .i64 3) u)) := by
    intro u
    have := Lowers_any ⟨0, 0, 1, 3⟩ 0 0 u
    rw [show lo9 ⟨0, 0, 1, 3⟩ 0 0 = 3 by decide] at this
    exact this
  have Y0 := Lib.hid (L7.new w (.int .i64 W) (.int .i64 H) (.int .i64 T) (.slice A n c) (.slice Ah nh kh) (.int .i64 x) (.int .i64 y) 45)
  clear hb hH hc hn
  unfold maxLen at hkh
  go_enter Try.func7, Try.ntmps7
  go_wp2_with fail
  generalize w.alloc (.cells #[.int .i64 W, .int .i64 H, .int .i64 T, .slice A n c, .slice Ah nh kh, .int .i64 x, .int .i64 y] 45) = w2 at *
  obtain ⟨c0, c1, c2, c3, c4, c5, c6, -⟩ := Y0.out
  have hne : w.heap.size ≠ w2.heap.size := by have := World.block_lt_of_cell? w2 _ c0; simp at this; omega
  go_cut [3, 4, 5, 6] (fun s3 s4 s5 s6 wx => ∃ g : Nat, s3 = .pointer (some ⟨g, 0, none⟩) ∧ s4 = .slice Ah nh kh ∧ s5 = .int .i64 x ∧ s6 = .int .i64 y ∧ Bx w g wx (.int .i64 W) (.int .i64 H) (.int .i64 T) (.slice A N c))
  case first =>
    go_region_held3 (fun w' => w'.cell? ⟨w.heap.size, 0, none⟩ = some (.int .i64 W) ∧ w'.cell? ⟨w.heap.size, 1, none⟩ = some (.int .i64 H) ∧ w'.cell? ⟨w.heap.size, 2, none⟩ = some (.int .i64 T) ∧ w'.cell? ⟨w.heap.size, 3, none⟩ = some (.slice A n c) ∧ w'.cell? ⟨w.heap.size, 4, none⟩ = some (.slice Ah nh kh) ∧ w'.cell? ⟨w.heap.size, 5, none⟩ = some (.int .i64 x) ∧ w'.cell? ⟨w.heap.size, 6, none⟩ = some (.int .i64 y))
      (go_keep)
      (first
        | (go_at_call 21; ((with_reducible refine (HF.out w2.drew Y0.out.below.drew).mono ?_)); rintro e w3 ⟨rfl, b3⟩; have YS := Lib.hid (Y0.out.drew.keep b3); clear b3; obtain ⟨c0, c1, c2, c3, c4, c5, c6, -⟩ := YS.out)
        | (go_at_call 21; ((with_reducible refine (HF.out (w2.alloc (.cells #[.int .i64 0, .int .i64 0, .int .i64 0, .slice none 0 0] 30)).drew (Y0.out.below.alloc Y0.out.below.size _).drew).mono ?_)); rintro e w3 ⟨rfl, b3⟩; have YS := Lib.hid ((Y0.out.keep ((Below.refl _ _).alloc (Nat.le_refl _) _)).drew.keep b3); have XN := Lib.hid ((Bx.next Y0.out.below (.int .i64 0) (.int .i64 0) (.int .i64 0) (.slice none 0 0) 30).drew.keep b3); clear b3; obtain ⟨c0, c1, c2, c3, c4, c5, c6, -⟩ := YS.out; obtain ⟨_, d0, d1, d2, d3, g0, g1, g2, g3, _⟩ := XN.out; have m0 := fun x y z u => far4 (x := x) (y := y) (z := z) (u := u) hne c0; have m1 := fun x y z u => far4 (x := x) (y := y) (z := z) (u := u) hne c1; have m2 := fun x y z u => far4 (x := x) (y := y) (z := z) (u := u) hne c2; have m3 := fun x y z u => far4 (x := x) (y := y) (z := z) (u := u) hne c3; have m4 := fun x y z u => far4 (x := x) (y := y) (z := z) (u := u) hne c4; have m5 := fun x y z u => far4 (x := x) (y := y) (z := z) (u := u) hne c5; have m6 := fun x y z u => far4 (x := x) (y := y) (z := z) (u := u) hne c6))
    all_goals (go_wp2_with fail; go_meet)
    all_goals (first | exact ⟨w3.heap.size, rfl, rfl, rfl, rfl, Bx.next YS.out.below _ _ _ _ _⟩ | exact ⟨w2.heap.size, rfl, rfl, rfl, rfl, XN.out.put _ _ _ _⟩)
  case rest =>
    obtain ⟨g0, rfl, rfl, rfl, rfl, hX⟩ := hcut
    clear HF Y0 c0 c1 c2 c3 c4 c5 c6 hne
    have X1 := Lib.hid hX
    clear hX
    rename World => wz
    have HH1 := Lib.hid (HHt.out.keep X1.out.below)
    clear HHt
    rcases hso with ⟨h20, rfl⟩ | ⟨h20, rfl⟩
    · obtain ⟨gh, oh, rfl⟩ := hAh h20
      have hc0 : ¬ kh = 0 := by omega
      have hc1 : (20 : Int) ≤ (kh : Int) := by omega
      have hI : (20 : Int) < (nh : Int) := by omega
      clear hAh
      go_wp2_with fail
      refine (L0.out _).mono ?_
      rintro e w3 ⟨rfl, b3⟩
      have X3 := Lib.hid (X1.out.keep b3)
      have HH3 := Lib.hid (HH1.out.keep b3)
      clear b3 X1 HH1 L0
      obtain ⟨-, c0, c1, c2, c3, -, -, -, -, -⟩ := X3.out
      go_wp2_with fail
      refine (CA.out _ HH3.out).mono ?_
      rintro e w4 ⟨rfl, b2⟩
      obtain ⟨Y, hY⟩ : ∃ Y, w4.alloc (.cells #[.int .i64 0, .int .i64 0, .int .i64 0, .slice none 0 0] 30) = Y := ⟨_, rfl⟩
      have bY : Below w4.heap.size w4 Y := by rw [← hY]; exact (Below.refl _ _).alloc (Nat.le_refl _) _
      have XN : Hid (Bx w w4.heap.size Y (.int .i64 0) (.int .i64 0) (.int .i64 0) (.slice none 0 0)) := by
        show Bx _ _ _ _ _ _ _
        rw [← hY]
        exact Bx.next (X3.out.below.trans (b2.mono X3.out.below.size)) _ _ _ _ _
      obtain ⟨-, d0, d1, d2, d3, -, -, -, -, -⟩ := XN.out
      rw [← hY] at d0 d1 d2 d3
      have HY := Lib.hid hY
      clear b2 bY hY c0 c1 c2 c3 CA X3 HH3
      go_wp2
      rw [HY.out]
      go_ret
      exact Ret.mk rfl XN.out.below
    · have hI : ¬ (20 : Int) < (M : Int) := by omega
      clear hAh
      go_wp2_with fail
      refine (L0.out _).mono ?_
      rintro e w3 ⟨rfl, b3⟩
      have X3 := Lib.hid (X1.out.keep b3)
      have HH3 := Lib.hid (HH1.out.keep b3)
      clear b3 X1 HH1 L0
      obtain ⟨-, c0, c1, c2, c3, -, -, -, -, -⟩ := X3.out
      go_wp2_with fail
      refine (CA.out _ HH3.out).mono ?_
      rintro e w4 ⟨rfl, b2⟩
      obtain ⟨Y, hY⟩ : ∃ Y, w4.alloc (.cells #[.int .i64 0, .int .i64 0, .int .i64 0, .slice none 0 0] 30) = Y := ⟨_, rfl⟩
      have bY : Below w4.heap.size w4 Y := by rw [← hY]; exact (Below.refl _ _).alloc (Nat.le_refl _) _
      have XN : Hid (Bx w w4.heap.size Y (.int .i64 0) (.int .i64 0) (.int .i64 0) (.slice none 0 0)) := by
        show Bx _ _ _ _ _ _ _
        rw [← hY]
        exact Bx.next (X3.out.below.trans (b2.mono X3.out.below.size)) _ _ _ _ _
      obtain ⟨-, d0, d1, d2, d3, -, -, -, -, -⟩ := XN.out
      rw [← hY] at d0 d1 d2 d3
      have HY := Lib.hid hY
      clear b2 bY hY c0 c1 c2 c3 CA X3 HH3
      go_wp2
      rw [HY.out]
      go_ret
      exact Ret.mk rfl XN.out.below

theorem walk_BivouacLand (W H T : Int) (A : Option Addr) (n c : Nat) (p : Nat → Nat) (Ah : Option Addr) (nh kh : Nat) (h : Nat → Ht) (x y : Int) (w : World) (hb : Bs w A n p) (hp : ∀ i, p i < 256) (hn : n ≤ c) (hc : c ≤ maxLen) (hH : Hs w Ah nh h) (hn2 : nh ≤ kh) (hkh : kh ≤ maxLen)
    (wx : (Lit.int .i64 x).wf = true) (wy : (Lit.int .i64 y).wf = true) :
    Calls Try.prog 7 #[.agg #[.int .i64 W, .int .i64 H, .int .i64 T, .slice A n c, .slice Ah nh kh, .int .i64 x, .int .i64 y]] w (Ret (.bool true) w) := by
  by_cases hv : Val W H T (fewN n) ∧ ∀ q, q < someN nh → Ok9 (h q)
  · exact land_ok W H T A n c p Ah nh kh h x y w hb hp hn hc hH hn2 hkh wx wy hv.1 hv.2
  · exact land_bad W H T A n c p Ah nh kh h x y w hb hp hn hc hH hn2 hkh wx wy hv

end Go.Proofs.Ytcneilhhpblclaa
