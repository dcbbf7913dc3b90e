/- Contracts of package crater, sixth part: after. -/
import Derived.Test.YtcneilhhpblclaaCr5
import Derived.Test.YtcneilhhpblclaaRel11
import Derived.Laws.CopyOwn
namespace Go.Proofs.Ytcneilhhpblclaa
open Go.RowKit Go.Shelf
set_option linter.unusedVariables false

theorem Bx.turn {w X Y : World} {g r : Nat} {a b c d : Value} (h : Bx w g X a b c d) (hg : X.grownBy Y (some r)) (hne : g ≠ r) (hr : w.heap.size ≤ r) : Bx w g Y a b c d := by
  have hl : g < X.heap.size := World.block_lt_of_cell? X _ h.c0
  have e : Y.heap[g]? = X.heap[g]? := hg.block g hl (fun e => hne (by first | exact Option.some.inj e | exact (Option.some.inj e).symm))
  have cc : ∀ i, Y.cell? ⟨g, i, none⟩ = X.cell? ⟨g, i, none⟩ := fun i => by unfold World.cell?; simp only [e]
  have ff : ∀ i, Y.frozen? ⟨g, i, none⟩ = X.frozen? ⟨g, i, none⟩ := fun i => by unfold World.frozen?; simp only [e]
  exact ⟨h.ge, (cc _).trans h.c0, (cc _).trans h.c1, (cc _).trans h.c2, (cc _).trans h.c3, (ff _).trans h.f0, (ff _).trans h.f1, (ff _).trans h.f2, (ff _).trans h.f3, h.below.trans ((Below.refl _ _).grown hg h.below.size (fun r' e => by injection e with e; omega))⟩

/-- The new row of bytes, the old ones copied into it. -/
theorem Br.copied (X : World) (n : Nat) (p : Nat → Nat) (g : Nat) (e : X.heap.size = g) :
    Br ((X.alloc (.cells (madeCells #[.int .u8 0] n) 5)).setRow g ((madeCells #[.int .u8 0] n).toList.take 0 ++ (bv p n ++ (madeCells #[.int .u8 0] n).toList.drop (0 + (bv p n).length))).toArray) g n p := by
  subst e
  refine ⟨_, setRow_heap _ _ _ _ _ _ (World.alloc_heap_new X _), fun i hi => ?_⟩
  have h1 : i < (bv p n).length := by rw [bv_length]; exact hi
  simp only [List.take_zero, List.nil_append, List.getElem?_toArray]
  rw [List.getElem?_append_left h1]
  exact bv_at p n i hi

set_option maxHeartbeats 1000000 in
theorem after_bad (W H T : Int) (A : Option Addr) (n c gb N hc : Nat) (AN : Option Addr) (h : Nat → Ht) (w : World) (hn : n ≤ maxLen) (hN : N ≤ maxLen) (hB : Boxed w gb 31 (.slice AN N hc)) (hH : Hs w AN N h)
    (hbad : ¬ (Val W H T n ∧ ∀ q, q < N → Ok9 (h q))) :
    Calls Try.prog 29 #[.agg #[.int .i64 W, .int .i64 H, .int .i64 T, .slice A n c], .func (.func 43) #[] #[.pointer (some ⟨gb, 0, none⟩)]] w
      (Ret (.tuple #[.agg #[.int .i64 0, .int .i64 0, .int .i64 0, .slice none 0 0], .int .i64 1]) w) := by
  obtain ⟨V, hV⟩ : ∃ V, (w.alloc (.cells #[.int .i64 W, .int .i64 H, .int .i64 T, .slice A n c] 30)).alloc (.cells #[.int .i64 0, .int .i64 0, .int .i64 0, .slice none 0 0] 30) = V := ⟨_, rfl⟩
  have b1 : Below w.heap.size w (w.alloc (.cells #[.int .i64 W, .int .i64 H, .int .i64 T, .slice A n c] 30)) := (Below.refl _ _).alloc (Nat.le_refl _) _
  have M1 := (Bx.new w (.int .i64 W) (.int .i64 H) (.int .i64 T) (.slice A n c) 30).keep ((Below.refl _ _).alloc (Nat.le_refl _) (.cells #[.int .i64 0, .int .i64 0, .int .i64 0, .slice none 0 0] 30))
  have R1 := Bx.next b1 (.int .i64 0) (.int .i64 0) (.int .i64 0) (.slice none 0 0) 30
  have hs : (w.alloc (.cells #[.int .i64 W, .int .i64 H, .int .i64 T, .slice A n c] 30)).heap.size = w.heap.size + 1 := by simp
  rw [hs] at R1
  rw [hV] at M1 R1
  have HM := Lib.hid M1
  have HR := Lib.hid R1
  have HV := Lib.hid hV
  have HB := Lib.hid hB
  have HH := Lib.hid hH
  obtain ⟨-, m0, m1, m2, m3, -, -, -, -, -⟩ := M1
  clear R1 b1 hs hB hH
  by_cases hv : Val W H T n
  · have C := Lib.hid (fun u => check_ok W H T A n c u hn hv)
    have VB : Hid (∀ u, Boxed u gb 31 (.slice AN N hc) → Hs u AN N h → Calls Try.prog 41 #[.func (.func 43) #[] #[.pointer (some ⟨gb, 0, none⟩)]] u (Ret (.bool false) u)) :=
      fun u h1 h2 => valid_any gb N hc AN h false ⟨(fun q => by cases q), fun q => absurd ⟨hv, q⟩ hbad⟩ u hN h1 h2
    have gl : gb < w.heap.size := HB.out.lt
    clear hbad hv
    rw [← hV] at m0 m1 m2 m3
    clear hV
    go_enter Try.func29, Try.ntmps29
    go_wp2_with fail
    refine (C.out _).mono ?_
    rw [HV.out]
    rintro e w1 ⟨rfl, b1⟩
    have HM1 := Lib.hid (HM.out.keep b1)
    have HR1 := Lib.hid (HR.out.keep b1)
    clear b1 m0 m1 m2 m3
    go_wp2_with fail
    refine (VB.out _ (box_keepB HB.out HM1.out.below gl) (HH.out.keep HM1.out.below)).mono ?_
    rintro e w2 ⟨rfl, b2⟩
    have HR2 := Lib.hid (HR1.out.keep b2)
    clear b2 HM1 HR1 C VB
    obtain ⟨-, c0, c1, c2, c3, f0, f1, f2, f3, -⟩ := HR2.out
    go_wp2
    have HP := HR2.out.put (.int .i64 0) (.int .i64 0) (.int .i64 0) (.slice none 0 0)
    unfold put4 at HP
    refine bodyPost_ret (v := .tuple #[.agg #[.int .i64 0, .int .i64 0, .int .i64 0, .slice none 0 0], .int .i64 1]) (by simp [results, Try.results29, go_sem, HP.c0, HP.c1, HP.c2, HP.c3]) rfl ?_
    exact Ret.mk rfl HP.below
  · have C := Lib.hid (fun u => check_any W H T A n c u hn)
    obtain ⟨k, ek⟩ : ∃ k, chk W H T n = k := ⟨_, rfl⟩
    obtain ⟨k1, k2⟩ := chk_bad hv
    rw [ek] at C k1 k2
    have hk : (k != 0) = true := by simp; omega
    clear hbad hv ek
    rw [← hV] at m0 m1 m2 m3
    clear hV
    go_enter Try.func29, Try.ntmps29
    go_wp2_with fail
    refine (C.out _).mono ?_
    rw [HV.out]
    rintro e w1 ⟨rfl, b1⟩
    have HR1 := Lib.hid (HR.out.keep b1)
    clear b1 m0 m1 m2 m3 C
    obtain ⟨-, c0, c1, c2, c3, f0, f1, f2, f3, -⟩ := HR1.out
    go_wp2
    have HP := HR1.out.put (.int .i64 0) (.int .i64 0) (.int .i64 0) (.slice none 0 0)
    unfold put4 at HP
    refine bodyPost_ret (v := .tuple #[.agg #[.int .i64 0, .int .i64 0, .int .i64 0, .slice none 0 0], .int .i64 1]) (by simp [results, Try.results29, go_sem, HP.c0, HP.c1, HP.c2, HP.c3]) rfl ?_
    exact Ret.mk rfl HP.below

set_option maxHeartbeats 2000000 in
theorem after_ok (W H T : Int) (A : Option Addr) (n c gb N hc : Nat) (AN : Option Addr) (p : Nat → Nat) (h : Nat → Ht) (w : World) (hN : N ≤ maxLen) (hb : Bs w A n p) (hp : ∀ i, p i < 256) (hB : Boxed w gb 31 (.slice AN N hc)) (hH : Hs w AN N h)
    (hv : Val W H T n) (hok : ∀ q, q < N → Ok9 (h q)) :
    Calls Try.prog 29 #[.agg #[.int .i64 W, .int .i64 H, .int .i64 T, .slice A n c], .func (.func 43) #[] #[.pointer (some ⟨gb, 0, none⟩)]] w
      (RetMap W H T n (fell p (W + 1).toNat h N) w) := by
  obtain ⟨hS, hnn⟩ := id hv
  obtain ⟨W1, W2, H1, H2, T1, T2⟩ := hS
  obtain ⟨a0, a1⟩ := area_bd W1 W2 H1 H2
  have hn4 : n ≤ 4225 := by omega
  have hn0 : 0 < n := by
    have : 1 * 1 ≤ (W + 1) * (H + 1) := Int.mul_le_mul (by omega) (by omega) (by omega) (by omega)
    omega
  obtain ⟨V, hV⟩ : ∃ V, (w.alloc (.cells #[.int .i64 W, .int .i64 H, .int .i64 T, .slice A n c] 30)).alloc (.cells #[.int .i64 0, .int .i64 0, .int .i64 0, .slice none 0 0] 30) = V := ⟨_, rfl⟩
  have b1 : Below w.heap.size w (w.alloc (.cells #[.int .i64 W, .int .i64 H, .int .i64 T, .slice A n c] 30)) := (Below.refl _ _).alloc (Nat.le_refl _) _
  have M1 := (Bx.new w (.int .i64 W) (.int .i64 H) (.int .i64 T) (.slice A n c) 30).keep ((Below.refl _ _).alloc (Nat.le_refl _) (.cells #[.int .i64 0, .int .i64 0, .int .i64 0, .slice none 0 0] 30))
  have R1 := Bx.next b1 (.int .i64 0) (.int .i64 0) (.int .i64 0) (.slice none 0 0) 30
  have hs : (w.alloc (.cells #[.int .i64 W, .int .i64 H, .int .i64 T, .slice A n c] 30)).heap.size = w.heap.size + 1 := by simp
  rw [hs] at R1
  rw [hV] at M1 R1
  have HM := Lib.hid M1
  have HR := Lib.hid R1
  have HV := Lib.hid hV
  have HB := Lib.hid hB
  have HH := Lib.hid hH
  have HBs := Lib.hid hb
  obtain ⟨-, m0, m1, m2, m3, -, -, -, -, -⟩ := M1
  clear R1 b1 hs hB hH
  have C := Lib.hid (fun u => check_ok W H T A n c u (by unfold maxLen; omega) hv)
  have VB : Hid (∀ u, Boxed u gb 31 (.slice AN N hc) → Hs u AN N h → Calls Try.prog 41 #[.func (.func 43) #[] #[.pointer (some ⟨gb, 0, none⟩)]] u (Ret (.bool true) u)) :=
    fun u h1 h2 => valid_any gb N hc AN h true ⟨fun _ => hok, fun _ => rfl⟩ u hN h1 h2
  have DB := Lib.hid (fun (cg : Nat) (u : World) (h1 : Below w.heap.size w u) (h2 : w.heap.size ≤ cg) (h3 : Br u cg n p) => dig_any W H T cg n n gb N hc AN p h w u hp hv hok hN HB.out HH.out h1 h2 h3)
  have gl : gb < w.heap.size := HB.out.lt
  have hmk := run_make_row' (P := Try.prog) 28 5 (.int .u8 0) 1 Try.underlying28 Try.infoB rfl .i64 .i64 n (by omega) (by omega)
  obtain ⟨i0, hi0, hz0, hz1, hz2⟩ := info_parts Try.infoB
  obtain ⟨ga, oa, rfl, hga, hcell⟩ := hb hn0
  clear hv hok hp hnn
  rw [← hV] at m0 m1 m2 m3
  clear hV
  go_enter Try.func29, Try.ntmps29
  go_wp2_with fail
  refine (C.out _).mono ?_
  rw [HV.out]
  rintro e w1 ⟨rfl, b1⟩
  have HM1 := Lib.hid (HM.out.keep b1)
  have HR1 := Lib.hid (HR.out.keep b1)
  clear b1 m0 m1 m2 m3
  go_wp2_with fail
  refine (VB.out _ (box_keepB HB.out HM1.out.below gl) (HH.out.keep HM1.out.below)).mono ?_
  rintro e w2 ⟨rfl, b2⟩
  have HM2 := Lib.hid (HM1.out.keep b2)
  have HR2 := Lib.hid (HR1.out.keep b2)
  have HBs2 := Lib.hid (HBs.out.keep HM2.out.below)
  clear b2 HM1 HR1 C VB HV HM HR hcell
  obtain ⟨X, hX⟩ : ∃ X, w2.alloc (.cells (madeCells #[.int .u8 0] n) 5) = X := ⟨_, rfl⟩
  have bX : Below w2.heap.size w2 X := by rw [← hX]; exact (Below.refl _ _).alloc (Nat.le_refl _) _
  have HMX := Lib.hid (HM2.out.keep bX)
  have HRX := Lib.hid (HR2.out.keep bX)
  have HX0 : Hid (X.heap[w2.heap.size]? = some (.cells (madeCells #[.int .u8 0] n) 5 (0, 0))) := by show _ = _; rw [← hX]; exact World.alloc_heap_new _ _
  have HBsX := Lib.hid (HBs2.out.keep bX)
  obtain ⟨Y, hY⟩ : ∃ Y, X.setRow w2.heap.size ((madeCells #[.int .u8 0] n).toList.take 0 ++ (bv p n ++ (madeCells #[.int .u8 0] n).toList.drop (0 + (bv p n).length))).toArray = Y := ⟨_, rfl⟩
  have HCp : Hid (Br Y w2.heap.size n p) := by
    have := Br.copied w2 n p w2.heap.size rfl
    rw [hX, hY] at this
    exact this
  have hlt : w.heap.size + 2 ≤ w2.heap.size := by have : w.heap.size + 1 < w2.heap.size := World.block_lt_of_cell? _ _ HR2.out.c0; omega
  have hbX : Below w.heap.size w X := HMX.out.below
  have HbX := Lib.hid hbX
  have hsz : (madeCells #[.int .u8 0] n).size = n := by rw [← Array.length_toList, toList_madeCells_one]; simp
  have bXY : X.grownBy Y (some w2.heap.size) := by rw [← hY]; exact ⟨rfl, rfl, rfl, by simp [World.setRow], fun k hk hne => setRow_other X w2.heap.size k _ (fun e => hne (by rw [e]))⟩
  have E1 : Hid ((Try.prog.info? 5).map (·.size) = some 1) := by show _ = _; rw [hi0]; exact congrArg some hz1
  have E2 : Hid ((bv p n).length = Nat.min n n) := by show _ = _; rw [bv_length]; exact (Nat.min_self n).symm
  have E3 : Hid (∀ j v, (bv p n)[j]? = some v → X.cell? ((⟨ga, oa, none⟩ : Addr).add j) = some v) := by
    obtain ⟨g, o, e, hg, hc⟩ := HBsX.out hn0
    injection e with e
    injection e with e1 e2
    subst e1 e2
    intro j u hj
    have hjl : j < n := by
      rcases Nat.lt_or_ge j n with h' | h'
      · exact h'
      · rw [List.getElem?_eq_none (by rw [bv_length]; exact h')] at hj; cases hj
    rw [bv_at _ _ _ hjl] at hj
    injection hj with hj
    have e : (⟨ga, oa, none⟩ : Addr).add j = ⟨ga, oa + j, none⟩ := by unfold Addr.add; split <;> simp_all
    rw [e, hc j hjl, hj]
  have E4 : Hid (0 + (bv p n).length ≤ (madeCells #[Value.int .u8 0] n).size) := by show _ ≤ _; rw [hsz, bv_length]; omega
  have E5 : Hid (∀ v ∈ bv p n, v.oneCell' = true) := by
    intro u hu
    simp [bv] at hu
    obtain ⟨i, _, rfl⟩ := hu
    rfl
  have HMY := Lib.hid (HMX.out.turn bXY (by omega) (by omega))
  have HRY := Lib.hid (HRX.out.turn bXY (by omega) (by omega))
  obtain ⟨-, m0, m1, m2, m3, -, -, -, -, -⟩ := HMX.out
  have q3 := HM2.out.c3
  have HY := Lib.hid hY
  clear bX hbX hsz HM2 HR2 HBs HBs2 bXY hY
  go_wp2_with (refine wpList_copy_own rfl (.tmp 20) (.tmp 22) 28 28 rfl 5 Try.underlying28 E1.out w2.heap.size 0 n n ⟨ga, oa, none⟩ n c rfl rfl _ _ HX0.out (bv p n) E2.out E3.out E4.out E5.out ?_; rw [HY.out]; clear m0 m1 m2 m3 q3 HX0 E1 E2 E3 E4 E5 hX HMX HRX HY; obtain ⟨-, m0, m1, m2, m3, k0, k1, k2, k3, -⟩ := HMY.out)
  have HM3 := Lib.hid (HMY.out.last (.slice (some ⟨w2.heap.size, 0, none⟩) n n))
  have HR3 := Lib.hid (HRY.out.far (j := w.heap.size) (i := 3) (by omega) (Nat.le_refl _) (.slice (some ⟨w2.heap.size, 0, none⟩) n n))
  have HC3 : Hid (Br (Y.setCell ⟨w.heap.size, 3, none⟩ (.slice (some ⟨w2.heap.size, 0, none⟩) n n)) w2.heap.size n p) := HCp.out.block (heap_setCell_other _ _ _ _ (by simp; omega))
  clear m0 m1 m2 m3 k0 k1 k2 k3 HMY HRY HCp
  refine (DB.out w2.heap.size _ HM3.out.below (by omega) HC3.out).mono ?_
  rintro e w4 ⟨rfl, hg, hBr⟩
  have HM4 := Lib.hid (HM3.out.turn hg (by omega) (by omega))
  have HR4 := Lib.hid (HR3.out.turn hg (by omega) (by omega))
  have HBr := Lib.hid hBr
  clear HM3 HR3 HC3 hg hBr DB
  obtain ⟨-, m0, m1, m2, m3, -, -, -, -, -⟩ := HM4.out
  obtain ⟨-, c0, c1, c2, c3, f0, f1, f2, f3, -⟩ := HR4.out
  go_wp2
  have HP := HR4.out.put (.int .i64 W) (.int .i64 H) (.int .i64 T) (.slice (some ⟨w2.heap.size, 0, none⟩) n n)
  have HO : Ob w4 w2.heap.size (some ⟨w2.heap.size, 0, none⟩) n (fell p (W + 1).toNat h N) := fun _ => ⟨w2.heap.size, rfl, Nat.le_refl _, HBr.out.lt, fun i hi => HBr.out.cell hi, fun i => HBr.out.frozen i⟩
  have HQ := HO.put (g := w.heap.size + 1) (by omega) (.int .i64 W) (.int .i64 H) (.int .i64 T) (.slice (some ⟨w2.heap.size, 0, none⟩) n n)
  unfold put4 at HP HQ
  refine bodyPost_ret (v := .tuple #[.agg #[.int .i64 W, .int .i64 H, .int .i64 T, .slice (some ⟨w2.heap.size, 0, none⟩) n n], .int .i64 0]) (by simp [results, Try.results29, go_sem, HP.c0, HP.c1, HP.c2, HP.c3]) rfl ?_
  exact ⟨_, n, rfl, Nat.le_refl _, by unfold maxLen; omega, HQ.base (by omega), HP.below⟩

end Go.Proofs.Ytcneilhhpblclaa
