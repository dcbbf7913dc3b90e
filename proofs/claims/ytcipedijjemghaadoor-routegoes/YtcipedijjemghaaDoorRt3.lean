/- Contracts: the reference's way, Price, Goes. -/
import Derived.Test.YtcipedijjemghaaDoorRt2
namespace Go.Proofs.YtcipedijjemghaaDoor
open Go.RowKit
set_option linter.unusedVariables false

set_option maxHeartbeats 1000000 in
theorem way13_any (s : Nat) (w : World) (hs : s < 8) : Calls Tryd.prog 29 #[.int .i64 (s : Int)] w (Ret (.tuple #[.int .i64 (dI s), .int .i64 (dJ s)]) w) := by
  have : s = 0 ∨ s = 1 ∨ s = 2 ∨ s = 3 ∨ s = 4 ∨ s = 5 ∨ s = 6 ∨ s = 7 := by omega
  rcases this with rfl | rfl | rfl | rfl | rfl | rfl | rfl | rfl <;>
  · go_enter Tryd.func29, Tryd.ntmps29
    go_wp2
    go_ret2
    exact Ret.mk rfl (Below.refl _ _)
theorem price13_any (s : Nat) (w : World) (hs : s < 8) : Calls Tryd.prog 19 #[.int .i64 (s : Int)] w (Ret (.int .i64 (prc s)) w) := by
  have : s = 0 ∨ s = 1 ∨ s = 2 ∨ s = 3 ∨ s = 4 ∨ s = 5 ∨ s = 6 ∨ s = 7 := by omega
  rcases this with rfl | rfl | rfl | rfl | rfl | rfl | rfl | rfl <;>
  · go_enter Tryd.func19, Tryd.ntmps19
    go_wp2
    go_ret
    exact Ret.mk rfl (Below.refl _ _)

theorem odd_yes {s : Nat} (h : s % 2 = 1) : ((s : Int) % 2 == 1) = true ∧ decide (s % 2 = 0) = false := by
  refine ⟨?_, ?_⟩ <;> simp <;> omega
theorem odd_no {s : Nat} (h : ¬ s % 2 = 1) : ((s : Int) % 2 == 1) = false ∧ decide (s % 2 = 0) = true := by
  refine ⟨?_, ?_⟩ <;> simp <;> omega
set_option maxHeartbeats 2000000 in
theorem goes13_any (W H : Int) (O : Nat → Bool) (k : Int) (s : Nat) (A : Option Addr) (n c : Nat) (w W0 : World) (hL : Lnd W H n) (hO : Bo W0 A n O) (hb : Below W0.heap.size W0 w) (hs : s < 8) (h0 : 0 ≤ k) (h1 : k < W * H) :
    Calls Tryd.prog 18 #[.agg #[.int .i64 W, .int .i64 H, .slice A n c], .int .i64 k, .int .i64 (s : Int)] w (Ret (.int .i64 (goL W H O k s)) w) := by
  obtain ⟨i0, i1, j0, j1⟩ := cell13 hL.w1 hL.w2 hL.h2 h0 h1
  obtain ⟨d1, d2⟩ := dI_bd s
  obtain ⟨d3, d4⟩ := dJ_bd s
  have hW := hL.w1
  have hW2 := hL.w2
  have hH2 := hL.h2
  have C := Lib.hid (fun u i j (hu : Below W0.heap.size W0 u) hi hj => is13_any W H O i j A n c u W0 hL hO hu hi hj)
  have CW := Lib.hid (fun u => way13_any s u hs)
  have HB := Lib.hid hb
  have ar := area13 hL.w1 hL.w2 hL.h1 hL.h2
  have HG : Hid (∀ b, mayL W H O (k % W) (k / W) s = b → goL W H O k s = (if b = true then W * (k / W + dJ s) + k % W + dI s else -1)) := by
    intro b e
    unfold goL
    rw [e]
  have HM : Hid (mayL W H O (k % W) (k / W) s = (opL W H O (k % W) (k / W) && opL W H O (k % W + dI s) (k / W + dJ s) && (decide (s % 2 = 0) || (opL W H O (k % W + dI s) (k / W) && opL W H O (k % W) (k / W + dJ s))))) := rfl
  obtain ⟨t1, t2⟩ := quo13 (W := W) h0
  have t3 : Int.tmod (s : Int) 2 = (s : Int) % 2 := Int.tmod_eq_emod_of_nonneg (by omega)
  have hwd : 0 ≤ W * (k / W + dJ s) + W ∧ W * (k / W + dJ s) ≤ 64 * 64 := by
    have a1 := Int.mul_nonneg (show 0 ≤ W by omega) (show 0 ≤ k / W + dJ s + 1 by omega)
    have a2 : W * (k / W + dJ s) ≤ W * 64 := Int.mul_le_mul_of_nonneg_left (by omega) (by omega)
    rw [Int.mul_add _ _ 1] at a1
    omega
  have x1 : wrap64 (k % W + dI s) = k % W + dI s := IntWalk.wrap64_in _ (by omega)
  have x2 : wrap64 (k / W + dJ s) = k / W + dJ s := IntWalk.wrap64_in _ (by omega)
  have x3 : wrap64 (W * (k / W + dJ s)) = W * (k / W + dJ s) := IntWalk.wrap64_in _ (by omega)
  have x4 : wrap64 (W * (k / W + dJ s) + k % W) = W * (k / W + dJ s) + k % W := IntWalk.wrap64_in _ (by omega)
  have x5 : wrap64 (W * (k / W + dJ s) + k % W + dI s) = W * (k / W + dJ s) + k % W + dI s := IntWalk.wrap64_in _ (by omega)
  have x6 : wrap64 (k % W) = k % W := IntWalk.wrap64_in _ (by omega)
  have x7 : wrap64 (k / W) = k / W := IntWalk.wrap64_in _ (by omega)
  have x8 : wrap64 ((s : Int) % 2) = (s : Int) % 2 := IntWalk.wrap64_in _ (by omega)
  have hWz : (W == 0) = false := by simp; omega
  have hWz2 : ¬ W = 0 := by omega
  have K0 := Lib.hid (Kx.new w 24 #[.int .i64 W, .int .i64 H, .slice A n c])
  have FIN : Hid (mayL W H O (k % W) (k / W) s = false → Value.int .i64 (-1) = Value.int .i64 (goL W H O k s)) := by
    intro e; rw [HG.out _ e]; rfl
  have FIT : Hid (mayL W H O (k % W) (k / W) s = true → Value.int .i64 (W * (k / W + dJ s) + k % W + dI s) = Value.int .i64 (goL W H O k s)) := by
    intro e; rw [HG.out _ e, if_pos rfl]
  clear hL hO hb ar
  obtain ⟨hwd1, hwd2⟩ := hwd
  generalize dI s = di at *
  generalize dJ s = dj at *
  go_enter Tryd.func18, Tryd.ntmps18
  go_wp2_with fail
  refine (CW.out _).mono ?_
  rintro e w1 ⟨rfl, b1⟩
  have Z0 := Lib.hid (K0.out.keep b1)
  clear b1 K0 CW
  have c0 := Z0.out.cell 0 rfl
  have c1 := Z0.out.cell 1 rfl
  have c2 := Z0.out.cell 2 rfl
  go_wp2
  go_quiet (fail)
  have Y0 := Lib.hid (Z0.out.drewN nq)
  clear Z0 c0 c1 c2
  generalize w1.drewN nq = Y at *
  have c0 := Y0.out.cell 0 rfl
  have c1 := Y0.out.cell 1 rfl
  have c2 := Y0.out.cell 2 rfl
  go_wp2_with fail
  refine (C.out _ _ _ (HB.out.trans (Y0.out.below.mono HB.out.size)) (by omega) (by omega)).mono ?_
  rintro e w1 ⟨rfl, b1⟩
  have Z0 := Lib.hid (Y0.out.keep b1)
  clear b1 Y0 c0 c1 c2
  have c0 := Z0.out.cell 0 rfl
  have c1 := Z0.out.cell 1 rfl
  have c2 := Z0.out.cell 2 rfl
  cases e1 : opL W H O (k % W) (k / W)
  · have HE := Lib.hid (FIN.out (by rw [HM.out, e1]; simp))
    clear e1
    go_wp2
    go_ret
    exact Ret.mk HE.out Z0.out.below
  · go_wp2_with fail
    refine (C.out _ _ _ (HB.out.trans (Z0.out.below.mono HB.out.size)) (by omega) (by omega)).mono ?_
    rintro e w2 ⟨rfl, b1⟩
    have Y0 := Lib.hid (Z0.out.keep b1)
    clear b1 Z0 c0 c1 c2
    have c0 := Y0.out.cell 0 rfl
    have c1 := Y0.out.cell 1 rfl
    have c2 := Y0.out.cell 2 rfl
    cases e2 : opL W H O (k % W + di) (k / W + dj)
    · have HE := Lib.hid (FIN.out (by rw [HM.out, e2]; simp))
      clear e1 e2
      go_wp2
      go_ret
      exact Ret.mk HE.out Y0.out.below
    · by_cases hodd : s % 2 = 1
      · obtain ⟨hq, he⟩ := odd_yes hodd
        go_wp2_with fail
        refine (C.out _ _ _ (HB.out.trans (Y0.out.below.mono HB.out.size)) (by omega) (by omega)).mono ?_
        rintro e w3 ⟨rfl, b1⟩
        have Z0 := Lib.hid (Y0.out.keep b1)
        clear b1 Y0 c0 c1 c2
        have c0 := Z0.out.cell 0 rfl
        have c1 := Z0.out.cell 1 rfl
        have c2 := Z0.out.cell 2 rfl
        cases e3 : opL W H O (k % W + di) (k / W)
        · have HE := Lib.hid (FIN.out (by rw [HM.out, e1, e2, e3, he]; simp))
          clear e1 e2 e3
          go_wp2
          go_ret
          exact Ret.mk HE.out Z0.out.below
        · go_wp2_with fail
          refine (C.out _ _ _ (HB.out.trans (Z0.out.below.mono HB.out.size)) (by omega) (by omega)).mono ?_
          rintro e w4 ⟨rfl, b1⟩
          have Y0 := Lib.hid (Z0.out.keep b1)
          clear b1 Z0 c0 c1 c2
          have c0 := Y0.out.cell 0 rfl
          have c1 := Y0.out.cell 1 rfl
          have c2 := Y0.out.cell 2 rfl
          cases e4 : opL W H O (k % W) (k / W + dj)
          · have HE := Lib.hid (FIN.out (by rw [HM.out, e1, e2, e3, e4, he]; simp))
            clear e1 e2 e3 e4
            go_wp2
            go_ret
            exact Ret.mk HE.out Y0.out.below
          · have HE := Lib.hid (FIT.out (by rw [HM.out, e1, e2, e3, e4]; simp))
            clear e1 e2 e3 e4
            go_wp2
            go_ret
            exact Ret.mk HE.out Y0.out.below
      · obtain ⟨hq, he⟩ := odd_no hodd
        have HE := Lib.hid (FIT.out (by rw [HM.out, e1, e2, he]; simp))
        clear e1 e2
        go_wp2
        go_ret
        exact Ret.mk HE.out Y0.out.below
end Go.Proofs.YtcipedijjemghaaDoor
