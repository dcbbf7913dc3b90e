/- Contracts: after; the reference's way, Price, Goes. -/
import Derived.Test.YtcipedijjemghaaDoorRt1
namespace Go.Proofs.YtcipedijjemghaaDoor
open Go.RowKit
set_option linter.unusedVariables false

theorem may_eq {W H : Int} {O : Nat → Bool} {i j : Int} {s : Nat} (hs : s < 8) (h0 : opL W H O i j = true) : mayL W H O i j s = (opL W H O (i + dI s) j && opL W H O i (j + dJ s) && opL W H O (i + dI s) (j + dJ s)) := by
  have : s = 0 ∨ s = 1 ∨ s = 2 ∨ s = 3 ∨ s = 4 ∨ s = 5 ∨ s = 6 ∨ s = 7 := by omega
  unfold mayL
  rw [h0]
  rcases this with rfl | rfl | rfl | rfl | rfl | rfl | rfl | rfl <;> simp [dI, dJ, h0, Bool.and_comm, Bool.and_assoc]
theorem cell13 {W H k : Int} (w1 : 1 ≤ W) (w2 : W ≤ 64) (h2 : H ≤ 64) (k0 : 0 ≤ k) (k1 : k < W * H) : 0 ≤ k % W ∧ k % W < W ∧ 0 ≤ k / W ∧ k / W < H :=
  ⟨Int.emod_nonneg _ (by omega), Int.emod_lt_of_pos _ (by omega), Int.ediv_nonneg k0 (by omega), Int.ediv_lt_of_lt_mul (by omega) (by rw [Int.mul_comm]; exact k1)⟩
theorem quo13 {W k : Int} (k0 : 0 ≤ k) : Int.tmod k W = k % W ∧ Int.tdiv k W = k / W := ⟨Int.tmod_eq_emod_of_nonneg k0, Int.tdiv_eq_ediv_of_nonneg k0⟩

set_option maxHeartbeats 2000000 in
theorem after13_any (W H : Int) (O : Nat → Bool) (k : Int) (s : Nat) (A : Option Addr) (n c : Nat) (w W0 : World) (hL : Lnd W H n) (hO : Bo W0 A n O) (hb : Below W0.heap.size W0 w) (hs : s < 8) (hk : isL W H O k) :
    Calls Tryd.prog 44 #[.agg #[.int .i64 W, .int .i64 H, .slice A n c], .int .i64 k, .agg #[.int .i64 (dI s), .int .i64 (dJ s), .int .i64 (prc s)]] w
      (Ret (.tuple #[.int .i64 (goL W H O k s), .bool (decide (0 ≤ goL W H O k s))]) w) := by
  obtain ⟨i0, i1, j0, j1⟩ := cell13 hL.w1 hL.w2 hL.h2 hk.1 hk.2.1
  have hop := op_of hL.w1 hk
  have hm := may_eq (s := s) hs hop
  obtain ⟨d1, d2⟩ := dI_bd s
  obtain ⟨d3, d4⟩ := dJ_bd s
  have hW := hL.w1
  have hW2 := hL.w2
  have hH2 := hL.h2
  have C := Lib.hid (fun u i j (hu : Below W0.heap.size W0 u) hi hj => open13_any W H O i j A n c u W0 hL hO hu hi hj)
  have HB := Lib.hid hb
  have ar := area13 hL.w1 hL.w2 hL.h1 hL.h2
  have HG : Hid (∀ b, mayL W H O (k % W) (k / W) s = b → goL W H O k s = (if b = true then W * (k / W + dJ s) + k % W + dI s else -1)) := by
    intro b e
    unfold goL
    rw [e]
  have HN : Hid (mayL W H O (k % W) (k / W) s = true → 0 ≤ goL W H O k s) := by
    intro e
    have := (isL_at (may_of e).2.1).1
    unfold goL
    rw [if_pos e]
    omega
  have HT : Hid (k + W * dJ s + dI s = W * (k / W + dJ s) + k % W + dI s) := by
    have := cell_at (W := W) k
    show _ = _
    rw [Int.mul_add]
    omega
  obtain ⟨t1, t2⟩ := quo13 (W := W) hk.1
  have k0 := hk.1
  have k1 := hk.2.1
  have hwd : W * -1 ≤ W * dJ s ∧ W * dJ s ≤ W * 1 := ⟨Int.mul_le_mul_of_nonneg_left d3 (by omega), Int.mul_le_mul_of_nonneg_left d4 (by omega)⟩
  have x1 : wrap64 (k % W + dI s) = k % W + dI s := IntWalk.wrap64_in _ (by omega)
  have x2 : wrap64 (k / W + dJ s) = k / W + dJ s := IntWalk.wrap64_in _ (by omega)
  have x3 : wrap64 (W * dJ s) = W * dJ s := IntWalk.wrap64_in _ (by omega)
  have x4 : wrap64 (k + W * dJ s) = k + W * dJ s := IntWalk.wrap64_in _ (by omega)
  have x5 : wrap64 (k + W * dJ s + dI s) = k + W * dJ s + dI s := IntWalk.wrap64_in _ (by omega)
  have x6 : wrap64 (k % W) = k % W := IntWalk.wrap64_in _ (by omega)
  have x7 : wrap64 (k / W) = k / W := IntWalk.wrap64_in _ (by omega)
  have hWz : (W == 0) = false := by simp; omega
  have hWz2 : ¬ W = 0 := by omega
  have K0 := Lib.hid ((Kx.new w 24 #[.int .i64 W, .int .i64 H, .slice A n c]).alloc (.cells #[.int .i64 (dI s), .int .i64 (dJ s), .int .i64 (prc s)] 79))
  have K1 : Hid (Kx w (w.heap.size + 1) ((w.alloc (.cells #[.int .i64 W, .int .i64 H, .slice A n c] 24)).alloc (.cells #[.int .i64 (dI s), .int .i64 (dJ s), .int .i64 (prc s)] 79)) 79 #[.int .i64 (dI s), .int .i64 (dJ s), .int .i64 (prc s)]) := by
    have := Kx.next (newBox (w := w) (.cells #[.int .i64 W, .int .i64 H, .slice A n c] 24)) 79 #[.int .i64 (dI s), .int .i64 (dJ s), .int .i64 (prc s)]
    rw [size_alloc] at this
    exact this
  clear hL hO hb hk hop
  generalize dI s = di at *
  generalize dJ s = dj at *
  generalize prc s = pr at *
  go_enter Tryd.func44, Tryd.ntmps44
  go_wp2
  generalize (w.alloc (.cells #[.int .i64 W, .int .i64 H, .slice A n c] 24)).alloc (.cells #[.int .i64 di, .int .i64 dj, .int .i64 pr] 79) = X at *
  have c0 := K0.out.cell 0 rfl
  have c1 := K0.out.cell 1 rfl
  have c2 := K0.out.cell 2 rfl
  go_quiet (fail)
  have Y0 := Lib.hid (K0.out.drewN nq)
  have Y1 := Lib.hid (K1.out.drewN nq)
  clear K0 K1 c0 c1 c2
  generalize X.drewN nq = Y at *
  have c0 := Y0.out.cell 0 rfl
  have c1 := Y0.out.cell 1 rfl
  have c2 := Y0.out.cell 2 rfl
  have d0 := Y1.out.cell 0 rfl
  have d1' := Y1.out.cell 1 rfl
  go_wp2_with fail
  refine (C.out _ _ _ (HB.out.trans (Y0.out.below.mono HB.out.size)) (by omega) (by omega)).mono ?_
  rintro e w1 ⟨rfl, b1⟩
  have Z0 := Lib.hid (Y0.out.keep b1)
  have Z1 := Lib.hid (Y1.out.keep b1)
  clear b1 Y0 Y1 c0 c1 c2 d0 d1'
  have c0 := Z0.out.cell 0 rfl
  have c1 := Z0.out.cell 1 rfl
  have c2 := Z0.out.cell 2 rfl
  have d0 := Z1.out.cell 0 rfl
  have d1' := Z1.out.cell 1 rfl
  have HF : Hid (mayL W H O (k % W) (k / W) s = false → goL W H O k s = -1) := by
    intro e
    rw [HG.out _ e]; rfl
  have HM : Hid (mayL W H O (k % W) (k / W) s = (opL W H O (k % W + di) (k / W) && opL W H O (k % W) (k / W + dj) && opL W H O (k % W + di) (k / W + dj))) := hm
  clear hm
  have FIN : Hid (goL W H O k s = -1 → Value.tuple #[.int .i64 (-1), .bool false] = Value.tuple #[.int .i64 (goL W H O k s), .bool (decide (0 ≤ goL W H O k s))]) := by
    intro e; rw [e]; rfl
  cases e1 : opL W H O (k % W + di) (k / W)
  · have HE := Lib.hid (FIN.out (HF.out (by rw [HM.out, e1]; rfl)))
    clear e1
    go_wp2
    go_ret2
    exact Ret.mk HE.out Z0.out.below
  · go_wp2_with fail
    refine (C.out _ _ _ (HB.out.trans (Z0.out.below.mono HB.out.size)) (by omega) (by omega)).mono ?_
    rintro e w2 ⟨rfl, b1⟩
    have Y0 := Lib.hid (Z0.out.keep b1)
    have Y1 := Lib.hid (Z1.out.keep b1)
    clear b1 Z0 Z1 c0 c1 c2 d0 d1'
    have c0 := Y0.out.cell 0 rfl
    have c1 := Y0.out.cell 1 rfl
    have c2 := Y0.out.cell 2 rfl
    have d0 := Y1.out.cell 0 rfl
    have d1' := Y1.out.cell 1 rfl
    cases e2 : opL W H O (k % W) (k / W + dj)
    · have HE := Lib.hid (FIN.out (HF.out (by rw [HM.out, e2]; simp)))
      clear e1 e2
      go_wp2
      go_ret2
      exact Ret.mk HE.out Y0.out.below
    · go_wp2_with fail
      refine (C.out _ _ _ (HB.out.trans (Y0.out.below.mono HB.out.size)) (by omega) (by omega)).mono ?_
      rintro e w3 ⟨rfl, b1⟩
      have Z0 := Lib.hid (Y0.out.keep b1)
      have Z1 := Lib.hid (Y1.out.keep b1)
      clear b1 Y0 Y1 c0 c1 c2 d0 d1'
      have c0 := Z0.out.cell 0 rfl
      have c1 := Z0.out.cell 1 rfl
      have c2 := Z0.out.cell 2 rfl
      have d0 := Z1.out.cell 0 rfl
      have d1' := Z1.out.cell 1 rfl
      cases e3 : opL W H O (k % W + di) (k / W + dj)
      · have HE := Lib.hid (FIN.out (HF.out (by rw [HM.out, e3]; simp)))
        clear e1 e2 e3
        go_wp2
        go_ret2
        exact Ret.mk HE.out Z0.out.below
      · have hmt : mayL W H O (k % W) (k / W) s = true := by rw [HM.out, e1, e2, e3]; rfl
        have HE : Hid (Value.tuple #[.int .i64 (k + W * dj + di), .bool true] = Value.tuple #[.int .i64 (goL W H O k s), .bool (decide (0 ≤ goL W H O k s))]) := by
          show _ = _
          rw [decide_eq_true (HN.out hmt), HG.out _ hmt, if_pos rfl, HT.out]
        clear e1 e2 e3 hmt
        go_wp2
        go_ret2
        exact Ret.mk HE.out Z0.out.below
end Go.Proofs.YtcipedijjemghaaDoor
