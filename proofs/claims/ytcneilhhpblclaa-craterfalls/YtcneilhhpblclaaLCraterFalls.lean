/- The walk of the law CraterFalls. -/
import Derived.Test.YtcneilhhpblclaaCrHelp
import Derived.Test.YtcneilhhpblclaaAwake9
import Derived.Test.YtcneilhhpblclaaLRelStart
import Derived.Test.YtcneilhhpblclaaRel12
import Derived.Lib.QuietBelow
import Derived.BigQuiet
namespace Go.Proofs.Ytcneilhhpblclaa
open Go.RowKit Go.Sort
set_option linter.unusedVariables false

theorem Val.sideN {W H T : Int} {n : Nat} (h : Val W H T n) : ∃ s : Nat, W + 1 = (s : Int) ∧ 2 ≤ s ∧ s ≤ 65 ∧ (W + 1).toNat = s := by
  obtain ⟨a, b, -⟩ := h.s
  exact ⟨(W + 1).toNat, by omega, by omega, by omega, rfl⟩
theorem bs_none (w : World) (p : Nat → Nat) : Bs w none 0 p := fun h => absurd h (by omega)
/-- A contract that ends in 'Ret', in a world of the class. -/
theorem calls_re {f : FuncId} {args : Array Value} {V : World} {v : Value} (h : ∀ u, Calls Try.prog f args u (Ret v u)) : ∀ d os, Calls Try.prog f args (grow (redrawn V d) os) fun e w'' => e = .returned v ∧ ∃ p : Regrown, w'' = grow (redrawn V p.d) p.os :=
  fun d os => Calls.regrown_of (h _)

set_option maxRecDepth 100000 in
set_option maxHeartbeats 1500000 in
theorem falls_ok (W H T : Int) (A : Option Addr) (n c : Nat) (p : Nat → Nat) (I J R D : Int) (w : World) (hb : Bs w A n p) (hp : ∀ i, p i < 256) (hn : n ≤ c) (hc : c ≤ maxLen)
    (hv : Val W H T (fewN n)) (hok : Ok9 ⟨I, J, R, D⟩) :
    Calls Try.prog 6 #[.agg #[.int .i64 W, .int .i64 H, .int .i64 T, .slice A n c], .agg #[.int .i64 I, .int .i64 J, .int .i64 R, .int .i64 D]] w (Ret (.bool true) w) := by
  obtain ⟨V, hV⟩ : ∃ V, (w.alloc (.cells #[.int .i64 W, .int .i64 H, .int .i64 T, .slice A n c] 30)).alloc (.cells #[.int .i64 I, .int .i64 J, .int .i64 R, .int .i64 D] 23) = V := ⟨_, rfl⟩
  have b1 : Below w.heap.size w (w.alloc (.cells #[.int .i64 W, .int .i64 H, .int .i64 T, .slice A n c] 30)) := (Below.refl _ _).alloc (Nat.le_refl _) _
  have M1 := (Bx.new w (.int .i64 W) (.int .i64 H) (.int .i64 T) (.slice A n c) 30).keep ((Below.refl _ _).alloc (Nat.le_refl _) (.cells #[.int .i64 I, .int .i64 J, .int .i64 R, .int .i64 D] 23))
  have H1 := Bx.next b1 (.int .i64 I) (.int .i64 J) (.int .i64 R) (.int .i64 D) 23
  have bV : Below (w.alloc (.cells #[.int .i64 W, .int .i64 H, .int .i64 T, .slice A n c] 30)).heap.size (w.alloc (.cells #[.int .i64 W, .int .i64 H, .int .i64 T, .slice A n c] 30)) V := by rw [← hV]; exact (Below.refl _ _).alloc (Nat.le_refl _) _
  have hs : (w.alloc (.cells #[.int .i64 W, .int .i64 H, .int .i64 T, .slice A n c] 30)).heap.size = w.heap.size + 1 := by simp
  rw [hs] at H1
  rw [hV] at M1 H1
  have HF := Lib.hid (few9_any W H T A n c p V (hb.keep M1.below) hn hc)
  have HS := Lib.hid (fun w1 (b : Below V.heap.size V w1) => Start.first (w := w) (w1 := w1) (W := W) (H := H) (T := T) (c := c) hb (bV.trans (b.mono bV.size)))
  have hN := (fewN_le n).2
  have hM : fewN n ≤ maxLen := by unfold maxLen; omega
  have HM := Lib.hid M1
  have HH := Lib.hid H1
  have HB0 := Lib.hid (hb.take (fewN_le n).1)
  have HV := Lib.hid hV
  obtain ⟨-, m0, m1, m2, m3, -, -, -, -, -⟩ := M1
  rw [← hV] at m0 m1 m2 m3
  clear hb hn hc hV b1 bV hs H1
  generalize fewN n = N at *
  obtain ⟨s, eW, hs2, hs65, eS⟩ := hv.sideN
  have hvs := hv.s
  have HVE := Lib.hid hv.e
  have ST := Lib.hid (fun (u : World) (hb : Bs u A N p) => strike_ok W H T A N c p ⟨I, J, R, D⟩ u hb hp hv hok)
  rw [eS] at ST
  have C1 := Lib.hid (fun B K u => refCheck_ok W H T B N K u hM hv)
  have HOK := Lib.hid hok
  have HP := Lib.hid hp
  clear hv hok hp eS
  go_enter Try.func6, Try.ntmps6
  go_wp2_with fail
  rw [HV.out]
  refine HF.out.mono ?_
  rintro e w1 ⟨rfl, b1⟩
  have X1 := Lib.hid (HM.out.keep b1)
  have Y1 := Lib.hid (HH.out.keep b1)
  have S0 := HS.out _ b1
  clear b1 HM HH HF HS m0 m1 m2 m3 HV
  obtain ⟨-, c0, c1, c2, c3, f0, f1, f2, f3, -⟩ := X1.out
  have Y2 := Lib.hid ((((Y1.out.far (j := w.heap.size) (i := 0) (by omega) (Nat.le_refl _) (.int .i64 W)).far (j := w.heap.size) (i := 1) (by omega) (Nat.le_refl _) (.int .i64 H)).far (j := w.heap.size) (i := 2) (by omega) (Nat.le_refl _) (.int .i64 T)).far (j := w.heap.size) (i := 3) (by omega) (Nat.le_refl _) (.slice A N c))
  obtain ⟨Z, hZ⟩ : ∃ Z, (((w1.setCell ⟨w.heap.size, 0, none⟩ (.int .i64 W)).setCell ⟨w.heap.size, 1, none⟩ (.int .i64 H)).setCell ⟨w.heap.size, 2, none⟩ (.int .i64 T)).setCell ⟨w.heap.size, 3, none⟩ (.slice A N c) = Z := ⟨_, rfl⟩
  rw [hZ] at Y2 S0
  have S1 := Lib.hid S0
  obtain ⟨⟨-, x0, x1, x2, x3, -, -, -, -, -⟩, -⟩ := S0
  obtain ⟨-, y0, y1, y2, y3, -, -, -, -, -⟩ := Y2.out
  rw [← hZ] at x0 x1 x2 x3 y0 y1 y2 y3
  have HZ := Lib.hid hZ
  clear hZ X1 Y1
  go_wp2_with fail
  rw [HZ.out]
  clear c0 c1 c2 c3 f0 f1 f2 f3 HZ x0 x1 x2 x3 y0 y1 y2 y3
  refine (ST.out _ S1.out.bs).mono ?_
  rintro e w2 ⟨A3, K3, rfl, k1, k2, hO, b2⟩
  obtain ⟨Y, hY⟩ : ∃ Y, w2.alloc (.cells #[.int .i64 W, .int .i64 H, .int .i64 T, .slice A3 N K3] 30) = Y := ⟨_, rfl⟩
  have bY : Below w2.heap.size w2 Y := by rw [← hY]; exact (Below.refl _ _).alloc (Nat.le_refl _) _
  have bZY := b2.trans (bY.mono b2.size)
  have S3 := Lib.hid (S1.out.keep bZY)
  have Y3 := Lib.hid (Y2.out.keep bZY)
  have XX : Hid (Bx w w2.heap.size Y (.int .i64 W) (.int .i64 H) (.int .i64 T) (.slice A3 N K3)) := by
    show Bx _ _ _ _ _ _ _
    rw [← hY]
    exact Bx.next (S1.out.bx.below.trans (b2.mono S1.out.bx.below.size)) _ _ _ _ _
  have OX := Lib.hid (hO.bs.keep bY)
  obtain ⟨-, d0, d1, d2, d3, -, -, -, -, -⟩ := XX.out
  rw [← hY] at d0 d1 d2 d3
  have HY := Lib.hid hY
  clear S1 Y2 b2 bY bZY hY k1 k2 hO ST
  generalize hG : w2.heap.size = G at XX d0 d1 d2 d3
  subst hG
  go_wp2_with fail
  rw [HY.out]
  refine (C1.out _ _ _).mono ?_
  rintro e w4 ⟨rfl, b2⟩
  have S4 := Lib.hid (S3.out.keep b2)
  have Y4 := Lib.hid (Y3.out.keep b2)
  have XX4 := Lib.hid (XX.out.keep b2)
  have OX4 := Lib.hid (OX.out.keep b2)
  clear b2 S3 Y3 XX OX HY d0 d1 d2 d3 C1
  obtain ⟨⟨-, c0, c1, c2, c3, -, -, -, -, -⟩, -⟩ := S4.out
  obtain ⟨-, d0, d1, d2, d3, -, -, -, -, -⟩ := XX4.out
  have hNN : ((N : Int) != (N : Int)) = false := by simp
  generalize w2.heap.size = G at *
  go_wp2_with fail
  clear c0 c1 c2 c3 d0 d1 d2 d3 hNN
  have hN0 : 0 < N := by
    have h1 : 1 * 1 ≤ (W + 1) * (H + 1) := Int.mul_le_mul (by have := hvs.1; omega) (by have := hvs.2.2.1; omega) (by omega) (by have := hvs.1; omega)
    have := HVE.out
    omega
  obtain ⟨ga, oa, rfl, hga, hca⟩ := S4.out.bs hN0
  obtain ⟨gx, ox, rfl, hgx, hcx⟩ := OX4.out hN0
  have HCa := Lib.hid hca
  have HCx := Lib.hid hcx
  clear hca hcx
  go_loopw [7] (fun t wr => ∃ k : Nat, k ≤ N ∧ t = .int .i64 (k : Int) ∧ Below w4.heap.size w4 wr) (fun t _ => N - (intOf t).toNat)
  case atStart => exact ⟨0, by omega, rfl, Below.refl _ _⟩
  case round =>
    obtain ⟨k, hk, rfl, hB⟩ := hrel
    have HB := Lib.hid hB
    have Sk := Lib.hid (S4.out.keep hB)
    have Xk := Lib.hid (XX4.out.keep hB)
    have Yk := Lib.hid (Y4.out.keep hB)
    by_cases hlt : k < N
    · have z0 := (hB.cell (p := ⟨ga, oa + k, none⟩) hga).trans (HCa.out k hlt)
      have z1 := (hB.cell (p := ⟨gx, ox + k, none⟩) hgx).trans (HCx.out k hlt)
      have hkI : (k : Int) < (N : Int) := by omega
      have hk0 : (0 : Int) ≤ (k : Int) := by omega
      obtain ⟨r1, h1⟩ : ∃ r1, k % s = r1 := ⟨_, rfl⟩
      obtain ⟨r2, h2⟩ : ∃ r2, k / s = r2 := ⟨_, rfl⟩
      obtain ⟨u, hu⟩ : ∃ u, p k = u := ⟨_, rfl⟩
      obtain ⟨v, hv⟩ : ∃ v, fell p s (fun _ => (⟨I, J, R, D⟩ : Ht)) 1 k = v := ⟨_, rfl⟩
      have hu2 : u < 256 := by rw [← hu]; exact HP.out k
      have hvu : v ≤ u := by rw [← hv, ← hu]; exact fell_le _ _ _ _ _
      have q3 : r2 ≤ k := by rw [← h2]; exact Nat.div_le_self _ _
      have q1 : r1 < s := by rw [← h1]; exact Nat.mod_lt _ (by omega)
      have q2 : r2 ≤ 64 := by
        have q : k < (H + 1).toNat * s := by
          have : ((k : Nat) : Int) < (((H + 1).toNat * s : Nat) : Int) := by
            rw [Int.natCast_mul, ← eW, show (((H + 1).toNat : Nat) : Int) = H + 1 by have := hvs.2.2.1; omega, Int.mul_comm, ← HVE.out]; omega
          omega
        have := (Nat.div_lt_iff_lt_mul (by omega)).2 q
        have := hvs.2.2.2.1
        omega
      have lwb : 0 ≤ lw ⟨I, J, R, D⟩ (r1 : Int) (r2 : Int) ∧ lw ⟨I, J, R, D⟩ (r1 : Int) (r2 : Int) ≤ D := lw_bd HOK.out (r1 : Int) (r2 : Int)
      have hDv : (u : Int) - (v : Int) ≤ D := by
        have e : v = u - (lw ⟨I, J, R, D⟩ (r1 : Int) (r2 : Int)).toNat := by rw [← hv, fell_succ, fell_zero, hu, h1, h2]
        omega
      have U1 : IntKind.i64.wrap ((u : Int) - (v : Int)) = (u : Int) - (v : Int) := IntWalk.i64_in _ (by omega)
      have U2 : IntKind.i64.wrap ((r1 : Int) + 1) = (r1 : Int) + 1 := IntWalk.i64_in _ (by omega)
      have U3 : IntKind.i64.wrap ((r2 : Int) - 1) = (r2 : Int) - 1 := IntWalk.i64_in _ (by omega)
      have n1 : decide ((u : Int) < (v : Int)) = false := by simp; omega
      have n2 : decide (u < v) = false := by simp; omega
      have n3 : decide (D < (u : Int) - (v : Int)) = false := by simp; omega
      have P1 : Plc (r1 : Int) := ⟨by omega, by omega⟩
      have P2 : Plc (r2 : Int) := ⟨by omega, by omega⟩
      have P3 : Plc ((r1 : Int) + 1) := ⟨by omega, by omega⟩
      have P4 : Plc ((r2 : Int) - 1) := ⟨by omega, by omega⟩
      obtain ⟨a1, ea1⟩ : ∃ a1, lo9 ⟨I, J, R, D⟩ ((r1 : Int) + 1) (r2 : Int) = a1 := ⟨_, rfl⟩
      obtain ⟨a2, ea2⟩ : ∃ a2, lo9 ⟨I, J, R, D⟩ (r1 : Int) (r2 : Int) = a2 := ⟨_, rfl⟩
      obtain ⟨a3, ea3⟩ : ∃ a3, lo9 ⟨I, J, R, D⟩ (r1 : Int) ((r2 : Int) - 1) = a3 := ⟨_, rfl⟩
      have T1 : I ≤ (r1 : Int) → a1 ≤ a2 := by
        intro hi
        rw [← ea1, ← ea2]
        unfold lo9
        rw [if_pos ⟨HOK.out, P3, P2⟩, if_pos ⟨HOK.out, P1, P2⟩]
        exact lw_far HOK.out (sq_right ⟨I, J, R, D⟩ (r2 : Int) hi)
      have T2 : (r2 : Int) ≤ J → a3 ≤ a2 := by
        intro hj
        rw [← ea3, ← ea2]
        unfold lo9
        rw [if_pos ⟨HOK.out, P1, P4⟩, if_pos ⟨HOK.out, P1, P2⟩]
        exact lw_far HOK.out (sq_down ⟨I, J, R, D⟩ (r1 : Int) hj)
      have L1 := fun u => Lowers_any ⟨I, J, R, D⟩ ((r1 : Int) + 1) (r2 : Int) u
      have L2 := fun u => Lowers_any ⟨I, J, R, D⟩ (r1 : Int) (r2 : Int) u
      have L3 := fun u => Lowers_any ⟨I, J, R, D⟩ (r1 : Int) ((r2 : Int) - 1) u
      rw [ea1] at L1
      rw [ea2] at L2
      rw [ea3] at L3
      unfold Go.Proofs.Ytcneilhhpblclaa.hv at L1 L2 L3
      have HL1 := Lib.hid L1
      have HL2 := Lib.hid L2
      have HL3 := Lib.hid L3
      have HT1 := Lib.hid T1
      have HT2 := Lib.hid T2
      have e1 : (k : Int).tmod (s : Int) = (r1 : Int) := by rw [← h1]; rfl
      have e2 : (k : Int).tdiv (s : Int) = (r2 : Int) := by rw [← h2]; rfl
      have e3 : (k : Int) % (s : Int) = (r1 : Int) := by rw [← h1]; rfl
      have e4 : (k : Int) / (s : Int) = (r2 : Int) := by rw [← h2]; rfl
      have wn0 : ¬ s = 0 := by omega
      have V1 : IntKind.i64.wrap (r1 : Int) = (r1 : Int) := IntWalk.i64_in _ (by omega)
      have V2 : IntKind.i64.wrap (r2 : Int) = (r2 : Int) := IntWalk.i64_in _ (by omega)
      have V3 : wrap64 (r1 : Int) = (r1 : Int) := by unfold wrap64; simp only [Int.emod_def]; omega
      have V4 : wrap64 (r2 : Int) = (r2 : Int) := by unfold wrap64; simp only [Int.emod_def]; omega
      have V5 : IntKind.i64.wrap ((k : Int).tmod (s : Int)) = (r1 : Int) := by rw [e1]; exact V1
      have V6 : IntKind.i64.wrap ((k : Int).tdiv (s : Int)) = (r2 : Int) := by rw [e2]; exact V2
      have V7 : IntKind.i64.wrap (u : Int) = (u : Int) := IntWalk.i64_in _ (by omega)
      have V8 : IntKind.i64.wrap (v : Int) = (v : Int) := IntWalk.i64_in _ (by omega)
      have V9 : IntKind.i64.wrap (s : Int) = (s : Int) := IntWalk.i64_in _ (by omega)
      have V0 : IntKind.i64.wrap (W + 1) = (s : Int) := by rw [eW]; exact V9
      rw [hu] at z0
      rw [hv] at z1
      obtain ⟨hW1, hW2, -⟩ := hvs
      obtain ⟨⟨-, c0, c1, c2, c3, -, -, -, -, -⟩, -⟩ := Sk.out
      obtain ⟨-, -, -, -, d3, -, -, -, -, -⟩ := Xk.out
      obtain ⟨-, y0, y1, y2, y3, -, -, -, -, -⟩ := Yk.out
      clear hB q1 q2 q3 c1 c2 hu hv hvu hDv lwb P1 P2 P3 P4 ea1 ea2 ea3 T1 T2 L1 L2 L3
      go_wp2_with fail
      go_quiet (fail)
      rename Nat => m1
      go_wp2_with fail
      go_quiet (fail)
      rename Nat => m2
      go_wp2_with fail
      obtain ⟨VV, hVV⟩ : ∃ VV, (wr.drewN m1).drewN m2 = VV := ⟨_, rfl⟩
      have bVV : Below wr.heap.size wr VV := by rw [← hVV]; exact bl9_drewN (bl9_drewN (Below.refl _ _) _) _
      have YV := Lib.hid (Yk.out.keep bVV)
      have BVV := Lib.hid (HB.out.trans (bVV.mono HB.out.size))
      rw [hVV]
      have g0 := cell_regrown YV.out.c0
      have g1 := cell_regrown YV.out.c1
      have g2 := cell_regrown YV.out.c2
      have g3 := cell_regrown YV.out.c3
      have K1 := Lib.hid (calls_re (V := VV) HL1.out)
      have K2 := Lib.hid (calls_re (V := VV) HL2.out)
      have K3 := Lib.hid (calls_re (V := VV) HL3.out)
      clear hVV bVV c0 c3 d3 y0 y1 y2 y3 z0 z1 HL1 HL2 HL3 V1 V2 V3 V4 V5 V6 V7 V8 V9 V0 U1 n1 n2 n3 e1 e2 e3 e4 wn0
      by_cases hgi : I ≤ (r1 : Int)
      · have t1 : decide (a2 < a1) = false := by have := HT1.out hgi; simp; omega
        by_cases hgj : (r2 : Int) ≤ J
        · have t2 : decide (a2 < a3) = false := by have := HT2.out hgj; simp; omega
          refine wp_region_quiet_below (by kernel_rfl) (by kernel_rfl) ?_
          repeat (go_big_quiet_step (first | with_reducible exact K1.out _ _ | with_reducible exact K2.out _ _ | with_reducible exact K3.out _ _))
          refine wpQuiet_nil ?_
          intro _ hw'
          obtain ⟨⟨dq, osq⟩, hw''⟩ := hw'
          subst hw''
          go_wp2
          go_roundw
          case rel => exact ⟨k + 1, by omega, by go_num, BVV.out.trans ((below_regrown VV dq osq).mono BVV.out.size)⟩
          case measure => simp [intOf]; omega
        · have hgj2 : decide ((r2 : Int) ≤ J) = false := by simpa using hgj
          clear hgj
          refine wp_region_quiet_below (by kernel_rfl) (by kernel_rfl) ?_
          repeat (go_big_quiet_step (first | with_reducible exact K1.out _ _ | with_reducible exact K2.out _ _ | with_reducible exact K3.out _ _))
          refine wpQuiet_nil ?_
          intro _ hw'
          obtain ⟨⟨dq, osq⟩, hw''⟩ := hw'
          subst hw''
          go_wp2
          go_roundw
          case rel => exact ⟨k + 1, by omega, by go_num, BVV.out.trans ((below_regrown VV dq osq).mono BVV.out.size)⟩
          case measure => simp [intOf]; omega
      · have hgi2 : decide (I ≤ (r1 : Int)) = false := by simpa using hgi
        clear hgi
        by_cases hgj : (r2 : Int) ≤ J
        · have t2 : decide (a2 < a3) = false := by have := HT2.out hgj; simp; omega
          refine wp_region_quiet_below (by kernel_rfl) (by kernel_rfl) ?_
          repeat (go_big_quiet_step (first | with_reducible exact K1.out _ _ | with_reducible exact K2.out _ _ | with_reducible exact K3.out _ _))
          refine wpQuiet_nil ?_
          intro _ hw'
          obtain ⟨⟨dq, osq⟩, hw''⟩ := hw'
          subst hw''
          go_wp2
          go_roundw
          case rel => exact ⟨k + 1, by omega, by go_num, BVV.out.trans ((below_regrown VV dq osq).mono BVV.out.size)⟩
          case measure => simp [intOf]; omega
        · have hgj2 : decide ((r2 : Int) ≤ J) = false := by simpa using hgj
          clear hgj
          refine wp_region_quiet_below (by kernel_rfl) (by kernel_rfl) ?_
          repeat (go_big_quiet_step (first | with_reducible exact K1.out _ _ | with_reducible exact K2.out _ _ | with_reducible exact K3.out _ _))
          refine wpQuiet_nil ?_
          intro _ hw'
          obtain ⟨⟨dq, osq⟩, hw''⟩ := hw'
          subst hw''
          go_wp2
          go_roundw
          case rel => exact ⟨k + 1, by omega, by go_num, BVV.out.trans ((below_regrown VV dq osq).mono BVV.out.size)⟩
          case measure => simp [intOf]; omega
    · have hge : ¬ (k : Int) < (N : Int) := by omega
      obtain ⟨⟨-, c0, c1, c2, c3, -, -, -, -, -⟩, -⟩ := Sk.out
      clear hB
      go_wp2_with fail
      refine (awake9_any _).mono ?_
      rintro e w9 ⟨rfl, b2⟩
      have S9 := Lib.hid ((Sk.out.keep b2).bx.below)
      clear b2
      go_wp2
      go_ret
      exact Ret.mk rfl S9.out

set_option maxRecDepth 100000 in
set_option maxHeartbeats 1500000 in
theorem falls_bad (W H T : Int) (A : Option Addr) (n c : Nat) (p : Nat → Nat) (I J R D : Int) (w : World) (hb : Bs w A n p) (hp : ∀ i, p i < 256) (hn : n ≤ c) (hc : c ≤ maxLen)
    (hbad : ¬ (Val W H T (fewN n) ∧ Ok9 ⟨I, J, R, D⟩)) :
    Calls Try.prog 6 #[.agg #[.int .i64 W, .int .i64 H, .int .i64 T, .slice A n c], .agg #[.int .i64 I, .int .i64 J, .int .i64 R, .int .i64 D]] w (Ret (.bool true) w) := by
  obtain ⟨V, hV⟩ : ∃ V, (w.alloc (.cells #[.int .i64 W, .int .i64 H, .int .i64 T, .slice A n c] 30)).alloc (.cells #[.int .i64 I, .int .i64 J, .int .i64 R, .int .i64 D] 23) = V := ⟨_, rfl⟩
  have b1 : Below w.heap.size w (w.alloc (.cells #[.int .i64 W, .int .i64 H, .int .i64 T, .slice A n c] 30)) := (Below.refl _ _).alloc (Nat.le_refl _) _
  have M1 := (Bx.new w (.int .i64 W) (.int .i64 H) (.int .i64 T) (.slice A n c) 30).keep ((Below.refl _ _).alloc (Nat.le_refl _) (.cells #[.int .i64 I, .int .i64 J, .int .i64 R, .int .i64 D] 23))
  have H1 := Bx.next b1 (.int .i64 I) (.int .i64 J) (.int .i64 R) (.int .i64 D) 23
  have bV : Below (w.alloc (.cells #[.int .i64 W, .int .i64 H, .int .i64 T, .slice A n c] 30)).heap.size (w.alloc (.cells #[.int .i64 W, .int .i64 H, .int .i64 T, .slice A n c] 30)) V := by rw [← hV]; exact (Below.refl _ _).alloc (Nat.le_refl _) _
  have hs : (w.alloc (.cells #[.int .i64 W, .int .i64 H, .int .i64 T, .slice A n c] 30)).heap.size = w.heap.size + 1 := by simp
  rw [hs] at H1
  rw [hV] at M1 H1
  have HF := Lib.hid (few9_any W H T A n c p V (hb.keep M1.below) hn hc)
  have HS := Lib.hid (fun w1 (b : Below V.heap.size V w1) => Start.first (w := w) (w1 := w1) (W := W) (H := H) (T := T) (c := c) hb (bV.trans (b.mono bV.size)))
  have hN := (fewN_le n).2
  have hM : fewN n ≤ maxLen := by unfold maxLen; omega
  have HM := Lib.hid M1
  have HH := Lib.hid H1
  have HB0 := Lib.hid (hb.take (fewN_le n).1)
  have HV := Lib.hid hV
  obtain ⟨-, m0, m1, m2, m3, -, -, -, -, -⟩ := M1
  rw [← hV] at m0 m1 m2 m3
  clear hb hn hc hV b1 bV hs H1
  generalize fewN n = N at *
  have ST := Lib.hid (fun (u : World) => strike_bad W H T A N c ⟨I, J, R, D⟩ u hM hbad)
  clear hbad hp
  go_enter Try.func6, Try.ntmps6
  go_wp2_with fail
  rw [HV.out]
  refine HF.out.mono ?_
  rintro e w1 ⟨rfl, b1⟩
  have X1 := Lib.hid (HM.out.keep b1)
  have Y1 := Lib.hid (HH.out.keep b1)
  have S0 := HS.out _ b1
  clear b1 HM HH HF HS m0 m1 m2 m3 HV
  obtain ⟨-, c0, c1, c2, c3, f0, f1, f2, f3, -⟩ := X1.out
  have Y2 := Lib.hid ((((Y1.out.far (j := w.heap.size) (i := 0) (by omega) (Nat.le_refl _) (.int .i64 W)).far (j := w.heap.size) (i := 1) (by omega) (Nat.le_refl _) (.int .i64 H)).far (j := w.heap.size) (i := 2) (by omega) (Nat.le_refl _) (.int .i64 T)).far (j := w.heap.size) (i := 3) (by omega) (Nat.le_refl _) (.slice A N c))
  obtain ⟨Z, hZ⟩ : ∃ Z, (((w1.setCell ⟨w.heap.size, 0, none⟩ (.int .i64 W)).setCell ⟨w.heap.size, 1, none⟩ (.int .i64 H)).setCell ⟨w.heap.size, 2, none⟩ (.int .i64 T)).setCell ⟨w.heap.size, 3, none⟩ (.slice A N c) = Z := ⟨_, rfl⟩
  rw [hZ] at Y2 S0
  have S1 := Lib.hid S0
  obtain ⟨⟨-, x0, x1, x2, x3, -, -, -, -, -⟩, -⟩ := S0
  obtain ⟨-, y0, y1, y2, y3, -, -, -, -, -⟩ := Y2.out
  rw [← hZ] at x0 x1 x2 x3 y0 y1 y2 y3
  have HZ := Lib.hid hZ
  clear hZ X1 Y1
  go_wp2_with fail
  rw [HZ.out]
  clear c0 c1 c2 c3 f0 f1 f2 f3 HZ x0 x1 x2 x3 y0 y1 y2 y3
  refine (ST.out _).mono ?_
  rintro e w2 ⟨rfl, b2⟩
  obtain ⟨Y, hY⟩ : ∃ Y, w2.alloc (.cells #[.int .i64 0, .int .i64 0, .int .i64 0, .slice none 0 0] 30) = Y := ⟨_, rfl⟩
  have bY : Below w2.heap.size w2 Y := by rw [← hY]; exact (Below.refl _ _).alloc (Nat.le_refl _) _
  have S3 := Lib.hid (S1.out.keep (b2.trans (bY.mono b2.size)))
  have X3 : Hid (Bx w2 w2.heap.size Y (.int .i64 0) (.int .i64 0) (.int .i64 0) (.slice none 0 0)) := by
    show Bx _ _ _ _ _ _ _
    rw [← hY]
    exact Bx.new w2 _ _ _ _ _
  obtain ⟨-, d0, d1, d2, d3, -, -, -, -, -⟩ := X3.out
  rw [← hY] at d0 d1 d2 d3
  have HY := Lib.hid hY
  clear S1 Y2 b2 bY hY ST
  go_wp2_with fail
  rw [HY.out]
  refine (same_yes 0 0 0 none none 0 0 0 p p _ (bs_none _ p) (bs_none _ p) (fun _ _ => rfl) (by decide)).mono ?_
  rintro e w6 ⟨rfl, b2⟩
  have S6 := Lib.hid (S3.out.keep b2)
  clear b2 S3 X3 HY d0 d1 d2 d3
  go_wp2_with fail
  refine (awake9_any _).mono ?_
  rintro e w7 ⟨rfl, b2⟩
  have S7 := Lib.hid (S6.out.keep b2).bx.below
  clear b2
  go_wp2
  go_ret
  exact Ret.mk rfl S7.out

theorem walk_CraterFalls (W H T : Int) (A : Option Addr) (n c : Nat) (p : Nat → Nat) (I J R D : Int) (w : World) (hb : Bs w A n p) (hp : ∀ i, p i < 256) (hn : n ≤ c) (hc : c ≤ maxLen) :
    Calls Try.prog 6 #[.agg #[.int .i64 W, .int .i64 H, .int .i64 T, .slice A n c], .agg #[.int .i64 I, .int .i64 J, .int .i64 R, .int .i64 D]] w (Ret (.bool true) w) := by
  by_cases hv : Val W H T (fewN n) ∧ Ok9 ⟨I, J, R, D⟩
  · exact falls_ok W H T A n c p I J R D w hb hp hn hc hv.1 hv.2
  · exact falls_bad W H T A n c p I J R D w hb hp hn hc hv

end Go.Proofs.Ytcneilhhpblclaa
