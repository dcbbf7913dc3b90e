/- The walk of the law CraterStrikes where all may be. -/
import Derived.Test.YtcneilhhpblclaaCrHelp
import Derived.Test.YtcneilhhpblclaaAwake9
import Derived.Test.YtcneilhhpblclaaLRelStart
import Derived.Test.YtcneilhhpblclaaRel12
import Derived.Deep.RegionHeld3
namespace Go.Proofs.Ytcneilhhpblclaa
open Go.RowKit
set_option linter.unusedVariables false

theorem Val.sideN {W H T : Int} {n : Nat} (h : Val W H T n) : ∃ s : Nat, W + 1 = (s : Int) ∧ 2 ≤ s ∧ s ≤ 65 ∧ (W + 1).toNat = s := by
  obtain ⟨a, b, -⟩ := h.s
  exact ⟨(W + 1).toNat, by omega, by omega, by omega, rfl⟩
theorem bs_none (w : World) (p : Nat → Nat) : Bs w none 0 p := fun h => absurd h (by omega)

set_option maxRecDepth 100000 in
set_option maxHeartbeats 2000000 in
theorem strikes_ok (W H T : Int) (A : Option Addr) (n c : Nat) (p : Nat → Nat) (Ah : Option Addr) (nh kh : Nat) (h : Nat → Ht) (w : World) (hb : Bs w A n p) (hp : ∀ i, p i < 256) (hn : n ≤ c) (hc : c ≤ maxLen) (hH : Hs w Ah nh h) (hn2 : nh ≤ kh) (hkh : kh ≤ maxLen)
    (hv : Val W H T (fewN n)) (hok : ∀ q, q < someN nh → Ok9 (h q)) :
    Calls Try.prog 4 #[.agg #[.int .i64 W, .int .i64 H, .int .i64 T, .slice A n c], .slice Ah nh kh] w (Ret (.bool true) w) := by
  have HF := Lib.hid (few9_any W H T A n c p _ (hb.alloc (.cells #[.int .i64 W, .int .i64 H, .int .i64 T, .slice A n c] 30)) hn hc)
  have HS := Lib.hid (fun w1 => Start.first (w := w) (w1 := w1) (W := W) (H := H) (T := T) (c := c) hb)
  have HSo := Lib.hid (fun u hu => some_any Ah nh kh h u hu hn2 hkh)
  have hN := (fewN_le n).2
  have hM : fewN n ≤ maxLen := by unfold maxLen; omega
  have hL := (someN_le nh).2
  have hLM : someN nh ≤ maxLen := by unfold maxLen; omega
  have HX := Lib.hid (Bx.new w (.int .i64 W) (.int .i64 H) (.int .i64 T) (.slice A n c) 30)
  have HH := Lib.hid hH
  have HHt := Lib.hid (hH.take (someN_le nh).1)
  clear hb hn hc hH hn2 hkh
  generalize fewN n = N at *
  generalize someN nh = M at *
  obtain ⟨s, eW, hs2, hs65, eS⟩ := hv.sideN
  have hvs := hv.s
  have HVE := Lib.hid hv.e
  have CA := Lib.hid (fun u hb hH => all_ok W H T A N c M kh Ah p h u hLM hb hp hH hv hok)
  rw [eS] at CA
  have C1 := Lib.hid (fun u => refCheck_ok W H T A N c u hM hv)
  have C2 := Lib.hid (fun u hu => mayL_any Ah M kh h u hu hLM true ⟨fun _ => hok, fun _ => rfl⟩)
  have CC : Hid (∀ (k r1 r2 : Nat) (x y : Int) (u : World), x = (r1 : Int) → y = (r2 : Int) → Plc (r1 : Int) → Plc (r2 : Int) → Hs u Ah M h →
      Calls Try.prog 19 #[.int .i64 (p k : Int), .slice Ah M kh, .int .i64 x, .int .i64 y] u (Ret (.int .i64 ((p k - drp h (r1 : Int) (r2 : Int) M : Nat) : Int)) u)) := by
    intro k r1 r2 x y u hx hy h1 h2 hu
    subst hx hy
    exact corner_any (p k) Ah M kh h (r1 : Int) (r2 : Int) u (hp k) hu hLM hok h1 h2
  have CT := Lib.hid (fun (q : Nat → Nat) (x : Ht) (u : World) (hb : Bs u A N q) (hq : ∀ i, q i < 256) (hx : Ok9 x) => strike_ok W H T A N c q x u hb hq hv hx)
  have HP := Lib.hid hp
  have HOK := Lib.hid hok
  clear hv hok hp
  go_enter Try.func4, Try.ntmps4
  go_wp2_with fail
  refine HF.out.mono ?_
  rintro e w1 ⟨rfl, b1⟩
  have X1 := Lib.hid (HX.out.keep b1)
  have S0 := HS.out _ b1
  have HH1 := Lib.hid (HH.out.keep X1.out.below)
  clear b1 HX HF HS
  obtain ⟨-, c0, c1, c2, c3, f0, f1, f2, f3, -⟩ := X1.out
  go_wp2_with fail
  refine (HSo.out _ HH1.out).mono ?_
  rintro e w1' ⟨rfl, rfl⟩
  have S1 := Lib.hid S0
  obtain ⟨⟨-, c0, c1, c2, c3, -, -, -, -, -⟩, -⟩ := S0
  have cA := conv_any S1.out.bs c
  have HHa := Lib.hid (HHt.out.keep S1.out.bx.below)
  go_wp2_with fail
  refine (CA.out _ S1.out.bs HHa.out).mono ?_
  rintro e w2 ⟨A3, K3, rfl, k1, k2, hO, b2⟩
  have S2 := S1.out.keep b2
  have O2 := hO.bs
  have HH2 := HHa.out.keep b2
  have HK := Lib.hid k1
  clear k1 k2 hO b2 c0 c1 c2 c3 f0 f1 f2 f3 cA S1 X1 HH1 HHa HSo HH HHt CA
  obtain ⟨Y, hY⟩ : ∃ Y, w2.alloc (.cells #[.int .i64 W, .int .i64 H, .int .i64 T, .slice A3 N K3] 30) = Y := ⟨_, rfl⟩
  have bY : Below w2.heap.size w2 Y := by rw [← hY]; exact (Below.refl _ _).alloc (Nat.le_refl _) _
  have S3 := Lib.hid (S2.keep bY)
  have O3 := Lib.hid (O2.keep bY)
  have HH3 := Lib.hid (HH2.keep bY)
  have X3 : Hid (Bx w2 w2.heap.size Y (.int .i64 W) (.int .i64 H) (.int .i64 T) (.slice A3 N K3)) := by rw [← hY]; exact Bx.new w2 _ _ _ _ _
  obtain ⟨⟨-, c0, c1, c2, c3, -, -, -, -, -⟩, -⟩ := S3.out
  rw [← hY] at c0 c1 c2 c3
  have HY := Lib.hid hY
  have hgg : w.heap.size < w2.heap.size := World.block_lt_of_cell? w2 _ S2.bx.c0
  clear S2 O2 HH2 bY hY
  go_wp2_with fail
  rw [HY.out]
  refine (C1.out _).mono ?_
  rintro e w4 ⟨rfl, b2⟩
  have S4 := Lib.hid (S3.out.keep b2)
  have O4 := Lib.hid (O3.out.keep b2)
  have HH4 := Lib.hid (HH3.out.keep b2)
  have X4 := Lib.hid (X3.out.keep b2)
  clear b2 S3 O3 HH3 X3 c0 c1 c2 c3 C1 HY
  go_wp2_with fail
  refine (C2.out _ HH4.out).mono ?_
  rintro e w5 ⟨rfl, b2⟩
  have S5 := Lib.hid (S4.out.keep b2)
  have O5 := Lib.hid (O4.out.keep b2)
  have HH5 := Lib.hid (HH4.out.keep b2)
  have X5 := Lib.hid (X4.out.keep b2)
  clear b2 S4 O4 HH4 X4 C2
  obtain ⟨⟨-, c0, c1, c2, c3, -, -, -, -, -⟩, -⟩ := S5.out
  obtain ⟨-, d0, d1, d2, d3, -, -, -, -, -⟩ := X5.out
  have cA := conv_any S5.out.bs c
  generalize w2.heap.size = G at *
  go_wp2_with fail
  clear c0 c1 c2 c3 d0 d1 d2 d3 cA
  have hN0 : 0 < N := by
    have h1 : 1 * 1 ≤ (W + 1) * (H + 1) := Int.mul_le_mul (by have := hvs.1; omega) (by have := hvs.2.2.1; omega) (by omega) (by have := hvs.1; omega)
    have := HVE.out
    omega
  obtain ⟨ga, oa, rfl, hga, hca⟩ := S5.out.bs hN0
  obtain ⟨gx, ox, rfl, hgx, hcx⟩ := O5.out hN0
  have HCa := Lib.hid hca
  have HCx := Lib.hid hcx
  clear hca hcx
  go_loopw [8] (fun t wr => ∃ k : Nat, k ≤ N ∧ t = .int .i64 (k : Int) ∧ Below w5.heap.size w5 wr) (fun t _ => N - (intOf t).toNat)
  case atStart => exact ⟨0, by omega, rfl, Below.refl _ _⟩
  case round =>
    obtain ⟨k, hk, rfl, hB⟩ := hrel
    have HB := Lib.hid hB
    have Sk := Lib.hid (S5.out.keep hB)
    have Xk := Lib.hid (X5.out.keep hB)
    have HHk := Lib.hid (HH5.out.keep hB)
    by_cases hlt : k < N
    · have y0 := (hB.cell (p := ⟨ga, oa + k, none⟩) hga).trans (HCa.out k hlt)
      have y1 := (hB.cell (p := ⟨gx, ox + k, none⟩) hgx).trans (HCx.out k hlt)
      have hkI : (k : Int) < (N : Int) := by omega
      have hk0 : (0 : Int) ≤ (k : Int) := by omega
      obtain ⟨r1, h1⟩ : ∃ r1, k % s = r1 := ⟨_, rfl⟩
      obtain ⟨r2, h2⟩ : ∃ r2, k / s = r2 := ⟨_, rfl⟩
      obtain ⟨u, hu⟩ : ∃ u, p k = u := ⟨_, rfl⟩
      obtain ⟨v, hv⟩ : ∃ v, fell p s h M k = v := ⟨_, rfl⟩
      have hu2 : u < 256 := by rw [← hu]; exact HP.out k
      have hv2 : v < 256 := by rw [← hv]; exact Nat.lt_of_le_of_lt (fell_le _ _ _ _ _) (HP.out k)
      have EV : Hid (v = u - drp h (r1 : Int) (r2 : Int) M) := by show _ = _; rw [← hv, ← hu, ← h1, ← h2]; rfl
      have e1 : (k : Int).tmod (s : Int) = (r1 : Int) := by rw [← h1]; rfl
      have e2 : (k : Int).tdiv (s : Int) = (r2 : Int) := by rw [← h2]; rfl
      have e3 : (k : Int) % (s : Int) = (r1 : Int) := by rw [← h1]; rfl
      have e4 : (k : Int) / (s : Int) = (r2 : Int) := by rw [← h2]; rfl
      have z1 : r1 < s := by rw [← h1]; exact Nat.mod_lt _ (by omega)
      have z3 : r2 ≤ k := by rw [← h2]; exact Nat.div_le_self _ _
      have z4 : r2 ≤ 64 := by
        have q : k < (H + 1).toNat * s := by
          have : ((k : Nat) : Int) < (((H + 1).toNat * s : Nat) : Int) := by
            rw [Int.natCast_mul, ← eW, show (((H + 1).toNat : Nat) : Int) = H + 1 by have := hvs.2.2.1; omega, Int.mul_comm, ← HVE.out]; omega
          omega
        have := (Nat.div_lt_iff_lt_mul (by omega)).2 q
        have := hvs.2.2.2.1
        omega
      have CZ := Lib.hid (fun u' x y hx hy => CC.out k r1 r2 x y u' hx hy ⟨by omega, by omega⟩ ⟨by omega, by omega⟩)
      rw [hu, ← EV.out] at CZ
      have z5 : (r2 : Int) ≤ 4096 := by omega
      have z6 : (r1 : Int) ≤ 4096 := by omega
      have z7 : (0 : Int) ≤ (r2 : Int) := by omega
      have z8 : (0 : Int) ≤ (r1 : Int) := by omega
      have wn0 : ¬ s = 0 := by omega
      have V1 : IntKind.i64.wrap (r1 : Int) = (r1 : Int) := IntWalk.i64_in _ (by omega)
      have V2 : IntKind.i64.wrap (r2 : Int) = (r2 : Int) := IntWalk.i64_in _ (by omega)
      have V3 : wrap64 (r1 : Int) = (r1 : Int) := by unfold wrap64; simp only [Int.emod_def]; omega
      have V4 : wrap64 (r2 : Int) = (r2 : Int) := by unfold wrap64; simp only [Int.emod_def]; omega
      have V5 : IntKind.i64.wrap ((k : Int).tmod (s : Int)) = (r1 : Int) := by rw [e1]; exact V1
      have V6 : IntKind.i64.wrap ((k : Int).tdiv (s : Int)) = (r2 : Int) := by rw [e2]; exact V2
      have V7 : IntKind.i64.wrap (u : Int) = (u : Int) := IntWalk.i64_in _ (by omega)
      have V8 : IntKind.i64.wrap (v : Int) = (v : Int) := IntWalk.i64_in _ (by omega)
      have hvv : ((v : Int) != (v : Int)) = false := by simp
      rw [hu] at y0
      rw [hv] at y1
      obtain ⟨⟨-, c0, c1, c2, c3, -, -, -, -, -⟩, -⟩ := Sk.out
      obtain ⟨-, -, -, -, d3, -, -, -, -, -⟩ := Xk.out
      obtain ⟨hW1, hW2, -⟩ := hvs
      have V9 : IntKind.i64.wrap (s : Int) = (s : Int) := IntWalk.i64_in _ (by omega)
      have V0 : IntKind.i64.wrap (W + 1) = (s : Int) := by rw [eW]; exact V9
      clear hB z1 z3 z4 c1 c2 hu hv
      go_wp2_with fail
      go_region_held3 (fun w' => w'.cell? ⟨w.heap.size, 0, none⟩ = some (.int .i64 W) ∧ w'.cell? ⟨w.heap.size, 3, none⟩ = some (.slice (some ⟨ga, oa, none⟩) N c) ∧ w'.cell? ⟨G, 3, none⟩ = some (.slice (some ⟨gx, ox, none⟩) N K3) ∧ w'.cell? ⟨ga, oa + k, none⟩ = some (.int .u8 (u : Int)) ∧ w'.cell? ⟨gx, ox + k, none⟩ = some (.int .u8 (v : Int)))
        (go_keep)
        ((go_at_call 19; refine (CZ.out wr.drew _ _ (by first | rfl | exact e1 | exact e3 | exact V1 | exact V5 | (rw [e1]; done) | (simp; omega)) (by first | rfl | exact e2 | exact e4 | exact V2 | exact V6 | (rw [e2]; done) | (simp; omega)) (HHk.out.keep (Below.refl _ _).drew)).mono ?_; rintro e w' ⟨rfl, b'⟩; have BW := Lib.hid ((Below.refl _ wr).drew.trans b'); have q0 := kc (W := wr.drew) b' c0; have q1 := kc (W := wr.drew) b' c3; have q2 := kc (W := wr.drew) b' d3; have q3 := kc (W := wr.drew) b' y0; have q4 := kc (W := wr.drew) b' y1; clear b'))
      all_goals
        go_wp2
        go_roundw
        case rel => exact ⟨k + 1, by omega, by go_num, HB.out.trans (BW.out.mono HB.out.size)⟩
        case measure => simp [intOf]; omega
    · have hge : ¬ (k : Int) < (N : Int) := by omega
      obtain ⟨⟨-, c0, c1, c2, c3, -, -, -, -, -⟩, -⟩ := Sk.out
      clear hB
      by_cases hM1 : M = 1
      · subst hM1
        obtain ⟨gh, oh, rfl, hgh, hch⟩ := HHk.out (by omega)
        obtain ⟨z0, z1, z2, z3⟩ := hch 0 (by omega)
        simp only [Nat.zero_mul, Nat.add_zero] at z0 z1 z2 z3
        clear hch
        have BkA : Hid (Bs wr (some ⟨ga, oa, none⟩) N p) := Sk.out.bs
        have BkX : Hid (Bs wr (some ⟨gx, ox, none⟩) N (fell p s h 1)) := O5.out.keep HB.out
        have XG : Hid (Bx w G wr (.int .i64 W) (.int .i64 H) (.int .i64 T) (.slice (some ⟨gx, ox, none⟩) N K3)) := by
          obtain ⟨-, a0, a1, a2, a3, a4, a5, a6, a7, -⟩ := Xk.out
          exact ⟨Nat.le_of_lt hgg, a0, a1, a2, a3, a4, a5, a6, a7, Sk.out.bx.below⟩
        have hgxr : gx < wr.heap.size := by have := HB.out.size; omega
        have hGr : G < wr.heap.size := World.block_lt_of_cell? wr _ XG.out.c0
        have hwr : w.heap.size < wr.heap.size := World.block_lt_of_cell? wr _ c0
        have ST : Hid (∀ u, Bs u (some ⟨ga, oa, none⟩) N p → Calls Try.prog 20 #[.agg #[.int .i64 W, .int .i64 H, .int .i64 T, .slice (some ⟨ga, oa, none⟩) N c], .agg #[.int .i64 (h 0).I, .int .i64 (h 0).J, .int .i64 (h 0).R, .int .i64 (h 0).D]] u (RetMap W H T N (fell p s (fun _ => h 0) 1) u)) := by
          intro u hu
          have := CT.out p (h 0) u hu HP.out (HOK.out 0 (by omega))
          rw [eS] at this
          exact this
        clear hge CC CT
        obtain ⟨x0, ex0⟩ : ∃ x0, h 0 = x0 := ⟨_, rfl⟩
        have EX0 := Lib.hid ex0
        rw [ex0] at z0 z1 z2 z3 ST
        clear ex0
        have hne1 : w.heap.size ≠ wr.heap.size := by omega
        have hne2 : gh ≠ wr.heap.size := by have := World.block_lt_of_cell? wr _ z0; simp at this; omega
        go_wp2_with fail
        go_cut [9, 10] (fun s9 s10 wx => ∃ g A6 K6, s9 = .pointer (some ⟨g, 0, none⟩) ∧ s10 = .int .i64 0 ∧ Bx w g wx (.int .i64 W) (.int .i64 H) (.int .i64 T) (.slice A6 N K6) ∧ Bs wx A6 N (fell p s (fun _ => x0) 1) ∧ Bx w G wx (.int .i64 W) (.int .i64 H) (.int .i64 T) (.slice (some ⟨gx, ox, none⟩) N K3) ∧ Bs wx (some ⟨gx, ox, none⟩) N (fell p s h 1))
        case first =>
          go_region_held3 (fun w' => w'.cell? ⟨w.heap.size, 0, none⟩ = some (.int .i64 W) ∧ w'.cell? ⟨w.heap.size, 1, none⟩ = some (.int .i64 H) ∧ w'.cell? ⟨w.heap.size, 2, none⟩ = some (.int .i64 T) ∧ w'.cell? ⟨w.heap.size, 3, none⟩ = some (.slice (some ⟨ga, oa, none⟩) N c) ∧ w'.cell? ⟨gh, oh, none⟩ = some (.int .i64 x0.I) ∧ w'.cell? ⟨gh, oh + 1, none⟩ = some (.int .i64 x0.J) ∧ w'.cell? ⟨gh, oh + 2, none⟩ = some (.int .i64 x0.R) ∧ w'.cell? ⟨gh, oh + 3, none⟩ = some (.int .i64 x0.D))
            (go_keep)
            (first
              | (go_at_call 20; ((with_reducible refine (ST.out wr.drew (BkA.out.keep (Below.refl _ _).drew)).mono ?_)); rintro e w6 ⟨A6, K6, rfl, k1, k2, hO, b6⟩; have b7 := (Below.refl wr.heap.size wr).drew.trans b6; have XS := Lib.hid (XG.out.keep b7); have BS := Lib.hid (BkX.out.keep b7); have OS := Lib.hid hO; have q0 := kc (W := wr.drew) b6 c0; have q1 := kc (W := wr.drew) b6 c1; have q2 := kc (W := wr.drew) b6 c2; have q3 := kc (W := wr.drew) b6 c3; have q4 := kc (W := wr.drew) b6 z0; have q5 := kc (W := wr.drew) b6 z1; have q6 := kc (W := wr.drew) b6 z2; have q7 := kc (W := wr.drew) b6 z3; clear k1 k2 hO b6 b7)
              | (go_at_call 20; ((with_reducible refine (ST.out (wr.alloc (.cells #[.int .i64 0, .int .i64 0, .int .i64 0, .slice none 0 0] 30)).drew (BkA.out.keep ((Below.refl _ _).alloc (Nat.le_refl _) _).drew)).mono ?_)); rintro e w6 ⟨A6, K6, rfl, k1, k2, hO, b6⟩; have b8 := ((Below.refl wr.heap.size wr).alloc (Nat.le_refl _) (.cells #[.int .i64 0, .int .i64 0, .int .i64 0, .slice none 0 0] 30)).drew; have b7 := b8.trans (b6.mono b8.size); have XS := Lib.hid (XG.out.keep b7); have BS := Lib.hid (BkX.out.keep b7); have OS := Lib.hid hO; have XN := Lib.hid ((Bx.next XG.out.below (.int .i64 0) (.int .i64 0) (.int .i64 0) (.slice none 0 0) 30).drew.keep b6); have q0 := kc b7 c0; have q1 := kc b7 c1; have q2 := kc b7 c2; have q3 := kc b7 c3; have q4 := kc b7 z0; have q5 := kc b7 z1; have q6 := kc b7 z2; have q7 := kc b7 z3; obtain ⟨-, d0, d1, d2, d3, g0, g1, g2, g3, -⟩ := XN.out; have m0 := fun x y z u => far4 (x := x) (y := y) (z := z) (u := u) hne1 q0; have m1 := fun x y z u => far4 (x := x) (y := y) (z := z) (u := u) hne1 q1; have m2 := fun x y z u => far4 (x := x) (y := y) (z := z) (u := u) hne1 q2; have m3 := fun x y z u => far4 (x := x) (y := y) (z := z) (u := u) hne1 q3; have m4 := fun x y z u => far4 (x := x) (y := y) (z := z) (u := u) hne2 q4; have m5 := fun x y z u => far4 (x := x) (y := y) (z := z) (u := u) hne2 q5; have m6 := fun x y z u => far4 (x := x) (y := y) (z := z) (u := u) hne2 q6; have m7 := fun x y z u => far4 (x := x) (y := y) (z := z) (u := u) hne2 q7; clear k1 k2 hO b6 b7 b8))
          all_goals (go_wp2_with fail; go_meet)
          all_goals first
            | exact ⟨w6.heap.size, A6, K6, rfl, rfl, Bx.next XS.out.below _ _ _ _ _, OS.out.bs.alloc _, XS.out.keep ((Below.refl _ _).alloc (Nat.le_refl _) _), BS.out.alloc _⟩
            | exact ⟨wr.heap.size, A6, K6, rfl, rfl, XN.out.put _ _ _ _, (OS.out.put (by simp) _ _ _ _).bs, (((XS.out.far (by omega) (Nat.le_of_lt hwr) _).far (by omega) (Nat.le_of_lt hwr) _).far (by omega) (Nat.le_of_lt hwr) _).far (by omega) (Nat.le_of_lt hwr) _, BS.out.put (fun y e => by injection e with e; subst e; show gx ≠ _; omega) _ _ _ _⟩
        case rest =>
          obtain ⟨g, A6, K6, rfl, rfl, hX, hBs, hG, hBx⟩ := hcut
          have X7 := Lib.hid hX
          have G7 := Lib.hid hG
          have B7 := Lib.hid hBs
          have D7 := Lib.hid hBx
          clear hX hG hBs hBx c0 c1 c2 c3 z0 z1 z2 z3
          obtain ⟨-, c0, c1, c2, c3, -, -, -, -, -⟩ := X7.out
          obtain ⟨-, d0, d1, d2, d3, -, -, -, -, -⟩ := G7.out
          have SY := Lib.hid (fun u hA hB => same_yes W H T (some ⟨gx, ox, none⟩) A6 N K3 K6 (fell p s h 1) (fell p s (fun _ => h 0) 1) u hA hB (fun i _ => rfl) hM)
          go_wp2_with fail
          refine (SY.out _ D7.out (by rw [EX0.out]; exact B7.out)).mono ?_
          rintro e w8 ⟨rfl, b8⟩
          have G8 := Lib.hid (G7.out.keep b8)
          clear b8 c0 c1 c2 c3 d0 d1 d2 d3
          go_wp2_with fail
          refine (awake9_any _).mono ?_
          rintro e w9 ⟨rfl, b9⟩
          have G9 := Lib.hid (G8.out.keep b9)
          clear b9
          go_wp2
          go_ret
          exact Ret.mk rfl G9.out.below
      · have hMI : ((M : Int) == 1) = false := by simp; omega
        go_wp2_with fail
        refine (awake9_any _).mono ?_
        rintro e w9 ⟨rfl, b2⟩
        have S9 := Lib.hid ((Sk.out.keep b2).bx.below)
        clear b2
        go_wp2
        go_ret
        exact Ret.mk rfl S9.out

end Go.Proofs.Ytcneilhhpblclaa
