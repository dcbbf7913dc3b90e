/- The walk of the law CraterOrders where something may not be. -/
import Derived.Test.YtcneilhhpblclaaLCrOrdersOk
import Derived.Test.YtcneilhhpblclaaAwake9
import Derived.Test.YtcneilhhpblclaaLRelStart
import Derived.Test.YtcneilhhpblclaaGr4
import Derived.Deep.RegionHeld3
namespace Go.Proofs.Ytcneilhhpblclaa
open Go.RowKit
set_option linter.unusedVariables false

set_option maxRecDepth 100000 in
set_option maxHeartbeats 1000000 in
theorem orders_bad (W H T : Int) (A : Option Addr) (n c : Nat) (p : Nat → Nat) (Ah : Option Addr) (nh kh : Nat) (h : Nat → Ht) (w : World) (hb : Bs w A n p) (hp : ∀ i, p i < 256) (hn : n ≤ c) (hc : c ≤ maxLen) (hH : Hs w Ah nh h) (hn2 : nh ≤ kh) (hkh : kh ≤ maxLen)
    (hbad : ¬ (Val W H T (fewN n) ∧ ∀ q, q < someN nh → Ok9 (h q))) :
    Calls Try.prog 5 #[.agg #[.int .i64 W, .int .i64 H, .int .i64 T, .slice A n c], .slice Ah nh kh] w (Ret (.bool true) w) := by
  have HF := Lib.hid (few9_any W H T A n c p _ (hb.alloc (.cells #[.int .i64 W, .int .i64 H, .int .i64 T, .slice A n c] 30)) hn hc)
  have HS := Lib.hid (fun w1 => Start.first (w := w) (w1 := w1) (W := W) (H := H) (T := T) (c := c) hb)
  have HSo := Lib.hid (fun u hu => some_any Ah nh kh h u hu hn2 hkh)
  have hN := (fewN_le n).2
  have hM : fewN n ≤ maxLen := by unfold maxLen; omega
  have hL := (someN_le nh).2
  have hLM : someN nh ≤ maxLen := by unfold maxLen; omega
  have HX := Lib.hid (Bx.new w (.int .i64 W) (.int .i64 H) (.int .i64 T) (.slice A n c) 30)
  have HH := Lib.hid hH
  have HB0 := Lib.hid (hb.take (fewN_le n).1)
  have HHt := Lib.hid (hH.take (someN_le nh).1)
  clear hb hn hc hH hn2 hkh
  generalize fewN n = N at *
  generalize someN nh = M at *
  obtain ⟨s, eS⟩ : ∃ s, (W + 1).toNat = s := ⟨_, rfl⟩
  have CA := Lib.hid (fun u hH => all_bad W H T A N c M kh Ah h u hLM hM hH hbad)
  have CB := Lib.hid (fun u Ab Kb hH => all_bad W H T A N c M Kb Ab (fun q => h (M - 1 - q)) u hLM hM hH (fun q => hbad ⟨q.1, fun x hx => by have := q.2 (M - 1 - x) (by omega); rwa [show M - 1 - (M - 1 - x) = x by omega] at this⟩))
  have ST := Lib.hid (fun (q : Nat → Nat) (B : Option Addr) (K : Nat) (x : Ht) (u : World) (hb : Bs u B N q) (hq : ∀ i, q i < 256) (hv : Val W H T N) (hx : Ok9 x) => strike_ok W H T B N K q x u hb hq hv hx)
  rw [eS] at ST
  have SB := Lib.hid (fun (B : Option Addr) (K : Nat) (x : Ht) (u : World) (hq : ¬ (Val W H T N ∧ Ok9 x)) => strike_bad W H T B N K x u hM hq)
  have HBad := Lib.hid hbad
  have HP := Lib.hid hp
  clear hbad hp eS
  go_enter Try.func5, Try.ntmps5
  go_wp2_with fail
  refine HF.out.mono ?_
  rintro e w1 ⟨rfl, b1⟩
  have X1 := Lib.hid (HX.out.keep b1)
  have S0 := HS.out _ b1
  have HH1 := Lib.hid (HH.out.keep X1.out.below)
  clear b1 HX HF HS
  obtain ⟨-, c0, c1, c2, c3, f0, f1, f2, f3, -⟩ := X1.out
  go_wp2_with fail
  refine (HSo.out _ HH1.out).mono ?_
  rintro e w1' ⟨rfl, rfl⟩
  obtain ⟨Z, hZ⟩ : ∃ Z, (((w1.setCell ⟨w.heap.size, 0, none⟩ (.int .i64 W)).setCell ⟨w.heap.size, 1, none⟩ (.int .i64 H)).setCell ⟨w.heap.size, 2, none⟩ (.int .i64 T)).setCell ⟨w.heap.size, 3, none⟩ (.slice A N c) = Z := ⟨_, rfl⟩
  rw [hZ] at S0
  have S1 := Lib.hid S0.bx
  have HZ := Lib.hid hZ
  clear S0 hZ X1 HH1 HSo HH
  go_wp2_with fail
  rw [HZ.out]
  clear c0 c1 c2 c3 f0 f1 f2 f3 HZ
  go_loopw [5, 6] (fun bv iv wr => ∃ k : Nat, k ≤ M ∧ iv = .int .i64 ((M : Int) - 1 - (k : Int)) ∧ wr.ownsRow (w.heap.size + 1) 23 4 bv k (hbv (fun q => h (M - 1 - q)) k) ∧ Bx w w.heap.size wr (.int .i64 W) (.int .i64 H) (.int .i64 T) (.slice A N c)) (fun _ iv _ => (intOf iv + 1).toNat)
  case atStart => exact ⟨0, by omega, (by first | (congr 1; omega) | congr 1), World.ownsRow_nil _ _ _ _, S1.out⟩
  case round =>
    obtain ⟨k, hk, rfl, hown, hX⟩ := hrel
    clear S1
    rename World => W1
    have HO := Lib.hid hown
    have X2 := Lib.hid hX
    by_cases hkM : k < M
    · obtain ⟨m0, hm0⟩ : ∃ m0 : Nat, (M : Int) - 1 - (k : Int) = (m0 : Int) := ⟨M - 1 - k, by omega⟩
      obtain ⟨gh, oh, eA, hgh, hch⟩ := (HHt.out.keep hX.below) (by omega)
      obtain ⟨z0, z1, z2, z3⟩ := hch m0 (by omega)
      subst eA
      have hmI : (m0 : Int) < (M : Int) := by omega
      have hm1 : (0 : Int) ≤ (m0 : Int) := by omega
      have em : Hid (h (M - 1 - k) = h m0) := by show _ = _; congr 1; omega
      have hbase : w.heap.size + 1 ≤ W1.heap.size := by have : w.heap.size < W1.heap.size := World.block_lt_of_cell? W1 _ hX.c0; omega
      rw [hm0]
      clear hch hown hX
      generalize h m0 = x at *
      go_wp2_with (at_builtin; refine append_hit rfl (.tmp 25) (.tmp 30) rfl (w.heap.size + 1) k (fun q => h (M - 1 - q)) x _ W1 rfl em.out HO.out rfl (by omega) hbase ?_; intro v' w5 hown' hb')
      have HB5 := Lib.hid hb'
      have HO5 := Lib.hid hown'
      clear hb' hown'
      go_roundw
      case rel => exact ⟨k + 1, by omega, (by first | (congr 1; omega) | congr 1), HO5.out, X2.out.keepB HB5.out (by omega) (by omega)⟩
      case measure => first | (simp [intOf]; done) | (simp [intOf]; omega)
    · obtain rfl : M = k := by omega
      obtain ⟨Ab, Kb, rfl, hKb, hKc, hHb⟩ := hits_own hown
      have HHb := Lib.hid hHb
      have hneg : ¬ (0 : Int) ≤ (M : Int) - 1 - (M : Int) := by omega
      clear hown hHb HO hKb hKc
      obtain ⟨-, c0, c1, c2, c3, -, -, -, -, -⟩ := X2.out
      have HHa := Lib.hid (HHt.out.keep hX.below)
      have BSa := Lib.hid (HB0.out.keep hX.below)
      clear hX
      go_wp2_with fail
      refine (CA.out _ HHa.out).mono ?_
      rintro e w2 ⟨rfl, b2⟩
      obtain ⟨Y, hY⟩ : ∃ Y, w2.alloc (.cells #[.int .i64 0, .int .i64 0, .int .i64 0, .slice none 0 0] 30) = Y := ⟨_, rfl⟩
      have bY : Below w2.heap.size w2 Y := by rw [← hY]; exact (Below.refl _ _).alloc (Nat.le_refl _) _
      have bWY := b2.trans (bY.mono b2.size)
      have X3 := Lib.hid (X2.out.keep bWY)
      have HHc := Lib.hid (HHa.out.keep bWY)
      have HHd := Lib.hid (HHb.out.keep bWY)
      have BSb := Lib.hid (BSa.out.keep bWY)
      have XX : Hid (Bx w w2.heap.size Y (.int .i64 0) (.int .i64 0) (.int .i64 0) (.slice none 0 0)) := by
        show Bx _ _ _ _ _ _ _
        rw [← hY]
        exact Bx.next (X2.out.below.trans (b2.mono X2.out.below.size)) _ _ _ _ _
      obtain ⟨-, c0, c1, c2, c3, -, -, -, -, -⟩ := X3.out
      rw [← hY] at c0 c1 c2 c3
      have HY := Lib.hid hY
      clear X2 HHa HHb BSa b2 bY hY bWY CA
      generalize hG : w2.heap.size = G at XX
      have hG2 := Lib.hid hG
      clear hG
      go_wp2_with fail
      rw [HY.out, hG2.out]
      refine (CB.out _ _ _ HHd.out).mono ?_
      rintro e w3 ⟨rfl, b2⟩
      obtain ⟨V, hV⟩ : ∃ V, w3.alloc (.cells #[.int .i64 0, .int .i64 0, .int .i64 0, .slice none 0 0] 30) = V := ⟨_, rfl⟩
      have bV : Below w3.heap.size w3 V := by rw [← hV]; exact (Below.refl _ _).alloc (Nat.le_refl _) _
      have bWV := b2.trans (bV.mono b2.size)
      have X4 := Lib.hid (X3.out.keep bWV)
      have HH4 := Lib.hid (HHc.out.keep bWV)
      have BS4 := Lib.hid (BSb.out.keep bWV)
      have XX4 := Lib.hid (XX.out.keep bWV)
      have YY4 : Hid (Bx w w3.heap.size V (.int .i64 0) (.int .i64 0) (.int .i64 0) (.slice none 0 0)) := by
        show Bx _ _ _ _ _ _ _
        rw [← hV]
        exact Bx.next (X3.out.below.trans (b2.mono X3.out.below.size)) _ _ _ _ _
      obtain ⟨-, d0, d1, d2, d3, -, -, -, -, -⟩ := XX4.out
      obtain ⟨-, y0, y1, y2, y3, -, -, -, -, -⟩ := YY4.out
      rw [← hV] at d0 d1 d2 d3 y0 y1 y2 y3
      have HV := Lib.hid hV
      clear X3 HHc HHd BSb b2 bV hV bWV CB XX HY c0 c1 c2 c3
      go_wp2_with fail
      rw [HV.out]
      refine (same_yes 0 0 0 none none 0 0 0 p p _ (bs_none _ p) (bs_none _ p) (fun _ _ => rfl) (by decide)).mono ?_
      rintro e w4 ⟨rfl, b2⟩
      have HH5 := Lib.hid (HH4.out.keep b2)
      have XX5 := Lib.hid (XX4.out.keep b2)
      have BS5 := Lib.hid (BS4.out.keep b2)
      have X5 := Lib.hid (X4.out.keep b2)
      clear b2 X4 XX4 YY4 HH4 BS4 HV d0 d1 d2 d3 y0 y1 y2 y3
      obtain ⟨-, c0, c1, c2, c3, -, -, -, -, -⟩ := X5.out
      obtain ⟨U, hU⟩ : ∃ U, w4.alloc (.cells #[.int .i64 W, .int .i64 H, .int .i64 T, .slice A N c] 30) = U := ⟨_, rfl⟩
      have bU : Below w4.heap.size w4 U := by rw [← hU]; exact (Below.refl _ _).alloc (Nat.le_refl _) _
      have HZ0 : Hid (Bx w4 w4.heap.size U (.int .i64 W) (.int .i64 H) (.int .i64 T) (.slice A N c)) := by
        show Bx _ _ _ _ _ _ _
        rw [← hU]
        exact Bx.new w4 _ _ _ _ _
      have BS6 := Lib.hid (BS5.out.keep bU)
      have HU := Lib.hid hU
      clear bU hU hneg
      go_wp2_with fail
      rw [HU.out]
      clear c0 c1 c2 c3 HU
      go_loopw [12, 13] (fun ev kv wr => ∃ k : Nat, k ≤ M ∧ kv = .int .i64 (k : Int) ∧ Below w4.heap.size w4 wr ∧ ((ev = .int .i64 0 ∧ (∀ q, q < k → Ok9 (h q)) ∧ (k = 0 ∨ Val W H T N) ∧ ∃ Az Kz, Bx w4 w4.heap.size wr (.int .i64 W) (.int .i64 H) (.int .i64 T) (.slice Az N Kz) ∧ Bs wr Az N (fell p s h k)) ∨ (ev = .int .i64 1 ∧ 0 < k))) (fun _ kv _ => M - (intOf kv).toNat)
      case atStart => exact ⟨0, by omega, rfl, HZ0.out.below, .inl ⟨rfl, fun q hq => absurd hq (by omega), .inl rfl, _, _, HZ0.out, BS6.out⟩⟩
      case round =>
        obtain ⟨k, hk, rfl, hw, hrr⟩ := hrel
        clear HZ0 BS6
        rename World => wr
        have HW := Lib.hid hw
        rcases hrr with ⟨rfl, hall, hkv, Az, Kz, hZr, hBz⟩ | ⟨rfl, hkp⟩
        · by_cases hkM : k < M
          · obtain ⟨gh, oh, eA, hgh, hch⟩ := (HH5.out.keep hw) (by omega)
            obtain ⟨z0, z1, z2, z3⟩ := hch k hkM
            subst eA
            have hkI : (k : Int) < (M : Int) := by omega
            have hk0 : (0 : Int) ≤ (k : Int) := by omega
            have HZr := Lib.hid hZr
            have HBz := Lib.hid hBz
            have HLt : Hid (w4.heap.size < wr.drew.heap.size) := World.block_lt_of_cell? wr _ hZr.c0
            clear hch hw hBz hZr
            have HAll := Lib.hid hall
            clear hall hkv
            by_cases hvk : Val W H T N ∧ Ok9 (h k)
            · have HVk := Lib.hid hvk
              clear hvk
              have HSd : Hid (True ∧ (fun w' => Bx w4 w4.heap.size w' (.int .i64 W) (.int .i64 H) (.int .i64 T) (.slice Az N Kz) ∧ w'.cell? ⟨gh, oh + k * 4, none⟩ = some (.int .i64 (h k).I) ∧ w'.cell? ⟨gh, oh + k * 4 + 1, none⟩ = some (.int .i64 (h k).J) ∧ w'.cell? ⟨gh, oh + k * 4 + 2, none⟩ = some (.int .i64 (h k).R) ∧ w'.cell? ⟨gh, oh + k * 4 + 3, none⟩ = some (.int .i64 (h k).D)) wr.drew) := ⟨trivial, HZr.out.drew, z0, z1, z2, z3⟩
              have HSr : Hid ((fun w' => Bx w4 w4.heap.size w' (.int .i64 W) (.int .i64 H) (.int .i64 T) (.slice Az N Kz) ∧ w'.cell? ⟨gh, oh + k * 4, none⟩ = some (.int .i64 (h k).I) ∧ w'.cell? ⟨gh, oh + k * 4 + 1, none⟩ = some (.int .i64 (h k).J) ∧ w'.cell? ⟨gh, oh + k * 4 + 2, none⟩ = some (.int .i64 (h k).R) ∧ w'.cell? ⟨gh, oh + k * 4 + 3, none⟩ = some (.int .i64 (h k).D)) wr.drew) := HSd.out.2
              go_wp2_with fail
              refine wp_regionT (m := 9) (R := fun _ => True) (B := (fun w' => Bx w4 w4.heap.size w' (.int .i64 W) (.int .i64 H) (.int .i64 T) (.slice Az N Kz) ∧ w'.cell? ⟨gh, oh + k * 4, none⟩ = some (.int .i64 (h k).I) ∧ w'.cell? ⟨gh, oh + k * 4 + 1, none⟩ = some (.int .i64 (h k).J) ∧ w'.cell? ⟨gh, oh + k * 4 + 2, none⟩ = some (.int .i64 (h k).R) ∧ w'.cell? ⟨gh, oh + k * 4 + 3, none⟩ = some (.int .i64 (h k).D))) (by kernel_rfl) ?_
              simp only [List.size_toArray, List.length_cons, List.length_nil, Nat.reduceAdd, Array.replicate_succ, Array.replicate_zero, List.push_toArray, List.nil_append, List.cons_append]
              refine wpAnyT_take (i := 0) (v := ?_) rfl (by kernel_rfl) (by kernel_rfl) (by kernel_rfl) (by kernel_rfl) (by kernel_rfl) (by kernel_rfl) (fun _ _ _ h => h) (Or.inl ⟨by rfl, ?_⟩) HSd.out ?_
              rotate_left
              · rintro w' ⟨-, hBx, q0, q1, q2, q3⟩
                obtain ⟨-, a0, a1, a2, a3, -, -, -, -, -⟩ := hBx
                go_simp
                with_reducible rfl
              simp only [Act.put, List.getElem_toArray, List.getElem_cons_zero, List.setIfInBounds_toArray, List.set_cons_zero, List.set_cons_succ]
              refine wpAnyT_take (i := 1) (v := ?_) rfl (by kernel_rfl) (by kernel_rfl) (by kernel_rfl) (by kernel_rfl) (by kernel_rfl) (by kernel_rfl) (fun _ _ _ h => h) (Or.inl ⟨by rfl, ?_⟩) HSd.out ?_
              rotate_left
              · rintro w' ⟨-, hBx, q0, q1, q2, q3⟩
                obtain ⟨-, a0, a1, a2, a3, -, -, -, -, -⟩ := hBx
                go_simp
                with_reducible rfl
              simp only [Act.put, List.getElem_toArray, List.getElem_cons_zero, List.getElem_cons_succ, List.setIfInBounds_toArray, List.set_cons_zero, List.set_cons_succ]
              refine wpAnyT_take (i := 2) (v := ?_) rfl (by kernel_rfl) (by kernel_rfl) (by kernel_rfl) (by kernel_rfl) (by kernel_rfl) (by kernel_rfl) (fun _ _ _ h => h) (Or.inl ⟨by rfl, ?_⟩) HSd.out ?_
              rotate_left
              · rintro w' ⟨-, hBx, q0, q1, q2, q3⟩
                obtain ⟨-, a0, a1, a2, a3, -, -, -, -, -⟩ := hBx
                go_simp
                with_reducible rfl
              simp only [Act.put, List.getElem_toArray, List.getElem_cons_zero, List.getElem_cons_succ, List.setIfInBounds_toArray, List.set_cons_zero, List.set_cons_succ]
              refine wpAnyT_take (i := 3) (v := ?_) rfl (by kernel_rfl) (by kernel_rfl) (by kernel_rfl) (by kernel_rfl) (by kernel_rfl) (by kernel_rfl) (fun _ _ _ h => h) (Or.inl ⟨by rfl, ?_⟩) HSd.out ?_
              rotate_left
              · rintro w' ⟨-, hBx, q0, q1, q2, q3⟩
                obtain ⟨-, a0, a1, a2, a3, -, -, -, -, -⟩ := hBx
                go_simp
                with_reducible rfl
              simp only [Act.put, List.getElem_toArray, List.getElem_cons_zero, List.getElem_cons_succ, List.setIfInBounds_toArray, List.set_cons_zero, List.set_cons_succ]
              refine wpAnyT_take (i := 4) (v := ?_) rfl (by kernel_rfl) (by kernel_rfl) (by kernel_rfl) (by kernel_rfl) (by kernel_rfl) (by kernel_rfl) (fun _ _ _ h => h) (Or.inl ⟨by rfl, ?_⟩) HSd.out ?_
              rotate_left
              · rintro w' ⟨-, hBx, q0, q1, q2, q3⟩
                obtain ⟨-, a0, a1, a2, a3, -, -, -, -, -⟩ := hBx
                go_simp
                with_reducible rfl
              simp only [Act.put, List.getElem_toArray, List.getElem_cons_zero, List.getElem_cons_succ, List.setIfInBounds_toArray, List.set_cons_zero, List.set_cons_succ]
              refine wpAnyT_one (i := 5) (by kernel_rfl) rfl (fun K' hK => ?_)
              rw [if_pos (by rfl)]
              simp only [List.getElem_toArray, List.getElem_cons_zero, List.getElem_cons_succ] at hK ⊢
              have HK := Lib.hid hK
              clear hK z0 z1 z2 z3
              go_simp
              refine (ST.out (fell p s h k) Az Kz (h k) wr.drew (HBz.out.keep (Below.refl _ _).drew) (fun i => Nat.lt_of_le_of_lt (fell_le _ _ _ _ _) (HP.out i)) HVk.out.1 HVk.out.2).mono ?_
              rintro e w6 ⟨A6, K6, rfl, -, -, hO, b6⟩
              have HZ6 := Lib.hid (HZr.out.drew.keep b6)
              have HS6 : Hid (True ∧ (fun w' => Bx w4 w4.heap.size w' (.int .i64 W) (.int .i64 H) (.int .i64 T) (.slice Az N Kz) ∧ w'.cell? ⟨gh, oh + k * 4, none⟩ = some (.int .i64 (h k).I) ∧ w'.cell? ⟨gh, oh + k * 4 + 1, none⟩ = some (.int .i64 (h k).J) ∧ w'.cell? ⟨gh, oh + k * 4 + 2, none⟩ = some (.int .i64 (h k).R) ∧ w'.cell? ⟨gh, oh + k * 4 + 3, none⟩ = some (.int .i64 (h k).D)) w6) := ⟨trivial, HZ6.out, kc b6 HSr.out.2.1, kc b6 HSr.out.2.2.1, kc b6 HSr.out.2.2.2.1, kc b6 HSr.out.2.2.2.2⟩
              clear b6 HSd HSr HZr
              refine HK.out _ _ trivial (fun _ => HS6.out.2) ?_
              clear HK
              simp only [List.setIfInBounds_toArray, List.set_cons_zero, List.set_cons_succ]
              refine wpAnyT_takeR (i := 6) (v := ?_) rfl (by kernel_rfl) (by kernel_rfl) (by kernel_rfl) (by kernel_rfl) (by kernel_rfl) (fun _ _ _ h => h) (Or.inl ⟨by rfl, ?_⟩) trivial HS6.out.2 ?_
              rotate_left
              · rintro w' -
                go_simp
                with_reducible rfl
              simp only [Act.put, List.getElem_toArray, List.getElem_cons_zero, List.getElem_cons_succ, List.setIfInBounds_toArray, List.set_cons_zero, List.set_cons_succ]
              refine wpAnyT_takeR (i := 7) (v := ?_) rfl (by kernel_rfl) (by kernel_rfl) (by kernel_rfl) (by kernel_rfl) (by kernel_rfl) (fun _ _ _ h => h) (Or.inl ⟨by rfl, ?_⟩) trivial HS6.out.2 ?_
              rotate_left
              · rintro w' -
                go_simp
                with_reducible rfl
              simp only [Act.put, List.getElem_toArray, List.getElem_cons_zero, List.getElem_cons_succ, List.setIfInBounds_toArray, List.set_cons_zero, List.set_cons_succ]
              refine wpAnyT_takeR (i := 8) (v := ?_) rfl (by kernel_rfl) (by kernel_rfl) (by kernel_rfl) (by kernel_rfl) (by kernel_rfl) (fun _ _ _ h => h) (Or.inl ⟨by rfl, ?_⟩) trivial HS6.out.2 ?_
              rotate_left
              · rintro w' -
                go_simp
                with_reducible rfl
              simp only [Act.put, List.getElem_toArray, List.getElem_cons_zero, List.getElem_cons_succ, List.setIfInBounds_toArray, List.set_cons_zero, List.set_cons_succ]
              refine wpAnyT_one (i := 9) (by kernel_rfl) rfl (fun K' hK => ?_)
              rw [if_pos (by rfl)]
              simp only [List.getElem_toArray, List.getElem_cons_zero, List.getElem_cons_succ] at hK ⊢
              have HK := Lib.hid hK
              clear hK
              obtain ⟨-, a0, a1, a2, a3, f0, f1, f2, f3, -⟩ := HZ6.out
              go_simp
              refine HK.out _ _ trivial (fun hh => absurd hh (by decide)) ?_
              clear HK
              refine wpAnyT_one (i := 10) (by kernel_rfl) rfl (fun K' hK => ?_)
              rw [if_pos (by rfl)]
              simp only [List.getElem_toArray, List.getElem_cons_zero, List.getElem_cons_succ, List.setIfInBounds_toArray, List.set_cons_zero, List.set_cons_succ] at hK ⊢
              have HK := Lib.hid hK
              clear hK
              go_simp
              refine HK.out _ _ trivial (fun hh => absurd hh (by decide)) ?_
              refine wpAnyT_done (by kernel_rfl) ?_ _
              clear HK HS6 a0 a1 a2 a3 f0 f1 f2 f3
              have HP6 := Lib.hid (HZ6.out.put (.int .i64 W) (.int .i64 H) (.int .i64 T) (.slice A6 N K6))
              have HB6 : Hid (Bs (put4 w6 w4.heap.size (.int .i64 W) (.int .i64 H) (.int .i64 T) (.slice A6 N K6)) A6 N (fell p s h (k + 1))) := by
                rw [← fell_one]
                exact (hO.put (g := w4.heap.size) HLt.out _ _ _ _).bs
              clear hO
              unfold put4 at *
              go_wp2
              go_roundw
              case rel => exact ⟨k + 1, by omega, by go_num, HP6.out.below, .inl ⟨rfl, fun q hq => (by rcases Nat.lt_or_ge q k with h' | h'; exact HAll.out q h'; obtain rfl : q = k := (by omega); exact HVk.out.2), .inr HVk.out.1, A6, K6, HP6.out, HB6.out⟩⟩
              case measure => simp [intOf]; omega
            · have HVk := Lib.hid hvk
              clear hvk
              have HSd : Hid (True ∧ (fun w' => Bx w4 w4.heap.size w' (.int .i64 W) (.int .i64 H) (.int .i64 T) (.slice Az N Kz) ∧ w'.cell? ⟨gh, oh + k * 4, none⟩ = some (.int .i64 (h k).I) ∧ w'.cell? ⟨gh, oh + k * 4 + 1, none⟩ = some (.int .i64 (h k).J) ∧ w'.cell? ⟨gh, oh + k * 4 + 2, none⟩ = some (.int .i64 (h k).R) ∧ w'.cell? ⟨gh, oh + k * 4 + 3, none⟩ = some (.int .i64 (h k).D)) wr.drew) := ⟨trivial, HZr.out.drew, z0, z1, z2, z3⟩
              have HSr : Hid ((fun w' => Bx w4 w4.heap.size w' (.int .i64 W) (.int .i64 H) (.int .i64 T) (.slice Az N Kz) ∧ w'.cell? ⟨gh, oh + k * 4, none⟩ = some (.int .i64 (h k).I) ∧ w'.cell? ⟨gh, oh + k * 4 + 1, none⟩ = some (.int .i64 (h k).J) ∧ w'.cell? ⟨gh, oh + k * 4 + 2, none⟩ = some (.int .i64 (h k).R) ∧ w'.cell? ⟨gh, oh + k * 4 + 3, none⟩ = some (.int .i64 (h k).D)) wr.drew) := HSd.out.2
              go_wp2_with fail
              refine wp_regionT (m := 9) (R := fun _ => True) (B := (fun w' => Bx w4 w4.heap.size w' (.int .i64 W) (.int .i64 H) (.int .i64 T) (.slice Az N Kz) ∧ w'.cell? ⟨gh, oh + k * 4, none⟩ = some (.int .i64 (h k).I) ∧ w'.cell? ⟨gh, oh + k * 4 + 1, none⟩ = some (.int .i64 (h k).J) ∧ w'.cell? ⟨gh, oh + k * 4 + 2, none⟩ = some (.int .i64 (h k).R) ∧ w'.cell? ⟨gh, oh + k * 4 + 3, none⟩ = some (.int .i64 (h k).D))) (by kernel_rfl) ?_
              simp only [List.size_toArray, List.length_cons, List.length_nil, Nat.reduceAdd, Array.replicate_succ, Array.replicate_zero, List.push_toArray, List.nil_append, List.cons_append]
              refine wpAnyT_take (i := 0) (v := ?_) rfl (by kernel_rfl) (by kernel_rfl) (by kernel_rfl) (by kernel_rfl) (by kernel_rfl) (by kernel_rfl) (fun _ _ _ h => h) (Or.inl ⟨by rfl, ?_⟩) HSd.out ?_
              rotate_left
              · rintro w' ⟨-, hBx, q0, q1, q2, q3⟩
                obtain ⟨-, a0, a1, a2, a3, -, -, -, -, -⟩ := hBx
                go_simp
                with_reducible rfl
              simp only [Act.put, List.getElem_toArray, List.getElem_cons_zero, List.setIfInBounds_toArray, List.set_cons_zero, List.set_cons_succ]
              refine wpAnyT_take (i := 1) (v := ?_) rfl (by kernel_rfl) (by kernel_rfl) (by kernel_rfl) (by kernel_rfl) (by kernel_rfl) (by kernel_rfl) (fun _ _ _ h => h) (Or.inl ⟨by rfl, ?_⟩) HSd.out ?_
              rotate_left
              · rintro w' ⟨-, hBx, q0, q1, q2, q3⟩
                obtain ⟨-, a0, a1, a2, a3, -, -, -, -, -⟩ := hBx
                go_simp
                with_reducible rfl
              simp only [Act.put, List.getElem_toArray, List.getElem_cons_zero, List.getElem_cons_succ, List.setIfInBounds_toArray, List.set_cons_zero, List.set_cons_succ]
              refine wpAnyT_take (i := 2) (v := ?_) rfl (by kernel_rfl) (by kernel_rfl) (by kernel_rfl) (by kernel_rfl) (by kernel_rfl) (by kernel_rfl) (fun _ _ _ h => h) (Or.inl ⟨by rfl, ?_⟩) HSd.out ?_
              rotate_left
              · rintro w' ⟨-, hBx, q0, q1, q2, q3⟩
                obtain ⟨-, a0, a1, a2, a3, -, -, -, -, -⟩ := hBx
                go_simp
                with_reducible rfl
              simp only [Act.put, List.getElem_toArray, List.getElem_cons_zero, List.getElem_cons_succ, List.setIfInBounds_toArray, List.set_cons_zero, List.set_cons_succ]
              refine wpAnyT_take (i := 3) (v := ?_) rfl (by kernel_rfl) (by kernel_rfl) (by kernel_rfl) (by kernel_rfl) (by kernel_rfl) (by kernel_rfl) (fun _ _ _ h => h) (Or.inl ⟨by rfl, ?_⟩) HSd.out ?_
              rotate_left
              · rintro w' ⟨-, hBx, q0, q1, q2, q3⟩
                obtain ⟨-, a0, a1, a2, a3, -, -, -, -, -⟩ := hBx
                go_simp
                with_reducible rfl
              simp only [Act.put, List.getElem_toArray, List.getElem_cons_zero, List.getElem_cons_succ, List.setIfInBounds_toArray, List.set_cons_zero, List.set_cons_succ]
              refine wpAnyT_take (i := 4) (v := ?_) rfl (by kernel_rfl) (by kernel_rfl) (by kernel_rfl) (by kernel_rfl) (by kernel_rfl) (by kernel_rfl) (fun _ _ _ h => h) (Or.inl ⟨by rfl, ?_⟩) HSd.out ?_
              rotate_left
              · rintro w' ⟨-, hBx, q0, q1, q2, q3⟩
                obtain ⟨-, a0, a1, a2, a3, -, -, -, -, -⟩ := hBx
                go_simp
                with_reducible rfl
              simp only [Act.put, List.getElem_toArray, List.getElem_cons_zero, List.getElem_cons_succ, List.setIfInBounds_toArray, List.set_cons_zero, List.set_cons_succ]
              refine wpAnyT_one (i := 5) (by kernel_rfl) rfl (fun K' hK => ?_)
              rw [if_pos (by rfl)]
              simp only [List.getElem_toArray, List.getElem_cons_zero, List.getElem_cons_succ] at hK ⊢
              have HK := Lib.hid hK
              clear hK z0 z1 z2 z3
              go_simp
              refine (SB.out Az Kz (h k) wr.drew HVk.out).mono ?_
              rintro e w6 ⟨rfl, b6⟩
              have HZ6 := Lib.hid (HZr.out.drew.keep b6)
              have HS6 : Hid (True ∧ (fun w' => Bx w4 w4.heap.size w' (.int .i64 W) (.int .i64 H) (.int .i64 T) (.slice Az N Kz) ∧ w'.cell? ⟨gh, oh + k * 4, none⟩ = some (.int .i64 (h k).I) ∧ w'.cell? ⟨gh, oh + k * 4 + 1, none⟩ = some (.int .i64 (h k).J) ∧ w'.cell? ⟨gh, oh + k * 4 + 2, none⟩ = some (.int .i64 (h k).R) ∧ w'.cell? ⟨gh, oh + k * 4 + 3, none⟩ = some (.int .i64 (h k).D)) w6) := ⟨trivial, HZ6.out, kc b6 HSr.out.2.1, kc b6 HSr.out.2.2.1, kc b6 HSr.out.2.2.2.1, kc b6 HSr.out.2.2.2.2⟩
              clear b6 HSd HSr HZr
              refine HK.out _ _ trivial (fun _ => HS6.out.2) ?_
              clear HK
              simp only [List.setIfInBounds_toArray, List.set_cons_zero, List.set_cons_succ]
              refine wpAnyT_takeR (i := 6) (v := ?_) rfl (by kernel_rfl) (by kernel_rfl) (by kernel_rfl) (by kernel_rfl) (by kernel_rfl) (fun _ _ _ h => h) (Or.inl ⟨by rfl, ?_⟩) trivial HS6.out.2 ?_
              rotate_left
              · rintro w' -
                go_simp
                with_reducible rfl
              simp only [Act.put, List.getElem_toArray, List.getElem_cons_zero, List.getElem_cons_succ, List.setIfInBounds_toArray, List.set_cons_zero, List.set_cons_succ]
              refine wpAnyT_takeR (i := 7) (v := ?_) rfl (by kernel_rfl) (by kernel_rfl) (by kernel_rfl) (by kernel_rfl) (by kernel_rfl) (fun _ _ _ h => h) (Or.inl ⟨by rfl, ?_⟩) trivial HS6.out.2 ?_
              rotate_left
              · rintro w' -
                go_simp
                with_reducible rfl
              simp only [Act.put, List.getElem_toArray, List.getElem_cons_zero, List.getElem_cons_succ, List.setIfInBounds_toArray, List.set_cons_zero, List.set_cons_succ]
              refine wpAnyT_takeR (i := 8) (v := ?_) rfl (by kernel_rfl) (by kernel_rfl) (by kernel_rfl) (by kernel_rfl) (by kernel_rfl) (fun _ _ _ h => h) (Or.inl ⟨by rfl, ?_⟩) trivial HS6.out.2 ?_
              rotate_left
              · rintro w' -
                go_simp
                with_reducible rfl
              simp only [Act.put, List.getElem_toArray, List.getElem_cons_zero, List.getElem_cons_succ, List.setIfInBounds_toArray, List.set_cons_zero, List.set_cons_succ]
              refine wpAnyT_one (i := 9) (by kernel_rfl) rfl (fun K' hK => ?_)
              rw [if_pos (by rfl)]
              simp only [List.getElem_toArray, List.getElem_cons_zero, List.getElem_cons_succ] at hK ⊢
              have HK := Lib.hid hK
              clear hK
              obtain ⟨-, a0, a1, a2, a3, f0, f1, f2, f3, -⟩ := HZ6.out
              go_simp
              refine HK.out _ _ trivial (fun hh => absurd hh (by decide)) ?_
              clear HK
              refine wpAnyT_one (i := 10) (by kernel_rfl) rfl (fun K' hK => ?_)
              rw [if_pos (by rfl)]
              simp only [List.getElem_toArray, List.getElem_cons_zero, List.getElem_cons_succ, List.setIfInBounds_toArray, List.set_cons_zero, List.set_cons_succ] at hK ⊢
              have HK := Lib.hid hK
              clear hK
              go_simp
              refine HK.out _ _ trivial (fun hh => absurd hh (by decide)) ?_
              refine wpAnyT_done (by kernel_rfl) ?_ _
              clear HK HS6 a0 a1 a2 a3 f0 f1 f2 f3
              have HP6 := Lib.hid (HZ6.out.put (.int .i64 0) (.int .i64 0) (.int .i64 0) (.slice none 0 0))
              unfold put4 at *
              go_wp2
              go_roundw
              case rel => exact ⟨k + 1, by omega, by go_num, HP6.out.below, .inr ⟨rfl, by omega⟩⟩
              case measure => simp [intOf]; omega
          · obtain rfl : M = k := by omega
            have hM0 : M = 0 := by
              rcases hkv with h0 | h0
              · exact h0
              · exact absurd ⟨h0, hall⟩ HBad.out
            subst hM0
            clear hall hkv hZr hBz hw
            go_wp2_with fail
            refine (awake9_any _).mono ?_
            rintro e w8 ⟨rfl, b8⟩
            have X8 := Lib.hid ((XX5.out.keep HW.out).keep b8).below
            clear b8
            go_wp2
            go_ret
            exact Ret.mk rfl X8.out
        · by_cases hkM : k < M
          · have hkI : (k : Int) < (M : Int) := by omega
            clear hw
            go_wp2_with fail
            refine (awake9_any _).mono ?_
            rintro e w8 ⟨rfl, b8⟩
            have X8 := Lib.hid ((XX5.out.keep HW.out).keep b8).below
            clear b8
            go_wp2
            go_ret
            exact Ret.mk rfl X8.out
          · have hkI : ¬ (k : Int) < (M : Int) := by omega
            clear hw
            go_wp2_with fail
            refine (awake9_any _).mono ?_
            rintro e w8 ⟨rfl, b8⟩
            have X8 := Lib.hid ((XX5.out.keep HW.out).keep b8).below
            clear b8
            go_wp2
            go_ret
            exact Ret.mk rfl X8.out

end Go.Proofs.Ytcneilhhpblclaa
