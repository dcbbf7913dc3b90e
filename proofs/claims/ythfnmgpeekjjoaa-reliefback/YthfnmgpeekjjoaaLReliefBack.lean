/- The walk of the law ReliefBack. -/
import Derived.Test.YthfnmgpeekjjoaaLRelStart
import Derived.Deep.RegionWith
namespace Go.Proofs.Ythfnmgpeekjjoaa
open Go.RowKit
set_option linter.unusedVariables false

theorem tri_bd {W H T : Int} (hS : Sides W H T) (i : Nat) : tri W H T i < 256 := by
  obtain ⟨hW1, hW2, hH1, hH2, hT, hT2⟩ := hS
  match i with
  | 0 => show W.toNat < 256; omega
  | 1 => show H.toNat < 256; omega
  | _ + 2 => show T.toNat < 256; omega
/-- What was encoded is decoded. -/
theorem decode_enc (W H T : Int) (A : Option Addr) (N K : Nat) (p : Nat → Nat) (u : World) (hb : Bs u A (3 + N) (catN (tri W H T) 3 p)) (hp : ∀ i, p i < 256) (hv : Val W H T N) (hK1 : 3 + N ≤ K) (hK2 : K ≤ maxLen) :
    Calls Try.prog 22 #[.slice A (3 + N) K] u (RetMap W H T N p u) := by
  obtain ⟨hW1, hW2, hH1, hH2, hT, hT2⟩ := hv.s
  have e0 : ((catN (tri W H T) 3 p 0 : Nat) : Int) = W := by show ((W.toNat : Nat) : Int) = W; omega
  have e1 : ((catN (tri W H T) 3 p 1 : Nat) : Int) = H := by show ((H.toNat : Nat) : Int) = H; omega
  have e2 : ((catN (tri W H T) 3 p 2 : Nat) : Int) = T := by show ((T.toNat : Nat) : Int) = T; omega
  have e3 : (fun i => catN (tri W H T) 3 p (3 + i)) = p := by
    funext i
    have h : ¬ 3 + i < 3 := by omega
    have h2 : 3 + i - 3 = i := by omega
    show (if 3 + i < 3 then tri W H T (3 + i) else p (3 + i - 3)) = p i
    rw [if_neg h, h2]
  have e4 : 3 + N - 3 = N := by omega
  have h := decode_ok A (3 + N) K (catN (tri W H T) 3 p) u hb (fun i => by unfold catN; split; exact tri_bd hv.s i; exact hp _) (by omega) hK1 hK2 (by rw [e0, e1, e2, e4]; exact hv)
  rw [e0, e1, e2, e3, e4] at h
  exact h
/-- What was decoded is encoded to the same bytes. -/
theorem enc_dec (q : Nat → Nat) (n : Nat) (h : 3 ≤ n) : sb (catN (tri (q 0) (q 1) (q 2)) 3 (fun i => q (3 + i))) (3 + (n - 3)) = sb q n := by
  have e : 3 + (n - 3) = n := by omega
  rw [e]
  apply sb_congr
  intro i _
  unfold catN
  split
  · rename_i hi
    match i, hi with
    | 0, _ => show ((q 0 : Nat) : Int).toNat = q 0; omega
    | 1, _ => show ((q 1 : Nat) : Int).toNat = q 1; omega
    | 2, _ => show ((q 2 : Nat) : Int).toNat = q 2; omega
  · rename_i hi
    have e2 : 3 + (i - 3) = i := by omega
    show q (3 + (i - 3)) = q i
    rw [e2]

theorem Bs.off {w : World} {A : Option Addr} {n : Nat} {p : Nat → Nat} (h : Bs w A n p) {g j : Nat} (hA : ∀ x, A = some x → x.block ≠ g) (u : Value) : Bs (w.setCell ⟨g, j, none⟩ u) A n p := by
  intro hn
  obtain ⟨g0, o, e, hg, hc⟩ := h hn
  have hne : g ≠ g0 := fun e1 => hA _ e e1.symm
  exact ⟨g0, o, e, by simpa using hg, fun i hi => cell_far (hc i hi) (.inl hne)⟩
/-- What holds while s is written over: the map, its box, x and its box; the cells of s are there. -/
structure Over (w wr : World) (W H T : Int) (A : Option Addr) (N c : Nat) (p : Nat → Nat) (G : Nat) (A5 : Option Addr) (K5 : Nat) (g : Nat) : Prop where
  st : Start w wr W H T A N c p
  bx : Bx w G wr (.int .i64 W) (.int .i64 H) (.int .i64 T) (.slice A5 N K5)
  bs : Bs wr A5 N p
  cell : ∀ i, i < 3 + N → ∃ v, wr.cell? ⟨g, i, none⟩ = some v
  free : ∀ i, wr.frozen? ⟨g, i, none⟩ = false
theorem Over.step {w wr : World} {W H T : Int} {A : Option Addr} {N c : Nat} {p : Nat → Nat} {G : Nat} {A5 : Option Addr} {K5 g : Nat} (h : Over w wr W H T A N c p G A5 K5 g)
    (hA : ∀ x, A = some x → x.block ≠ g) (hA5 : ∀ x, A5 = some x → x.block ≠ g) (hG : g ≠ G) (hw : g ≠ w.heap.size) (hge : w.heap.size ≤ g) (k : Nat) (u : Value) : Over w (wr.setCell ⟨g, k, none⟩ u) W H T A N c p G A5 K5 g :=
  ⟨⟨h.st.bx.far hw hge u, h.st.bs.off hA u⟩, h.bx.far hG hge u, h.bs.off hA5 u, fun i hi => by
    obtain ⟨v, hv⟩ := h.cell i hi
    exact cell?_setCell_some hv, fun i => by simpa [World.frozen?_setCell] using h.free i⟩

set_option maxHeartbeats 2000000 in
theorem walk_ReliefBack (W H T : Int) (A : Option Addr) (n c : Nat) (p : Nat → Nat) (B : Option Addr) (nb cb : Nat) (q : Nat → Nat) (w : World) (hb : Bs w A n p) (hp : ∀ i, p i < 256) (hn : n ≤ c) (hc : c ≤ maxLen)
    (hB : Bs w B nb q) (hq : ∀ i, q i < 256) (hnb : nb ≤ cb) (hcb : cb ≤ maxLen) :
    Calls Try.prog 8 #[.agg #[.int .i64 W, .int .i64 H, .int .i64 T, .slice A n c], .slice B nb cb] w (Ret (.bool true) w) := by
  have HF := Lib.hid (few_any W H T A n c p _ (hb.alloc (.cells #[.int .i64 W, .int .i64 H, .int .i64 T, .slice A n c] 24)) hn hc)
  have HS := Lib.hid (fun w1 => Start.first (w := w) (w1 := w1) (W := W) (H := H) (T := T) (c := c) hb)
  have hN := (fewN_le n).2
  have hN' : fewN n ≤ maxLen := by unfold maxLen; omega
  have HX := Lib.hid (Bx.new w (.int .i64 W) (.int .i64 H) (.int .i64 T) (.slice A n c) 24)
  have HQ := Lib.hid hB
  have HA := Lib.hid (hb.take (fewN_le n).1)
  have HP := Lib.hid hp
  have HQ2 := Lib.hid hq
  clear hb hp hB hq
  generalize fewN n = N at *
  have C1 := Lib.hid (fun u => check_any W H T A N c u hN')
  obtain ⟨k, ek⟩ : ∃ k, chk W H T N = k := ⟨_, rfl⟩
  have K0 : Hid (Val W H T N → k = 0) := fun h => ek ▸ chk_ok h
  have K1 : Hid (¬ Val W H T N → 1 ≤ k) := fun h => ek ▸ (chk_bad h).1
  rw [ek] at C1
  clear ek
  go_enter Try.func8, Try.ntmps8
  go_wp2_with fail
  refine HF.out.mono ?_
  rintro e w1 ⟨rfl, b1⟩
  have X1 := Lib.hid (HX.out.keep b1)
  have S0 := HS.out _ b1
  clear b1 HX HF HS
  obtain ⟨-, c0, c1, c2, c3, f0, f1, f2, f3, -⟩ := X1.out
  have S1 := Lib.hid S0
  obtain ⟨⟨-, c0', c1', c2', c3', -, -, -, -, -⟩, -⟩ := S0
  go_wp2_with fail
  refine (C1.out _).mono ?_
  rintro e w2 ⟨rfl, b2⟩
  have S2 := Lib.hid (S1.out.keep b2)
  clear b2 S1 X1 c0 c1 c2 c3 f0 f1 f2 f3 c0' c1' c2' c3'
  obtain ⟨⟨-, c0, c1, c2, c3, -, -, -, -, -⟩, -⟩ := S2.out
  go_upto_if 15 with fail
  go_cut [4] (fun s4 wx => s4 = .bool false ∧ Below w.heap.size w wx)
  case first =>
    by_cases hv : Val W H T N
    · have hk : (k == 0) = true := by rw [K0.out hv]; rfl
      have C2 := Lib.hid (fun u hb => encode_ok W H T A N c p u hb hN' hv)
      have C3 := Lib.hid (fun A4 K4 u hb h1 h2 => decode_enc W H T A4 N K4 p u hb HP.out hv h1 h2)
      obtain ⟨n4, n5⟩ := val_few hv
      clear hv K0 K1 C1
      generalize catN (tri W H T) 3 p = pe at *
      go_wp2_with fail
      refine (C2.out _ S2.out.bs).mono ?_
      rintro e w4 ⟨A4, K4, rfl, h41, h42, hO4, b2⟩
      have S4 := Lib.hid (S2.out.keep b2)
      have HG2 : Hid (w.heap.size < w2.heap.size) := World.block_lt_of_cell? _ _ c0
      clear b2 S2 c0 c1 c2 c3
      obtain ⟨g, rfl, hg1, hg2, hgc, hgf⟩ := hO4 (by omega)
      have HGC := Lib.hid hgc
      have HGF := Lib.hid hgf
      have HO4 := Lib.hid (hO4.bs)
      clear hgc hgf hO4
      obtain ⟨⟨-, c0, c1, c2, c3, -, -, -, -, -⟩, -⟩ := S4.out
      go_wp2_with fail
      refine (C3.out _ K4 _ HO4.out h41 h42).mono ?_
      rintro e w5 ⟨A5, K5, rfl, h51, h52, hO5, b2⟩
      have S5 := Lib.hid ((S4.out.keep b2).keep ((Below.refl _ _).alloc (Nat.le_refl _) (.cells #[.int .i64 W, .int .i64 H, .int .i64 T, .slice A5 N K5] 24)))
      have XX := Lib.hid (Bx.next (S4.out.keep b2).bx.below (.int .i64 W) (.int .i64 H) (.int .i64 T) (.slice A5 N K5) 24)
      have HO5 := Lib.hid (hO5.bs.alloc (.cells #[.int .i64 W, .int .i64 H, .int .i64 T, .slice A5 N K5] 24))
      have hG : g ≠ w5.heap.size := by have := b2.size; omega
      have HC5 : Hid (∀ i, i < 3 + N → ∃ v, (w5.alloc (.cells #[.int .i64 W, .int .i64 H, .int .i64 T, .slice A5 N K5] 24)).cell? ⟨g, i, none⟩ = some v) := fun i hi => ⟨_, kc ((Below.refl _ _).alloc (Nat.le_refl _) _) (kc b2 (HGC.out i hi))⟩
      have HF5 : Hid (∀ i, (w5.alloc (.cells #[.int .i64 W, .int .i64 H, .int .i64 T, .slice A5 N K5] 24)).frozen? ⟨g, i, none⟩ = false) := by
        intro i
        rw [frozen_old _ _ _ _ (by have := b2.size; omega)]
        exact (b2.frozen (p := ⟨g, i, none⟩) hg2).trans (HGF.out i)
      have HA5 : Hid (0 < N → ∀ x, A5 = some x → x.block ≠ g) := by
        intro h0 x hx
        obtain ⟨g5, e5, h5, _⟩ := hO5 h0
        rw [e5] at hx
        injection hx with hx
        subst hx
        show g5 ≠ g
        omega
      have HA' : Hid (0 < N → ∀ x, A = some x → x.block ≠ g) := by
        intro h0 x hx
        obtain ⟨g5, o5, e5, h5, _⟩ := HA.out h0
        rw [e5] at hx
        injection hx with hx
        subst hx
        show g5 ≠ g
        have := HG2.out
        omega
      have hgw : g ≠ w.heap.size := by have := HG2.out; omega
      have hge : w.heap.size ≤ g := by have := HG2.out; omega
      clear b2 S4 c0 c1 c2 c3 HGC HGF HO4 hO5
      obtain ⟨⟨-, c0, c1, c2, c3, -, -, -, -, -⟩, -⟩ := S5.out
      go_wp2_with fail
      generalize w5.heap.size = G at *
      generalize w5.alloc (.cells #[.int .i64 W, .int .i64 H, .int .i64 T, .slice A5 N K5] 24) = w5a at *
      have OV0 : Hid (Over w w5a W H T A N c p G A5 K5 g) := ⟨S5.out, XX.out, HO5.out, HC5.out, HF5.out⟩
      clear S5 XX HO5 HC5 HF5 c0 c1 c2 c3 C2 C3
      go_loopw [8] (fun i wr => ∃ j : Nat, j ≤ 3 + N ∧ i = .int .i64 (j : Int) ∧ Over w wr W H T A N c p G A5 K5 g) (fun i _ => 3 + N - (intOf i).toNat)
      case atStart => exact ⟨0, by omega, rfl, OV0.out⟩
      case round =>
        obtain ⟨j, hj, rfl, hO⟩ := hrel
        have OV := Lib.hid hO
        clear hO OV0
        by_cases hlt : j < 3 + N
        · obtain ⟨v, hcell⟩ := OV.out.cell j hlt
          have hfree := OV.out.free j
          have HNX := Lib.hid (OV.out.step (HA'.out (by omega)) (HA5.out (by omega)) hG hgw hge j (.int .u8 99))
          have i0 : (0 : Int) ≤ (j : Int) := by omega
          have i1 : (j : Int) < 3 + (N : Int) := by omega
          clear OV
          go_wp2
          go_roundw
          case rel => exact ⟨j + 1, by omega, by go_num, HNX.out⟩
          case measure => simp [intOf]; omega
        · have i1 : ¬ (j : Int) < 3 + (N : Int) := by omega
          obtain ⟨-, c0, c1, c2, c3, -, -, -, -, -⟩ := OV.out.bx
          obtain ⟨-, d0, d1, d2, d3, -, -, -, -, -⟩ := OV.out.st.bx
          go_wp2_with fail
          refine (same_yes W H T A5 A N K5 c p p _ OV.out.bs OV.out.st.bs (fun _ _ => rfl) hN').mono ?_
          rintro e w6 ⟨rfl, b6⟩
          have S6 := Lib.hid (OV.out.st.keep b6)
          clear b6 OV c0 c1 c2 c3 d0 d1 d2 d3
          go_wp2
          go_meet
          exact ⟨rfl, S6.out.bx.below⟩
    · have hk : (k == 0) = false := by have := K1.out hv; simp; omega
      clear hv K0 K1 C1
      go_wp2
      go_meet
      exact ⟨rfl, S2.out.bx.below⟩
  case rest =>
    obtain ⟨rfl, hbel⟩ := hcut
    have HBL := Lib.hid hbel
    clear hbel S2 c0 c1 c2 c3 C1 K0 K1 HA HP
    have hD : (∃ kk : Int, 1 ≤ kk ∧ ∀ u, Bs u B nb q → Calls Try.prog 22 #[.slice B nb cb] u (Ret (.tuple #[.agg #[.int .i64 0, .int .i64 0, .int .i64 0, .slice none 0 0], .int .i64 kk]) u)) ∨ (3 ≤ nb ∧ Val (q 0) (q 1) (q 2) (nb - 3)) := by
      by_cases h3 : nb < 3
      · exact .inl ⟨2, by omega, fun u _ => decode_short B nb cb u h3⟩
      · by_cases hbv : Val (q 0) (q 1) (q 2) (nb - 3)
        · exact .inr ⟨by omega, hbv⟩
        · exact .inl ⟨_, (chk_bad hbv).1, fun u hu => decode_bad B nb cb q u hu HQ2.out (by omega) hnb hcb hbv⟩
    rcases hD with ⟨kk, hkk, hD⟩ | ⟨h3, hbv⟩
    · have D := Lib.hid hD
      have C5 := Lib.hid (fun u => same_yes 0 0 0 none none 0 0 0 (fun _ => 0) (fun _ => 0) u (fun h => absurd h (by omega)) (fun h => absurd h (by omega)) (fun _ _ => rfl) (by simp [maxLen]))
      have hk : (kk != 0) = true := by simp; omega
      clear hD
      go_wp2_with fail
      refine (D.out _ (HQ.out.keep HBL.out)).mono ?_
      rintro e w3 ⟨rfl, b2⟩
      have XX := Lib.hid (Bx.next (HBL.out.trans (b2.mono HBL.out.size)) (.int .i64 0) (.int .i64 0) (.int .i64 0) (.slice none 0 0) 24)
      clear b2 HBL D
      go_wp2_with fail
      refine (C5.out _).mono ?_
      rintro e w5 ⟨rfl, b2⟩
      have X5 := Lib.hid (XX.out.keep b2)
      clear b2 XX C5
      go_wp2_with fail
      refine (awake_any _).mono ?_
      rintro e w9 ⟨rfl, b2⟩
      have X9 := Lib.hid (X5.out.keep b2)
      clear b2 X5
      go_wp2
      go_ret
      exact Ret.mk (by simp) X9.out.below
    · obtain ⟨m4, m5⟩ := val_few hbv
      have hM3 : nb - 3 ≤ maxLen := by unfold maxLen; omega
      have D := Lib.hid (fun u hb => decode_ok B nb cb q u hb HQ2.out h3 hnb hcb hbv)
      have CK := Lib.hid (fun A' K' u => check_ok (q 0) (q 1) (q 2) A' (nb - 3) K' u hM3 hbv)
      have EN := Lib.hid (fun A' K' u hb => encode_ok (q 0) (q 1) (q 2) A' (nb - 3) K' (fun i => q (3 + i)) u hb hM3 hbv)
      have ED := Lib.hid (enc_dec q nb h3)
      clear hbv
      obtain ⟨pe, epe⟩ : ∃ f, catN (tri (q 0) (q 1) (q 2)) 3 (fun i => q (3 + i)) = f := ⟨_, rfl⟩
      rw [epe] at EN ED
      clear epe
      obtain ⟨q3, eq3⟩ : ∃ f, (fun i => q (3 + i)) = f := ⟨_, rfl⟩
      rw [eq3] at D EN
      clear eq3
      generalize ((q 0 : Nat) : Int) = v0 at *
      generalize ((q 1 : Nat) : Int) = v1 at *
      generalize ((q 2 : Nat) : Int) = v2 at *
      obtain ⟨M3, eM3⟩ : ∃ m, nb - 3 = m := ⟨_, rfl⟩
      rw [eM3] at D CK EN ED hM3
      clear eM3 m4 m5
      obtain ⟨sq, esq⟩ : ∃ s, sb q nb = s := ⟨_, rfl⟩
      rw [esq] at ED
      have HSQ := Lib.hid esq
      clear esq
      go_wp2_with fail
      refine (D.out _ (HQ.out.keep HBL.out)).mono ?_
      rintro e w3 ⟨A3, K3, rfl, h31, h32, hO3, b2⟩
      have B3 := Lib.hid (HBL.out.trans (b2.mono HBL.out.size))
      have X3 := Lib.hid (Bx.next B3.out (.int .i64 v0) (.int .i64 v1) (.int .i64 v2) (.slice A3 M3 K3) 24)
      have HO3 := Lib.hid (hO3.bs.alloc (.cells #[.int .i64 v0, .int .i64 v1, .int .i64 v2, .slice A3 M3 K3] 24))
      clear b2 HBL D hO3 B3
      go_wp2_with fail
      generalize w3.heap.size = G at *
      generalize w3.alloc (.cells #[.int .i64 v0, .int .i64 v1, .int .i64 v2, .slice A3 M3 K3] 24) = w3a at *
      obtain ⟨-, c0, c1, c2, c3, -, -, -, -, -⟩ := X3.out
      go_region_with
        (first
          | (go_at_call 12; ((with_reducible refine (CK.out A3 K3 w3a.drew).mono ?_)); rintro e w7 ⟨rfl, b7⟩; have X7 := Lib.hid (X3.out.drew.keep b7); have HO7 := Lib.hid (HO3.out.keep ((Below.refl _ _).drew.trans b7)); clear b7; have cv7 := conv_any (HQ.out.keep X7.out.below) cb; rw [HSQ.out] at cv7; obtain ⟨-, c0, c1, c2, c3, -, -, -, -, -⟩ := X7.out)
          | (go_at_call 23; ((with_reducible refine (EN.out A3 K3 w7 HO7.out).mono ?_)); rintro e w8 ⟨A8, K8, rfl, h81, h82, hO8, b8⟩; have X8 := Lib.hid (X7.out.keep b8); clear b8; have cv8 := conv_any (HQ.out.keep X8.out.below) cb; rw [HSQ.out] at cv8; have ce8 := conv_any hO8.bs K8; rw [ED.out] at ce8; clear hO8; obtain ⟨-, c0, c1, c2, c3, -, -, -, -, -⟩ := X8.out)
          | (go_at_call 14; ((with_reducible refine (awake_any w8).mono ?_)); rintro e w9 ⟨rfl, b9⟩; have X9 := Lib.hid (X8.out.keep b9); clear b9; obtain ⟨-, c0, c1, c2, c3, -, -, -, -, -⟩ := X9.out))
      all_goals
        go_wp2
        go_ret
        exact Ret.mk rfl X9.out.below

end Go.Proofs.Ythfnmgpeekjjoaa
