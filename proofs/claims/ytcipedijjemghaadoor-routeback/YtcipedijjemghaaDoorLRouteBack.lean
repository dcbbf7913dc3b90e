/- The law RouteBack. -/
import Derived.Test.YtcipedijjemghaaDoorLRtStart
namespace Go.Proofs.YtcipedijjemghaaDoor
open Go.RowKit Go.Sort Go.Shelf
set_option linter.unusedVariables false
set_option linter.unusedSimpArgs false
attribute [local go_sem] Oper.semAt_some

set_option maxHeartbeats 8000000 in
theorem walk_RouteBack (W H : Int) (A : Option Addr) (n c : Nat) (O : Nat → Bool) (f t k b : Int) (w : World) (hl : Lin w A n c O) :
    Calls Tryd.prog 5 #[.agg #[.int .i64 W, .int .i64 H, .slice A n c, .int .i64 f, .int .i64 t, .int .i64 k, .int .i64 b]] w (Ret (.bool true) w) := by
  have HL := Lib.hid hl.cut
  have HT := Lib.hid hl.tb
  have FC := Lib.hid (fun u => few13_any W H A n c u hl.nc hl.cm)
  have K0 := Lib.hid (Kx.new w 35 #[.int .i64 W, .int .i64 H, .slice A n c, .int .i64 f, .int .i64 t, .int .i64 k, .int .i64 b])
  clear hl
  generalize hm : cut13 n = m at *
  clear hm
  go_enter Tryd.func5, Tryd.ntmps5
  go_wp2_with fail
  refine (FC.out _).mono ?_
  rintro e w1 ⟨rfl, b1⟩
  have K1 := Lib.hid (K0.out.keep b1)
  have B1 : Hid (Bx2 w w.heap.size w1.heap.size (w1.alloc (.cells #[.int .i64 W, .int .i64 H, .slice A m c] 24)) W H A n m c f t k b) := ⟨K1.out.alloc _, Kx.next K1.out.below _ _⟩
  clear b1 K0 K1 FC
  obtain ⟨y0, y1, y2, x3, x4, x5, x6⟩ := B1.out.c
  go_wp2_with fail
  refine (small13_any W H A m c _).mono ?_
  rintro e w2 ⟨rfl, b1⟩
  have B2 := Lib.hid (B1.out.keep b1)
  clear b1 B1 y0 y1 y2 x3 x4 x5 x6
  cases hsm : decide ((m : Int) ≤ 160) with
  | false =>
    clear hsm
    go_wp2_with fail
    refine (awake13_any _ (HT.out.keep B2.out.x.below)).mono ?_
    rintro e w3 ⟨rfl, b1⟩
    have HB := Lib.hid (B2.out.x.below.trans (b1.mono B2.out.x.below.size))
    clear b1 B2
    go_wp2
    go_ret
    exact Ret.mk rfl HB.out
  | true =>
    clear hsm
    obtain ⟨y0, y1, y2, x3, x4, x5, x6⟩ := B2.out.c
    have HA := Lib.hid (fun u (hb : RowKit.Below w.heap.size w u) => awake13_any u (HT.out.keep hb))
    have CC := Lib.hid (fun u f t (hb : RowKit.Below w.heap.size w u) => cost13_any W H O m c f t A u (HL.out.keep hb))
    have HS := Lib.hid (And.intro (er13_symm W H O m t f) (vl13_symm W H O m t f))
    go_wp2_with fail
    refine (CC.out _ f t B2.out.x.below).mono ?_
    rintro e w3 ⟨⟨rfl, b1⟩, v1, v2⟩
    have B3 := Lib.hid (B2.out.keep b1)
    clear b1 B2 y0 y1 y2 x3 x4 x5 x6
    obtain ⟨y0, y1, y2, x3, x4, x5, x6⟩ := B3.out.c
    go_wp2_with fail
    refine (CC.out _ t f B3.out.x.below).mono ?_
    rintro e w4 ⟨⟨rfl, b1⟩, -, -⟩
    have B4 := Lib.hid (B3.out.keep b1)
    clear b1 B3 y0 y1 y2 x3 x4 x5 x6
    rw [HS.out.1, HS.out.2]
    have HTR := Lib.hid (fun h1 h2 => er13_tri (W := W) (H := H) (O := O) (n := m) (f := f) (m := b) (t := t) h1 h2)
    generalize er13 W H O m f t = E at *
    generalize vl13 W H O m f t = V at *
    have hEE : (E != E) = false := by simp
    have hVV : (V != V) = false := by simp
    obtain ⟨y0, y1, y2, x3, x4, x5, x6⟩ := B4.out.c
    go_wp2_with fail
    refine (CC.out _ f b B4.out.x.below).mono ?_
    rintro e w5 ⟨⟨rfl, b1⟩, v3, v4⟩
    have B5 := Lib.hid (B4.out.keep b1)
    clear b1 B4 y0 y1 y2 x3 x4 x5 x6
    obtain ⟨y0, y1, y2, x3, x4, x5, x6⟩ := B5.out.c
    go_wp2_with fail
    refine (CC.out _ b t B5.out.x.below).mono ?_
    rintro e w6 ⟨⟨rfl, b1⟩, v5, v6⟩
    have B6 := Lib.hid (B5.out.keep b1)
    clear b1 B5 y0 y1 y2 x3 x4 x5 x6 CC HS
    generalize er13 W H O m f b = E1 at *
    generalize vl13 W H O m f b = V1 at *
    generalize er13 W H O m b t = E2 at *
    generalize vl13 W H O m b t = V2 at *
    have FIN : Hid (∀ u, RowKit.Below w6.heap.size w6 u → RowKit.Below w.heap.size w u) := fun u hu => B6.out.x.below.trans (hu.mono B6.out.x.below.size)
    by_cases h1 : E1 = 0
    · have h1' : (E1 == 0) = true := by simp [h1]
      by_cases h2 : E2 = 0
      · have h2' : (E2 == 0) = true := by simp [h2]
        obtain ⟨q1, q2⟩ := HTR.out h1 h2
        subst q1
        have hz : ((0 : Int) != 0) = false := by decide
        have hle : decide (V1 + V2 < V) = false := decide_eq_false (by omega)
        clear HTR h1 h2
        go_wp2_with fail
        refine (HA.out _ B6.out.x.below).mono ?_
        rintro e w7 ⟨rfl, b1⟩
        have HB := Lib.hid (FIN.out _ b1)
        clear b1 B6 HA
        go_wp2
        go_ret
        exact Ret.mk rfl HB.out
      · have h2' : (E2 == 0) = false := by simp [h2]
        clear HTR h1 h2
        go_wp2_with fail
        refine (HA.out _ B6.out.x.below).mono ?_
        rintro e w7 ⟨rfl, b1⟩
        have HB := Lib.hid (FIN.out _ b1)
        clear b1 B6 HA
        go_wp2
        go_ret
        exact Ret.mk rfl HB.out
    · have h1' : (E1 == 0) = false := by simp [h1]
      clear HTR h1
      go_wp2_with fail
      refine (HA.out _ B6.out.x.below).mono ?_
      rintro e w7 ⟨rfl, b1⟩
      have HB := Lib.hid (FIN.out _ b1)
      clear b1 B6 HA
      go_wp2
      go_ret
      exact Ret.mk rfl HB.out
end Go.Proofs.YtcipedijjemghaaDoor
