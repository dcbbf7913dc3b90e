/- Contracts of package crater, fifth part: dig. -/
import Derived.Test.YtcneilhhpblclaaCr4
import Derived.Test.YtcneilhhpblclaaRel2
import Derived.Test.YtcneilhhpblclaaTake9
namespace Go.Proofs.Ytcneilhhpblclaa
open Go.RowKit Go.Shelf
set_option linter.unusedVariables false
attribute [local go_sem] Oper.semAt_some

/-- Block g holds the bytes p 0 .. p (n - 1), and may be written. -/
def Br (W : World) (g n : Nat) (p : Nat → Nat) : Prop := ∃ cs, W.heap[g]? = some (.cells cs 5 (0, 0)) ∧ ∀ i, i < n → cs[i]? = some (.int .u8 (p i : Int))
theorem Br.cell {W : World} {g n : Nat} {p : Nat → Nat} (h : Br W g n p) {i : Nat} (hi : i < n) : W.cell? ⟨g, i, none⟩ = some (.int .u8 (p i : Int)) := by
  obtain ⟨cs, h1, h2⟩ := h
  rw [cell_of_row W g i cs 5 (0, 0) h1]; exact h2 i hi
theorem Br.frozen {W : World} {g n : Nat} {p : Nat → Nat} (h : Br W g n p) (i : Nat) : W.frozen? ⟨g, i, none⟩ = false := by
  obtain ⟨cs, h1, h2⟩ := h
  exact frozen_of_row W g i cs 5 h1
theorem Br.lt {W : World} {g n : Nat} {p : Nat → Nat} (h : Br W g n p) : g < W.heap.size := by
  obtain ⟨cs, h1, h2⟩ := h
  exact (Array.getElem?_eq_some_iff.1 h1).1
theorem Br.isCells {W : World} {g n : Nat} {p : Nat → Nat} (h : Br W g n p) {o : Obj} (ho : W.heap[g]? = some o) : o.isCells = true := by
  obtain ⟨cs, h1, h2⟩ := h
  rw [h1] at ho; cases ho; rfl
theorem Br.block {W W' : World} {g n : Nat} {p : Nat → Nat} (h : Br W g n p) (e : W'.heap[g]? = W.heap[g]?) : Br W' g n p := by
  obtain ⟨cs, h1, h2⟩ := h
  exact ⟨cs, e.trans h1, h2⟩
theorem Br.keep {W W' : World} {g n : Nat} {p : Nat → Nat} (h : Br W g n p) (hb : Below W.heap.size W W') : Br W' g n p := h.block (hb.block g h.lt)
theorem Br.congr {W : World} {g n : Nat} {p q : Nat → Nat} (h : Br W g n p) (e : ∀ i, i < n → p i = q i) : Br W g n q := by
  obtain ⟨cs, h1, h2⟩ := h
  exact ⟨cs, h1, fun i hi => by rw [← e i hi]; exact h2 i hi⟩
theorem Br.set {W : World} {g n : Nat} {p : Nat → Nat} (h : Br W g n p) {i : Nat} (hi : i < n) (v : Nat) : Br (W.setCell ⟨g, i, none⟩ (.int .u8 (v : Int))) g n (fun k => if k = i then v else p k) := by
  obtain ⟨cs, h1, h2⟩ := h
  refine ⟨_, heap_setCell_same W g i cs 5 _ h1, fun j hj => ?_⟩
  have hl : i < cs.size := (Array.getElem?_eq_some_iff.1 (h2 i hi)).1
  by_cases e : j = i
  · subst e
    dsimp only
    rw [if_pos rfl, Array.getElem?_setIfInBounds_self_of_lt hl]
  · dsimp only
    rw [if_neg e, Array.getElem?_setIfInBounds_ne (fun e2 => e e2.symm)]
    exact h2 j hj
theorem Br.bs {W : World} {g n : Nat} {p : Nat → Nat} (h : Br W g n p) : Bs W (some ⟨g, 0, none⟩) n p := fun _ => ⟨g, 0, rfl, h.lt, fun i hi => by rw [Nat.zero_add]; exact h.cell hi⟩
/-- What a round of digging has done so far. -/
def Dg (X : World) (cg n : Nat) (q : Nat → Nat) (wr : World) : Prop := X.grownBy wr (some cg) ∧ Br wr cg n q
theorem Dg.below {X wr w' : World} {cg n : Nat} {q : Nat → Nat} (h : Dg X cg n q wr) (hb : Below wr.heap.size wr w') : Dg X cg n q w' :=
  ⟨grownBy_trans h.1 (below_grownBy (row := none) hb) (fun r e => by cases e), h.2.keep hb⟩
theorem Dg.drew {X wr : World} {cg n : Nat} {q : Nat → Nat} (h : Dg X cg n q wr) : Dg X cg n q wr.drew := h.below (Below.refl _ _).drew
theorem Dg.put {X wr : World} {cg n : Nat} {q : Nat → Nat} (h : Dg X cg n q wr) {i : Nat} (hi : i < n) (v : Nat) : Dg X cg n (fun k => if k = i then v else q k) (wr.setCell ⟨cg, i, none⟩ (.int .u8 (v : Int))) :=
  ⟨grownBy_trans h.1 (grownBy_set wr cg i _) (fun r e => .inr e), h.2.set hi v⟩
theorem Dg.congr {X wr : World} {cg n : Nat} {q r : Nat → Nat} (h : Dg X cg n q wr) (e : ∀ k, k < n → q k = r k) : Dg X cg n r wr := ⟨h.1, h.2.congr e⟩
theorem Dg.cell {X wr : World} {cg n : Nat} {q : Nat → Nat} (h : Dg X cg n q wr) {b i : Nat} {v : Value} (hc : X.cell? ⟨b, i, none⟩ = some v) (hne : b ≠ cg) : wr.cell? ⟨b, i, none⟩ = some v := h.1.cell hc (by simpa using hne)

/-- The cells that a round reads. -/
def Sr (gm g4 : Nat) (sl : Value) (W H : Int) (h : Ht) (w' : World) : Prop :=
  w'.cell? ⟨gm, 0, none⟩ = some (.int .i64 W) ∧ w'.cell? ⟨gm, 1, none⟩ = some (.int .i64 H) ∧ w'.cell? ⟨gm, 3, none⟩ = some sl ∧
  w'.cell? ⟨g4, 0, none⟩ = some (.int .i64 h.I) ∧ w'.cell? ⟨g4, 1, none⟩ = some (.int .i64 h.J) ∧ w'.cell? ⟨g4, 2, none⟩ = some (.int .i64 h.R) ∧ w'.cell? ⟨g4, 3, none⟩ = some (.int .i64 h.D)
theorem Sr.below {gm g4 : Nat} {sl : Value} {W H : Int} {h : Ht} {w w' : World} (s : Sr gm g4 sl W H h w) (hb : Below w.heap.size w w') : Sr gm g4 sl W H h w' :=
  ⟨kc hb s.1, kc hb s.2.1, kc hb s.2.2.1, kc hb s.2.2.2.1, kc hb s.2.2.2.2.1, kc hb s.2.2.2.2.2.1, kc hb s.2.2.2.2.2.2⟩
theorem Sr.far {gm g4 : Nat} {sl : Value} {W H : Int} {h : Ht} {w : World} (s : Sr gm g4 sl W H h w) {cg i : Nat} (h1 : gm ≠ cg) (h2 : g4 ≠ cg) (v : Value) : Sr gm g4 sl W H h (w.setCell ⟨cg, i, none⟩ v) :=
  ⟨cell_far s.1 (.inl h1.symm), cell_far s.2.1 (.inl h1.symm), cell_far s.2.2.1 (.inl h1.symm), cell_far s.2.2.2.1 (.inl h2.symm), cell_far s.2.2.2.2.1 (.inl h2.symm), cell_far s.2.2.2.2.2.1 (.inl h2.symm), cell_far s.2.2.2.2.2.2 (.inl h2.symm)⟩
theorem Sr.dg {gm g4 : Nat} {sl : Value} {W H : Int} {h : Ht} {X wr : World} (s : Sr gm g4 sl W H h X) {cg n : Nat} {q : Nat → Nat} (d : Dg X cg n q wr) (h1 : gm ≠ cg) (h2 : g4 ≠ cg) : Sr gm g4 sl W H h wr :=
  ⟨d.cell s.1 h1, d.cell s.2.1 h1, d.cell s.2.2.1 h1, d.cell s.2.2.2.1 h2, d.cell s.2.2.2.2.1 h2, d.cell s.2.2.2.2.2.1 h2, d.cell s.2.2.2.2.2.2 h2⟩

set_option maxRecDepth 100000 in
set_option maxHeartbeats 8000000 in
theorem dig_any (W H T : Int) (cg n cp gb N c : Nat) (A : Option Addr) (p : Nat → Nat) (h : Nat → Ht) (w0 w : World) (hp : ∀ i, p i < 256) (hv9 : Val W H T n) (hok : ∀ q, q < N → Ok9 (h q)) (hN : N ≤ maxLen) (hB : Boxed w0 gb 31 (.slice A N c)) (hH : Hs w0 A N h)
    (hw : Below w0.heap.size w0 w) (hcg : w0.heap.size ≤ cg) (hR : Br w cg n p) :
    Calls Try.prog 42 #[.agg #[.int .i64 W, .int .i64 H, .int .i64 T, .slice (some ⟨cg, 0, none⟩) n cp], .func (.func 43) #[] #[.pointer (some ⟨gb, 0, none⟩)]] w
      (fun e w' => e = .returned (.tuple #[]) ∧ w.grownBy w' (some cg) ∧ Br w' cg n (fell p (W + 1).toNat h N)) := by
  obtain ⟨s, es⟩ : ∃ s, (W + 1).toNat = s := ⟨_, rfl⟩
  rw [es]
  obtain ⟨⟨hW1, hW2, hH1, hH2, -, -⟩, hnn⟩ := hv9
  have hs : (s : Int) = W + 1 := by omega
  have hcl := hR.lt
  obtain ⟨V, hV⟩ : ∃ V, w.alloc (.cells #[.int .i64 W, .int .i64 H, .int .i64 T, .slice (some ⟨cg, 0, none⟩) n cp] 30) = V := ⟨_, rfl⟩
  have bx : Bx w w.heap.size V (.int .i64 W) (.int .i64 H) (.int .i64 T) (.slice (some ⟨cg, 0, none⟩) n cp) := by rw [← hV]; exact Bx.new w _ _ _ _ _
  have hs0 : V.heap.size = w.heap.size + 1 := by rw [← hV]; simp
  have BX := Lib.hid bx
  have I0 : Hid (Dg V cg n (fell p s h 0) V) := ⟨⟨rfl, rfl, rfl, Nat.le_refl _, fun _ _ _ => rfl⟩, hR.keep bx.below⟩
  have HVb : Hid (Below w0.heap.size w0 V) := hw.trans (bx.below.mono hw.size)
  have HSq := Lib.hid (each_seq (3 - 1) gb N c A h w0 (by decide) hN hB hH)
  have HV := Lib.hid hV
  have HOk := Lib.hid hok
  have HNN := Lib.hid hnn
  have HP := Lib.hid hp
  clear hV hB hH hok hR bx hnn es hw hp
  have hn3 : 1 ≤ 3 := by decide
  refine (callsIn_wide (n := 3)).1 ?_
  refine callsIn_of_wp_marks Try.func42 rfl trivial ?_ rfl
  simp only [Try.ntmps42, List.size_toArray, List.length_cons, List.length_nil, Nat.reduceAdd, Nat.reduceSub, Array.replicate_succ, Array.replicate_zero, List.push_toArray, List.append_toArray, List.nil_append, List.cons_append]
  gi_wp2
  rw [HV.out]
  refine range9 rfl hn3 (gf := 43) (lb := #[.pointer (some ⟨gb, 0, none⟩)]) rfl trivial (enters_of Try.func43 (by kernel_rfl) rfl)
    HSq.out HVb.out (fun _ => rfl)
    (fun q X => Dg V cg n (fell p s h q) X) (fun _ _ => False) ?own (fun _ _ _ _ h _ _ => h) I0.out
    (fun q a' X => ∃ g4, H4 X g4 (h q) ∧ V.heap.size ≤ g4 ∧ a' = { tmps := #[.agg #[.int .i64 W, .int .i64 H, .int .i64 T, .slice (some ⟨cg, 0, none⟩) n cp], .func (.func 43) #[] #[.pointer (some ⟨gb, 0, none⟩)], .pointer (some ⟨w.heap.size, 0, none⟩), undef, .pointer (some ⟨g4, 0, none⟩), undef, undef, undef, undef, undef, undef, undef, .func (.func 43) #[] #[.pointer (some ⟨gb, 0, none⟩)], hv (h q), undef, undef, undef, undef, undef, undef, undef, undef, undef, undef, undef, undef, undef, undef, undef, undef, undef, undef, undef, undef, undef, undef, undef, undef, undef, undef, undef, undef, undef, undef, undef, undef, undef, undef, undef, undef, undef, undef, undef, undef, undef, undef, undef, undef, undef, undef, undef, undef, undef, undef, undef, undef, undef, undef, undef, undef], defers := [] }) ?ax ?assign ?body ?done ?stop
  case own =>
    rintro q X Y row ⟨i1, i2⟩ hg hr
    exact ⟨grownBy_trans i1 hg (fun r e => .inl (hr r e)), i2.block (hg.block cg i2.lt (fun e => by have := hr cg e.symm; omega))⟩
  case ax =>
    rintro q a' - X Y row ⟨g4, hp, hge, e⟩ hg hr
    exact ⟨g4, hp.block (hg.block g4 hp.lt (fun e' => by obtain ⟨_, o, ho, hc⟩ := hr g4 e'.symm; rw [show X.heap[g4]? = _ from hp] at ho; cases ho; cases hc)), hge, e⟩
  case assign =>
    rintro l q X K hq i1 hK
    have J1 := Lib.hid i1
    have HK := Lib.hid hK
    have hsz := i1.1.size
    clear i1 hK
    unfold hv
    gi_wp2
    exact HK.out _ _ ((KeepsOthers.alloc X _).from _) (Kb.below ((Below.refl _ _).alloc (Nat.le_refl _) _)) (J1.out.below ((Below.refl _ _).alloc (Nat.le_refl _) _)) ⟨X.heap.size, H4.new X _, hsz, rfl⟩
  case body =>
    rintro l q a' X hq i1 ⟨g4, hP, hge, rfl⟩
    have hok := HOk.out q hq
    obtain ⟨r1, r2, d0, d1, ⟨I1, I2⟩, ⟨J1, J2⟩⟩ := id hok
    have HOK := Lib.hid hok
    have hgm : w.heap.size ≠ cg := by omega
    have hg4 : g4 ≠ cg := by omega
    obtain ⟨-, x0, x1, x2, x3, -, -, -, -, -⟩ := BX.out
    have m0 := i1.cell x0 hgm
    have m1 := i1.cell x1 hgm
    have m3 := i1.cell x3 hgm
    obtain ⟨t0, t1, t2, t3⟩ := hP.c
    have HSr : Hid (Sr w.heap.size g4 (.slice (some ⟨cg, 0, none⟩) n cp) W H (h q) X) := ⟨m0, m1, m3, t0, t1, t2, t3⟩
    obtain ⟨ln, hln⟩ : ∃ ln : Nat, max 0 ((h q).I - (h q).R + 1) = (ln : Int) := ⟨(max 0 ((h q).I - (h q).R + 1)).toNat, by omega⟩
    obtain ⟨bn, hbn⟩ : ∃ bn : Nat, max 0 ((h q).J - (h q).R + 1) = (bn : Int) := ⟨(max 0 ((h q).J - (h q).R + 1)).toNat, by omega⟩
    obtain ⟨rt, hrt⟩ : ∃ rt : Int, min W ((h q).I + (h q).R - 1) = rt := ⟨_, rfl⟩
    obtain ⟨tp, htp⟩ : ∃ tp : Int, min H ((h q).J + (h q).R - 1) = tp := ⟨_, rfl⟩
    have L1 := Lib.hid (reach_any (h q).I (h q).R W X I1 I2 r1 r2 hW1 hW2)
    have L2 := Lib.hid (reach_any (h q).J (h q).R H X J1 J2 r1 r2 hH1 hH2)
    rw [hln, hrt] at L1
    rw [hbn, htp] at L2
    have HQ := Lib.hid i1
    have hXV := i1.1.size
    have Hln := Lib.hid hln
    have Hbn := Lib.hid hbn
    have Hrt := Lib.hid hrt
    have Htp := Lib.hid htp
    have hrW : rt ≤ W := by omega
    have htH : tp ≤ H := by omega
    have hlb : ln ≤ 129 := by omega
    have hbb : bn ≤ 129 := by omega
    have hrl : -65 ≤ rt := by omega
    have htl : -65 ≤ tp := by omega
    have HRB : Hid (1 ≤ (h q).R ∧ (h q).R ≤ 8 ∧ 0 ≤ (h q).D ∧ (h q).D ≤ 255 ∧ -64 ≤ (h q).I ∧ (h q).I ≤ 128 ∧ -64 ≤ (h q).J ∧ (h q).J ≤ 128) := ⟨r1, r2, d0, d1, I1, I2, J1, J2⟩
    clear hok hP x0 x1 x2 x3 i1 hln hbn hrt htp
    gi_wp2_with fail
    refine ⟨trivial, ?_⟩
    refine (CallsIn.inRound l (callsIn_wide.2 L1.out)).mono ?_
    rintro e X2 ⟨rfl, rfl⟩
    gi_wp2_with fail
    refine ⟨trivial, ?_⟩
    refine (CallsIn.inRound l (callsIn_wide.2 L2.out)).mono ?_
    rintro e X2 ⟨rfl, rfl⟩
    clear m0 m1 m3 t0 t1 t2 t3 L1 L2 r1 r2 d0 d1 I1 I2 J1 J2
    gi_wp2
    -- BEGIN
    have HS0 : Hid (Dg X cg n (fell p s h q) X) := ⟨⟨rfl, rfl, rfl, Nat.le_refl _, fun _ _ _ => rfl⟩, HQ.out.2⟩
    obtain ⟨LL, hLL⟩ : ∃ LL : Nat → Nat, LL = fun k => (lw (h q) ((k % s : Nat) : Int) ((k / s : Nat) : Int)).toNat := ⟨_, rfl⟩
    have HLL := Lib.hid hLL
    clear hLL
    gi_loopw [9] (fun s9 wr => ∃ j : Nat, s9 = .int .i64 (j : Int) ∧ bn ≤ j ∧ ((j : Int) ≤ tp + 1 ∨ j = bn) ∧ Dg X cg n (fun k => dug (fell p s h q) LL s ln rt bn j ln k) wr) (fun s9 _ => (tp + 1 - intOf s9).toNat)
    case atStart => exact ⟨bn, rfl, Nat.le_refl _, .inr rfl, HS0.out.congr (fun k _ => (dug_start _ _ _ _ _ _ k).symm)⟩
    case round =>
      obtain ⟨j, rfl, hj1, hj2, hD⟩ := hrel
      clear HS0
      rename World => W1
      have HD := Lib.hid hD
      clear hD
      by_cases hjt : (j : Int) ≤ tp
      · have hjH : (j : Int) ≤ 64 := by omega
        gi_wp2
        gi_loopw [10] (fun s10 wr => ∃ i : Nat, s10 = .int .i64 (i : Int) ∧ ln ≤ i ∧ ((i : Int) ≤ rt + 1 ∨ i = ln) ∧ Dg X cg n (fun k => dug (fell p s h q) LL s ln rt bn j i k) wr) (fun s10 _ => (rt + 1 - intOf s10).toNat)
        case atStart => exact ⟨ln, rfl, Nat.le_refl _, .inr rfl, HD.out⟩
        case round =>
          obtain ⟨i, rfl, hi1, hi2, hD⟩ := hrel
          clear HD
          rename World => W3
          by_cases hir : (i : Int) ≤ rt
          · have hiW : (i : Int) ≤ 64 := by omega
            have his : i < s := by omega
            obtain ⟨k0, ek0⟩ : ∃ k0, s * j + i = k0 := ⟨_, rfl⟩
            obtain ⟨M, eM⟩ : ∃ M : Int, (W + 1) * (j : Int) = M := ⟨_, rfl⟩
            have hM : M = ((s * j : Nat) : Int) := by rw [← eM, ← hs, Int.natCast_mul]
            have hM0 : 0 ≤ M := by omega
            have hM1 : M ≤ 65 * 64 := by rw [← eM]; exact Int.mul_le_mul (by omega) hjH (by omega) (by omega)
            have hk0 : k0 < n := by
              have h1 : ((s * (j + 1) : Nat) : Int) ≤ (n : Int) := by
                rw [HNN.out, ← hs, Int.natCast_mul]
                exact Int.mul_le_mul_of_nonneg_left (by omega) (by omega)
              rw [Nat.mul_add, Nat.mul_one] at h1
              omega
            have EC : Hid (M + (i : Int) = (k0 : Int)) := by show _ = _; omega
            have HDx := Lib.hid hD.drew
            have HSd : Hid (Sr w.heap.size g4 (.slice (some ⟨cg, 0, none⟩) n cp) W H (h q) W3.drew) := HSr.out.dg HDx.out hgm hg4
            have HS : Hid (Sr w.heap.size g4 (.slice (some ⟨cg, 0, none⟩) n cp) W H (h q) W3.drew ∧ Dg X cg n (fun k => dug (fell p s h q) LL s ln rt bn j i k) W3.drew) := ⟨HSd.out, HDx.out⟩
            obtain ⟨u, hu⟩ : ∃ u, dug (fell p s h q) LL s ln rt bn j i k0 = u := ⟨_, rfl⟩
            have hu2 : u < 256 := by
              rw [← hu, ← ek0, dug_same _ _ _ _ _ _ _ _ his]
              exact Nat.lt_of_le_of_lt (fell_le _ _ _ _ _) (HP.out _)
            have Hu := Lib.hid hu
            have HL := Lib.hid (fun (w' : World) => lowers_any (h q) i j w' HOK.out ⟨by omega, by omega⟩ ⟨by omega, by omega⟩)
            obtain ⟨v, hv⟩ : ∃ v, lw (h q) (i : Int) (j : Int) = v := ⟨_, rfl⟩
            have hv0 : 0 ≤ v ∧ v ≤ 255 := by
              have := lw_bd HOK.out (i : Int) (j : Int)
              have := HRB.out
              omega
            have HLv : Hid (LL k0 = v.toNat) := by
              show _ = _
              obtain ⟨c1, c2⟩ := col_row (j := j) his
              rw [HLL.out]
              show (lw (h q) ((k0 % s : Nat) : Int) ((k0 / s : Nat) : Int)).toNat = v.toNat
              rw [← ek0, c1, c2, hv]
            have Hek := Lib.hid ek0
            have HF : Hid (fell p s h q k0 = u) := by
              show _ = _
              rw [← hu, ← ek0, dug_same _ _ _ _ _ _ _ _ his]
            rw [hv] at HL
            obtain ⟨e0, e1, e2, e3, e4, e5, e6⟩ : Sr w.heap.size g4 (.slice (some ⟨cg, 0, none⟩) n cp) W H (h q) W3 := HSr.out.dg hD hgm hg4
            clear hu hv ek0 hM hD
            obtain ⟨hv0, hv1⟩ := hv0
            have wu : IntKind.i64.wrap (u : Int) = (u : Int) := IntWalk.i64_in _ (by omega)
            have wv : IntKind.i64.wrap ((u : Int) - v) = (u : Int) - v := IntWalk.i64_in _ (by omega)
            have hkI : (k0 : Int) < (n : Int) := by omega
            have hkI0 : (0 : Int) ≤ (k0 : Int) := by omega
            gi_wp2
            rw [EC.out]
            refine wpIn_regionT_round (m := 17) (R := fun w' => Sr w.heap.size g4 (.slice (some ⟨cg, 0, none⟩) n cp) W H (h q) w') (B := fun w' => Dg X cg n (fun k => dug (fell p s h q) LL s ln rt bn j i k) w') (by kernel_rfl) (by kernel_rfl) ?_
            simp only [List.size_toArray, List.length_cons, List.length_nil, Nat.reduceAdd, Array.replicate_succ, Array.replicate_zero, List.push_toArray, List.nil_append, List.cons_append]
            refine wpAnyT_take (i := 0) (v := ?_) rfl (by kernel_rfl) (by kernel_rfl) (by kernel_rfl) (by kernel_rfl) (by kernel_rfl) (by kernel_rfl) (fun _ _ _ h => h) (Or.inl ⟨by rfl, ?_⟩) HS.out ?_
            rotate_left
            · rintro w' ⟨⟨e0, e1, e2, e3, e4, e5, e6⟩, hB⟩
              clear hB
              go_simp
              with_reducible rfl
            simp only [Act.put, List.getElem_toArray, List.getElem_cons_zero, List.setIfInBounds_toArray, List.set_cons_zero, List.set_cons_succ]
            refine wpAnyT_take (i := 1) (v := ?_) rfl (by kernel_rfl) (by kernel_rfl) (by kernel_rfl) (by kernel_rfl) (by kernel_rfl) (by kernel_rfl) (fun _ _ _ h => h) (Or.inl ⟨by rfl, ?_⟩) HS.out ?_
            rotate_left
            · rintro w' ⟨⟨e0, e1, e2, e3, e4, e5, e6⟩, hB⟩
              clear hB
              go_simp
              with_reducible rfl
            simp only [Act.put, List.getElem_toArray, List.getElem_cons_zero, List.getElem_cons_succ, List.setIfInBounds_toArray, List.set_cons_zero, List.set_cons_succ]
            refine wpAnyT_take (i := 2) (v := ?_) rfl (by kernel_rfl) (by kernel_rfl) (by kernel_rfl) (by kernel_rfl) (by kernel_rfl) (by kernel_rfl) (fun _ _ _ h => h) (Or.inl ⟨by rfl, ?_⟩) HS.out ?_
            rotate_left
            · rintro w' ⟨⟨e0, e1, e2, e3, e4, e5, e6⟩, hB⟩
              clear hB
              go_simp
              with_reducible rfl
            simp only [Act.put, List.getElem_toArray, List.getElem_cons_zero, List.getElem_cons_succ, List.setIfInBounds_toArray, List.set_cons_zero, List.set_cons_succ]
            refine wpAnyT_take (i := 3) (v := ?_) rfl (by kernel_rfl) (by kernel_rfl) (by kernel_rfl) (by kernel_rfl) (by kernel_rfl) (by kernel_rfl) (fun _ _ _ h => h) (Or.inl ⟨by rfl, ?_⟩) HS.out ?_
            rotate_left
            · rintro w' ⟨⟨e0, e1, e2, e3, e4, e5, e6⟩, hB⟩
              clear hB
              go_simp
              with_reducible rfl
            simp only [Act.put, List.getElem_toArray, List.getElem_cons_zero, List.getElem_cons_succ, List.setIfInBounds_toArray, List.set_cons_zero, List.set_cons_succ]
            refine wpAnyT_take (i := 4) (v := ?_) rfl (by kernel_rfl) (by kernel_rfl) (by kernel_rfl) (by kernel_rfl) (by kernel_rfl) (by kernel_rfl) (fun _ _ _ h => h) (Or.inl ⟨by rfl, ?_⟩) HS.out ?_
            rotate_left
            · rintro w' ⟨⟨e0, e1, e2, e3, e4, e5, e6⟩, hB⟩
              clear hB
              go_simp
              with_reducible rfl
            simp only [Act.put, List.getElem_toArray, List.getElem_cons_zero, List.getElem_cons_succ, List.setIfInBounds_toArray, List.set_cons_zero, List.set_cons_succ]
            refine wpAnyT_take (i := 5) (v := ?_) rfl (by kernel_rfl) (by kernel_rfl) (by kernel_rfl) (by kernel_rfl) (by kernel_rfl) (by kernel_rfl) (fun _ _ _ h => h) (Or.inl ⟨by rfl, ?_⟩) HS.out ?_
            rotate_left
            · rintro w' ⟨⟨e0, e1, e2, e3, e4, e5, e6⟩, hB⟩
              clear hB
              go_simp
              with_reducible rfl
            simp only [Act.put, List.getElem_toArray, List.getElem_cons_zero, List.getElem_cons_succ, List.setIfInBounds_toArray, List.set_cons_zero, List.set_cons_succ]
            refine wpAnyT_take (i := 6) (v := ?_) rfl (by kernel_rfl) (by kernel_rfl) (by kernel_rfl) (by kernel_rfl) (by kernel_rfl) (by kernel_rfl) (fun _ _ _ h => h) (Or.inl ⟨by rfl, ?_⟩) HS.out ?_
            rotate_left
            · rintro w' ⟨⟨e0, e1, e2, e3, e4, e5, e6⟩, hB⟩
              clear hB
              go_simp
              with_reducible rfl
            simp only [Act.put, List.getElem_toArray, List.getElem_cons_zero, List.getElem_cons_succ, List.setIfInBounds_toArray, List.set_cons_zero, List.set_cons_succ]
            refine wpAnyT_take (i := 7) (v := ?_) rfl (by kernel_rfl) (by kernel_rfl) (by kernel_rfl) (by kernel_rfl) (by kernel_rfl) (by kernel_rfl) (fun _ _ _ h => h) (Or.inl ⟨by rfl, ?_⟩) HS.out ?_
            rotate_left
            · rintro w' ⟨⟨e0, e1, e2, e3, e4, e5, e6⟩, hB⟩
              have e7 := hB.2.cell hk0
              rw [Hu.out] at e7
              clear hB
              go_simp
              with_reducible rfl
            simp only [Act.put, List.getElem_toArray, List.getElem_cons_zero, List.getElem_cons_succ, List.setIfInBounds_toArray, List.set_cons_zero, List.set_cons_succ]
            refine wpAnyT_take (i := 8) (v := ?_) rfl (by kernel_rfl) (by kernel_rfl) (by kernel_rfl) (by kernel_rfl) (by kernel_rfl) (by kernel_rfl) (fun _ _ _ h => h) (Or.inl ⟨by rfl, ?_⟩) HS.out ?_
            rotate_left
            · rintro w' ⟨⟨e0, e1, e2, e3, e4, e5, e6⟩, hB⟩
              clear hB
              go_simp
              with_reducible rfl
            simp only [Act.put, List.getElem_toArray, List.getElem_cons_zero, List.getElem_cons_succ, List.setIfInBounds_toArray, List.set_cons_zero, List.set_cons_succ]
            refine wpAnyT_take (i := 9) (v := ?_) rfl (by kernel_rfl) (by kernel_rfl) (by kernel_rfl) (by kernel_rfl) (by kernel_rfl) (by kernel_rfl) (fun _ _ _ h => h) (Or.inl ⟨by rfl, ?_⟩) HS.out ?_
            rotate_left
            · rintro w' ⟨⟨e0, e1, e2, e3, e4, e5, e6⟩, hB⟩
              clear hB
              go_simp
              with_reducible rfl
            simp only [Act.put, List.getElem_toArray, List.getElem_cons_zero, List.getElem_cons_succ, List.setIfInBounds_toArray, List.set_cons_zero, List.set_cons_succ]
            refine wpAnyT_take (i := 10) (v := ?_) rfl (by kernel_rfl) (by kernel_rfl) (by kernel_rfl) (by kernel_rfl) (by kernel_rfl) (by kernel_rfl) (fun _ _ _ h => h) (Or.inl ⟨by rfl, ?_⟩) HS.out ?_
            rotate_left
            · rintro w' ⟨⟨e0, e1, e2, e3, e4, e5, e6⟩, hB⟩
              clear hB
              go_simp
              with_reducible rfl
            simp only [Act.put, List.getElem_toArray, List.getElem_cons_zero, List.getElem_cons_succ, List.setIfInBounds_toArray, List.set_cons_zero, List.set_cons_succ]
            refine wpAnyT_take (i := 11) (v := ?_) rfl (by kernel_rfl) (by kernel_rfl) (by kernel_rfl) (by kernel_rfl) (by kernel_rfl) (by kernel_rfl) (fun _ _ _ h => h) (Or.inl ⟨by rfl, ?_⟩) HS.out ?_
            rotate_left
            · rintro w' ⟨⟨e0, e1, e2, e3, e4, e5, e6⟩, hB⟩
              clear hB
              go_simp
              with_reducible rfl
            simp only [Act.put, List.getElem_toArray, List.getElem_cons_zero, List.getElem_cons_succ, List.setIfInBounds_toArray, List.set_cons_zero, List.set_cons_succ]
            refine wpAnyT_one (i := 12) (by kernel_rfl) rfl (fun K' hK => ?_)
            rw [if_pos (by rfl)]
            simp only [List.getElem_toArray, List.getElem_cons_zero, List.getElem_cons_succ] at hK ⊢
            have HK := Lib.hid hK
            clear hK
            go_simp
            refine (HL.out _).mono ?_
            rintro e w5 ⟨rfl, b5⟩
            have HD5 := Lib.hid (HDx.out.below b5)
            have HS5 : Hid (Sr w.heap.size g4 (.slice (some ⟨cg, 0, none⟩) n cp) W H (h q) w5) := HSd.out.below b5
            have HS6 : Hid (Sr w.heap.size g4 (.slice (some ⟨cg, 0, none⟩) n cp) W H (h q) w5 ∧ Dg X cg n (fun k => dug (fell p s h q) LL s ln rt bn j i k) w5) := ⟨HS5.out, HD5.out⟩
            clear b5 HL e0 e1 e2 e3 e4 e5 e6 HS HSd
            refine HK.out _ _ HS5.out (fun _ => HD5.out) ?_
            clear HK
            simp only [List.setIfInBounds_toArray, List.set_cons_zero, List.set_cons_succ]
            refine wpAnyT_take (i := 13) (v := ?_) rfl (by kernel_rfl) (by kernel_rfl) (by kernel_rfl) (by kernel_rfl) (by kernel_rfl) (by kernel_rfl) (fun _ _ _ h => h) (Or.inl ⟨by rfl, ?_⟩) HS6.out ?_
            rotate_left
            · rintro w' ⟨⟨e0, e1, e2, e3, e4, e5, e6⟩, hB⟩
              clear hB
              go_simp
              with_reducible rfl
            simp only [Act.put, List.getElem_toArray, List.getElem_cons_zero, List.getElem_cons_succ, List.setIfInBounds_toArray, List.set_cons_zero, List.set_cons_succ]
            by_cases hx : 0 < (u : Int) - v
            · obtain ⟨x, ex⟩ : ∃ x : Nat, (u : Int) - v = (x : Int) := ⟨((u : Int) - v).toNat, by omega⟩
              have hx2 : x < 256 := by omega
              have hxN : 0 < x := by omega
              have hxI : (x : Int) ≤ 255 := by omega
              have HX : Hid (x = u - LL k0) := by show _ = _; rw [HLv.out]; omega
              have ux : IntKind.u8.wrap (x : Int) = (x : Int) := by simp [IntKind.wrap, IntKind.bits, IntKind.signed]; omega
              rw [ex] at hx ⊢
              refine wpAnyT_take (i := 14) (v := ?_) rfl (by kernel_rfl) (by kernel_rfl) (by kernel_rfl) (by kernel_rfl) (by kernel_rfl) (by kernel_rfl) (fun _ _ _ h => h) (Or.inl ⟨by rfl, ?_⟩) HS6.out ?_
              rotate_left
              · rintro w' ⟨⟨e0, e1, e2, e3, e4, e5, e6⟩, hB⟩
                clear hB
                go_simp
                with_reducible rfl
              simp only [Act.put, List.getElem_toArray, List.getElem_cons_zero, List.getElem_cons_succ, List.setIfInBounds_toArray, List.set_cons_zero, List.set_cons_succ]
              refine wpAnyT_take (i := 15) (v := ?_) rfl (by kernel_rfl) (by kernel_rfl) (by kernel_rfl) (by kernel_rfl) (by kernel_rfl) (by kernel_rfl) (fun _ _ _ h => h) (Or.inl ⟨by rfl, ?_⟩) HS6.out ?_
              rotate_left
              · rintro w' ⟨⟨e0, e1, e2, e3, e4, e5, e6⟩, hB⟩
                clear hB
                go_simp
                with_reducible rfl
              simp only [Act.put, List.getElem_toArray, List.getElem_cons_zero, List.getElem_cons_succ, List.setIfInBounds_toArray, List.set_cons_zero, List.set_cons_succ]
              refine wpAnyT_take (i := 16) (v := ?_) rfl (by kernel_rfl) (by kernel_rfl) (by kernel_rfl) (by kernel_rfl) (by kernel_rfl) (by kernel_rfl) (fun _ _ _ h => h) (Or.inl ⟨by rfl, ?_⟩) HS6.out ?_
              rotate_left
              · rintro w' ⟨⟨e0, e1, e2, e3, e4, e5, e6⟩, hB⟩
                clear hB
                go_simp
                with_reducible rfl
              simp only [Act.put, List.getElem_toArray, List.getElem_cons_zero, List.getElem_cons_succ, List.setIfInBounds_toArray, List.set_cons_zero, List.set_cons_succ]
              refine wpAnyT_one (i := 17) (by kernel_rfl) rfl (fun K' hK => ?_)
              rw [if_pos (by rfl)]
              simp only [List.getElem_toArray, List.getElem_cons_zero, List.getElem_cons_succ] at hK ⊢
              have HK := Lib.hid hK
              clear hK
              have f7 := HD5.out.2.cell hk0
              have f8 := HD5.out.2.frozen k0
              go_simp
              refine HK.out _ _ (HS5.out.far hgm hg4 _) (fun hh => absurd hh (by decide)) ?_
              refine wpAnyT_done (by kernel_rfl) ?_ _
              refine (show Exit.inBlock 5 _ .normal _ _ from ?_)
              have HD6 := Lib.hid (HD5.out.put hk0 x)
              clear HD5 HS5 HS6 HK f7 f8
              gi_wp2
              go_roundw
              case rel =>
                refine ⟨i + 1, by go_num, by omega, by omega, HD6.out.congr (fun k hk => ?_)⟩
                show (if k = k0 then x else dug (fell p s h q) LL s ln rt bn j i k) = _
                rw [show ((i + 1 : Nat) : Int) = (i : Int) + 1 by omega, dug_step _ _ _ _ _ _ _ _ _ his (by omega) hir (by omega), Hek.out]
                by_cases ek : k = k0
                · rw [if_pos ek, if_pos ek, ek, HF.out]; exact HX.out
                · rw [if_neg ek, if_neg ek]
              case measure => simp [intOf]; omega
            · obtain ⟨x, ex⟩ : ∃ x : Int, (u : Int) - v = x := ⟨_, rfl⟩
              have HX : Hid (0 = u - LL k0) := by show _ = _; rw [HLv.out]; omega
              have ux : IntKind.u8.wrap 0 = 0 := by decide
              rw [ex] at hx ⊢
              refine wpAnyT_take (i := 14) (v := ?_) rfl (by kernel_rfl) (by kernel_rfl) (by kernel_rfl) (by kernel_rfl) (by kernel_rfl) (by kernel_rfl) (fun _ _ _ h => h) (Or.inl ⟨by rfl, ?_⟩) HS6.out ?_
              rotate_left
              · rintro w' ⟨⟨e0, e1, e2, e3, e4, e5, e6⟩, hB⟩
                clear hB
                go_simp
                with_reducible rfl
              simp only [Act.put, List.getElem_toArray, List.getElem_cons_zero, List.getElem_cons_succ, List.setIfInBounds_toArray, List.set_cons_zero, List.set_cons_succ]
              refine wpAnyT_take (i := 15) (v := ?_) rfl (by kernel_rfl) (by kernel_rfl) (by kernel_rfl) (by kernel_rfl) (by kernel_rfl) (by kernel_rfl) (fun _ _ _ h => h) (Or.inl ⟨by rfl, ?_⟩) HS6.out ?_
              rotate_left
              · rintro w' ⟨⟨e0, e1, e2, e3, e4, e5, e6⟩, hB⟩
                clear hB
                go_simp
                with_reducible rfl
              simp only [Act.put, List.getElem_toArray, List.getElem_cons_zero, List.getElem_cons_succ, List.setIfInBounds_toArray, List.set_cons_zero, List.set_cons_succ]
              refine wpAnyT_take (i := 16) (v := ?_) rfl (by kernel_rfl) (by kernel_rfl) (by kernel_rfl) (by kernel_rfl) (by kernel_rfl) (by kernel_rfl) (fun _ _ _ h => h) (Or.inl ⟨by rfl, ?_⟩) HS6.out ?_
              rotate_left
              · rintro w' ⟨⟨e0, e1, e2, e3, e4, e5, e6⟩, hB⟩
                clear hB
                go_simp
                with_reducible rfl
              simp only [Act.put, List.getElem_toArray, List.getElem_cons_zero, List.getElem_cons_succ, List.setIfInBounds_toArray, List.set_cons_zero, List.set_cons_succ]
              refine wpAnyT_one (i := 17) (by kernel_rfl) rfl (fun K' hK => ?_)
              rw [if_pos (by rfl)]
              simp only [List.getElem_toArray, List.getElem_cons_zero, List.getElem_cons_succ] at hK ⊢
              have HK := Lib.hid hK
              clear hK
              have f7 := HD5.out.2.cell hk0
              have f8 := HD5.out.2.frozen k0
              go_simp
              refine HK.out _ _ (HS5.out.far hgm hg4 _) (fun hh => absurd hh (by decide)) ?_
              refine wpAnyT_done (by kernel_rfl) ?_ _
              refine (show Exit.inBlock 5 _ .normal _ _ from ?_)
              have HD6 := Lib.hid (HD5.out.put hk0 0)
              clear HD5 HS5 HS6 HK f7 f8
              gi_wp2
              go_roundw
              case rel =>
                refine ⟨i + 1, by go_num, by omega, by omega, HD6.out.congr (fun k hk => ?_)⟩
                show (if k = k0 then 0 else dug (fell p s h q) LL s ln rt bn j i k) = _
                rw [show ((i + 1 : Nat) : Int) = (i : Int) + 1 by omega, dug_step _ _ _ _ _ _ _ _ _ his (by omega) hir (by omega), Hek.out]
                by_cases ek : k = k0
                · rw [if_pos ek, if_pos ek, ek, HF.out]; exact HX.out
                · rw [if_neg ek, if_neg ek]
              case measure => simp [intOf]; omega
          · have HD := Lib.hid hD
            clear hD
            gi_wp2
            go_roundw
            case rel => exact ⟨j + 1, by go_num, by omega, by omega, HD.out.congr (fun k _ => dug_row _ _ _ _ _ _ _ _ (by omega) (by omega) k)⟩
            case measure => simp [intOf]; omega
      · gi_wp2
        refine ⟨(KeepsOthers.of_grownBy HD.out.1 (fun jj o ej hj => ?_)).from _, Kb.turn HD.out.1 (fun r e => by injection e with e; omega), ⟨grownBy_trans HQ.out.1 HD.out.1 (fun r e => .inr e), HD.out.2.congr (fun k hk => ?_)⟩⟩
        · injection ej with ej
          subst ej
          exact HQ.out.2.isCells hj
        · rw [fell_succ, HLL.out]
          exact dug_done (fell p s h q) s n (h q) W H ln rt bn tp j HOK.out hs (by omega) HNN.out Hln.out.symm Hrt.out.symm Hbn.out.symm Htp.out.symm (by omega) k hk
    -- END
  case done =>
    rintro Dm X hD i1 hK
    have J1 := Lib.hid i1
    have HK := Lib.hid hK
    clear i1 hK
    gi_wp2
    refine leaves_marks w.heap.size (fun W' => w.grownBy W' (some cg) ∧ Br W' cg n (fell p s h N)) rfl ?_ ?_ [Dm] X (by simp) ?_ ?_
    · rintro W' D o o' ⟨g1, g2⟩ hD' hW' ho
      exact ⟨grownBy_trans g1 (grownBy_putObj' W' D o') (fun r e => by injection e with e; exact .inl (by omega)), g2.block (World.putObj_heap_other (by omega))⟩
    · rintro W' g1
      exact ⟨rfl, g1⟩
    · intro E hE
      simp at hE
      subst hE
      exact ⟨by omega, HK.out⟩
    · exact ⟨grownBy_trans (below_grownBy BX.out.below) J1.out.1 (fun r e => .inr e), J1.out.2⟩
  case stop =>
    rintro Dm q X _ _ hf _
    exact hf.elim

end Go.Proofs.Ytcneilhhpblclaa
