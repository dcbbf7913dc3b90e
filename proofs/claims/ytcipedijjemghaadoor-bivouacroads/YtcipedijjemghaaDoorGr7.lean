/- Contracts of package ground, fifth part: spread. -/
import Derived.Test.YtcipedijjemghaaDoorGr6
namespace Go.Proofs.YtcipedijjemghaaDoor
open Go.RowKit Go.Shelf
set_option linter.unusedVariables false
attribute [local go_sem] Oper.semAt_some

/-- What a loop over an iterator leaves among the deferred calls. -/
def mark (D : Nat) : Deferred := { target := .collected D, args := #[] }
theorem leaves_marks {F : Fence} {n : Nat} {P : Program} {fn : Func} {tmps : Array Value} {R : Ending → World → Prop} (s0 : Nat) (Φ : World → Prop) (hr : fn.results = #[])
    (hΦ : ∀ W D o o', Φ W → s0 ≤ D → W.heap[D]? = some o → o.isCells = false → Φ (W.putObj D o')) (hR : ∀ W, Φ W → R (.returned (.tuple #[])) W) :
    ∀ (ds : List Nat) (W : World), ds.Nodup → (∀ D ∈ ds, s0 ≤ D ∧ W.heap[D]? = some (.deferred (some []))) → Φ W → LeavesInM F n P fn tmps R (ds.map mark) .returning W
  | [], W, _, _, h => ⟨_, results_none hr _ _ _, hR W h⟩
  | D :: ds, W, hn, hm, h => by
    obtain ⟨h1, h2⟩ := hm D (by simp)
    obtain ⟨n1, n2⟩ := List.nodup_cons.1 hn
    refine ⟨by simp, .inl ⟨D, _, rfl, run_takeDeferred h2, ?_⟩⟩
    refine leaves_marks s0 Φ hr hΦ hR ds _ n2 (fun E hE => ?_) (hΦ _ _ _ _ h h1 h2 rfl)
    obtain ⟨e1, e2⟩ := hm E (by simp [hE])
    exact ⟨e1, (World.putObj_heap_other (fun e => n1 (by rw [← e]; exact hE))).trans e2⟩

/-- A number in memory. -/
def valAt (W : World) (g i : Nat) : Int := match W.cell? ⟨g, i, none⟩ with | some (.int _ z) => z | _ => 0
/-- A slice's length in memory. -/
def lenAt (W : World) (b : Nat) : Nat := match W.cell? ⟨b, 0, none⟩ with | some (.slice _ n _) => n | _ => 0
theorem Ir.val {W : World} {rg N : Nat} {R : Nat → Int} (h : Ir W rg N R) {i : Nat} (hi : i < N) : valAt W rg i = R i := by
  unfold valAt; rw [h.cell hi]
theorem spread_mu {w W : World} {rg N : Nat} {R : Nat → Int} {A : Nat → Prop} {S : List Nat} (h : Ir W rg N R) (k : Stk w W A S) : lenAt W (w.heap.size + 4) + cnt (fun i => valAt W rg i) N = S.length + cnt R N := by
  obtain ⟨gk, cap, h1, -, -, -⟩ := k
  have e1 : lenAt W (w.heap.size + 4) = S.length := by unfold lenAt; rw [h1.cell]
  rw [e1, cnt_congr (fun i hi => h.val hi)]

theorem kp_b {lo B : Nat} (W : World) (l : Nat) (o o' : Obj) (_ : B ≤ l) (h : W.heap[l]? = some o) (hc : o.isCells = false) (_ : o.isWalk = false) : Kp lo W (W.putObj l o') := fun b u _ _ hb =>
  (World.putObj_heap_other (fun e => by subst e; rw [show W.heap[b]? = _ from hb] at h; cases h; cases hc)).trans hb
/-- The iterator's contract. -/
theorem nb_stops (n lo bi bj wd ht x N : Nat) (eN : wd * ht = N) (w : World) (hn : 1 ≤ n) (h1 : 1 ≤ wd) (h2 : wd ≤ 64) (h3 : 1 ≤ ht) (h4 : ht ≤ 64) (hx : x < N) (hN : Nbx w lo bi bj wd ht x) :
    SeqStopsK Fence.wide n Tryd.prog 57 #[.pointer (some ⟨bj, 0, none⟩), .pointer (some ⟨lo + 2, 0, none⟩), .pointer (some ⟨lo, 0, none⟩), .pointer (some ⟨bi, 0, none⟩), .pointer (some ⟨lo + 1, 0, none⟩)]
      (fun m : Nb wd N x => #[Value.int .i64 (m.1 : Int)]) (Kp lo) (fun ys => ys.map Subtype.val = nbl wd ht x) (fun _ => True) 4 w := fun l J Jx W hW _ _ hY h0 => by
  subst eN
  have hA : wd * ht ≤ 4096 := land_bd h2 h4
  refine (it_in n l lo bi bj wd ht x _ _ hn h1 h2 h3 h4 (by omega) rfl rfl J Jx (fun m hm => (mem_nbl (by omega) hx).1 hm) ?_ W ?_ h0).mono ?_
  · intro pre m z W1 hz hJ hl
    subst hz
    exact hY pre m W1 hJ hl
  · have kb : Kp lo w W := fun b u _ _ hb => (hW.block b hb.lt).trans hb
    exact hN.kp kb
  · rintro e W' ⟨h, h' | ⟨pre, h'⟩⟩
    · exact ⟨h, .inl h'⟩
    · exact ⟨h, .inr ⟨pre, trivial, h'⟩⟩

/-- What spread leaves. -/
def RetSp (adj : Nat → Nat → Prop) (g : Nat → Bool) (N c rg : Nat) (w : World) (e : Ending) (w' : World) : Prop :=
  e = .returned (.tuple #[]) ∧ w.grownBy w' (some rg) ∧ ∃ R, Ir w' rg N R ∧ Part adj g N (c + 1) R

theorem Stk.start (w W : World) (hs : W.heap.size = w.heap.size + 3) (c : Nat) :
    Stk w ((W.alloc (.cells #[.int .i64 (c : Int)] 3)).alloc (.cells #[.slice (some ⟨w.heap.size + 3, 0, none⟩) 1 1] 26)) (fun _ => True) [c] := by
  have h1 := Boxed.new (W.alloc (.cells #[.int .i64 (c : Int)] 3)) 26 (.slice (some ⟨w.heap.size + 3, 0, none⟩) 1 1)
  rw [World.size_alloc, hs] at h1
  have h2 := World.ownsRow_lit (e := 3) (size := 1) (base := w.heap.size + 3) W #[.int .i64 (c : Int)] 1 (by omega) (by simp [maxLen]) (by simp)
  rw [hs] at h2
  exact ⟨w.heap.size + 3, 1, h1, Nat.le_refl _, trivial, h2.alloc _⟩
theorem Stk.push {w W : World} {A : Nat → Prop} {S : List Nat} {gk cap m : Nat} {u : Value} (hu : Boxed W (w.heap.size + 4) 26 u) (h2 : 1 ≤ cap) (h3 : A gk)
    (h4 : W.ownsRow (w.heap.size + 3) 3 1 (.slice (some ⟨gk, 0, none⟩) (S.length + 1) cap) (S.length + 1) (sv S ++ [.int .i64 (m : Int)])) :
    Stk w (W.setCell ⟨w.heap.size + 4, 0, none⟩ (.slice (some ⟨gk, 0, none⟩) (S.length + 1) cap)) A (S ++ [m]) := by
  have e : S.length + 1 = (S ++ [m]).length := by simp
  have e2 : sv S ++ [.int .i64 (m : Int)] = sv (S ++ [m]) := by simp [sv]
  rw [e, e2] at h4
  rw [e]
  exact Stk.store hu h2 h3 h4
theorem Spc.mark {w W : World} {rg N Kg Kr gb c D : Nat} {ds : List Nat} {R : Nat → Int} (h : Spc w W rg N Kg Kr gb c ds R) (hD : w.heap.size ≤ D) (hK : W.heap[D]? = some (.deferred (some []))) : Spc w W rg N Kg Kr gb c (D :: ds) R :=
  ⟨h.fr, h.bg, h.br, h.bf, h.ir, fun E hE => by
    rcases List.mem_cons.1 hE with rfl | hE
    · exact ⟨hD, hK⟩
    · exact h.ms E hE⟩
theorem kp_turn {lo : Nat} {A B : World} {row : Option Nat} (hg : A.grownBy B row) (hr : ∀ r, row = some r → ∃ o : Obj, A.heap[r]? = some o ∧ o.isCells = false) : Kp lo A B := fun b u _ _ hb => hb.kept hg (box_row hb hr)

set_option maxRecDepth 100000 in
set_option maxHeartbeats 4000000 in
theorem spread_any (wd ht N c rg gb Kg Kr : Nat) (eN : wd * ht = N) (g : Nat → Bool) (R0 : Nat → Int) (w : World) (h1 : 1 ≤ wd) (h2 : wd ≤ 64) (h3 : 1 ≤ ht) (h4 : ht ≤ 64) (hK : N ≤ Kr) (hKg : N ≤ Kg) (hc : c < N) (hgc : g c = true) (hRc : R0 c = -1)
    (hI : Ir w rg N R0) (hG : ∀ i, i < N → w.cell? ⟨gb, i, none⟩ = some (.bool (g i))) (hne : gb ≠ rg) (hP : Part (Adj wd N) g N c R0) :
    Calls Tryd.prog 54 #[.int .i64 (wd : Int), .int .i64 (ht : Int), .slice (some ⟨gb, 0, none⟩) N Kg, .slice (some ⟨rg, 0, none⟩) N Kr, .int .i64 (c : Int)] w (RetSp (Adj wd N) g N c rg w) := by
  have hA : N ≤ 4096 := by rw [← eN]; exact land_bd h2 h4
  have hrg := hI.lt
  have hgb : gb < w.heap.size := World.block_lt_of_cell? w _ (hG 0 (by omega))
  have HS := Lib.hid (Mid.start (adj := Adj wd N) (g := g) hc hgc hRc)
  have HG := Lib.hid hG
  have HP := Lib.hid hP
  have EN := Lib.hid eN
  obtain ⟨W3, hW3⟩ : ∃ W3, ((w.alloc (.cells #[.slice (some ⟨gb, 0, none⟩) N Kg] 22)).alloc (.cells #[.slice (some ⟨rg, 0, none⟩) N Kr] 26)).alloc (.cells #[.int .i64 (c : Int)] 3) = W3 := ⟨_, rfl⟩
  have q1 := Boxed.new w 22 (.slice (some ⟨gb, 0, none⟩) N Kg)
  have q2 := Boxed.new (w.alloc (.cells #[.slice (some ⟨gb, 0, none⟩) N Kg] 22)) 26 (.slice (some ⟨rg, 0, none⟩) N Kr)
  have q3 := Boxed.new ((w.alloc (.cells #[.slice (some ⟨gb, 0, none⟩) N Kg] 22)).alloc (.cells #[.slice (some ⟨rg, 0, none⟩) N Kr] 26)) 3 (.int .i64 (c : Int))
  have hs3 : W3.heap.size = w.heap.size + 3 := by rw [← hW3]; simp
  have bl3 : Below w.heap.size w W3 := by rw [← hW3]; exact (((Below.refl _ w).alloc (Nat.le_refl _) _).alloc (by simp) _).alloc (by simp; omega) _
  have HC : Hid (Spc w W3 rg N Kg Kr gb c [] R0) := by
    simp only [World.size_alloc, Nat.add_assoc, Nat.reduceAdd] at q2 q3
    rw [hW3] at q3
    exact ⟨below_grownBy bl3, by rw [← hW3]; exact (q1.alloc _).alloc _, by rw [← hW3]; exact q2.alloc _, q3, hI.keep bl3, fun D hD => by cases hD⟩
  have d0 := HC.out.ir.cell hc
  have f0 := HC.out.ir.frozen c
  have b0 := HC.out.br.cell
  have b1 := HC.out.bf.cell
  clear hG hP hI q1 q2 q3 bl3 eN
  have hn3 : 1 ≤ 3 := by decide
  have hcN : (c : Int) < (N : Int) := by omega
  refine (callsIn_wide (n := 3)).1 ?_
  refine callsIn_of_wp_marks Tryd.func54 rfl trivial ?_ rfl
  simp only [Tryd.ntmps54, List.size_toArray, List.length_cons, List.length_nil, Nat.reduceAdd, Nat.reduceSub, Array.replicate_succ, Array.replicate_zero, List.push_toArray, List.append_toArray, List.nil_append, List.cons_append]

  gi_wp2

  have HC1 := Lib.hid (HC.out.setR hrg hc (c : Int))
  have HT := Lib.hid (Stk.start w (W3.setCell ⟨rg, c, none⟩ (.int .i64 (c : Int))) (by simpa using hs3) c)
  have HC2 := Lib.hid ((HC1.out.keep hrg ((Below.refl _ _).alloc (Nat.le_refl _) (.cells #[.int .i64 (c : Int)] 3))).keep hrg ((Below.refl _ _).alloc (Nat.le_refl _) (.cells #[.slice (some ⟨w.heap.size + 3, 0, none⟩) 1 1] 26)))
  clear HC1 HC d0 f0 b0 b1
  refine wpIn_loop (fun a W => ∃ u11 u13 u14 u15 u16 u17 u18 u19 u20 u21 u22 u23 u24 u25 u26 u27 u28 u29 u30 u31 u32 u33 u34 u35 u36, (∃ ds R S, ds.Nodup ∧ Mid (Adj wd N) g N c R0 R S (fun _ => False) ∧ Spc w W rg N Kg Kr gb c ds R ∧ Stk w W (fun _ => True) S ∧ a.defers = ds.map mark) ∧ a.tmps = #[.int .i64 (wd : Int), .int .i64 (ht : Int), .slice (some ⟨gb, 0, none⟩) N Kg, .slice (some ⟨rg, 0, none⟩) N Kr, .int .i64 (c : Int), undef, undef, .pointer (some ⟨w.heap.size, 0, none⟩), .pointer (some ⟨w.heap.size + 1, 0, none⟩), .pointer (some ⟨w.heap.size + 2, 0, none⟩), .pointer (some ⟨w.heap.size + 4, 0, none⟩), u11, undef, u13, u14, u15, u16, u17, u18, u19, u20, u21, u22, u23, u24, u25, u26, u27, u28, u29, u30, u31, u32, u33, u34, u35, u36, undef, undef, undef, undef, undef, undef, undef, undef, undef, undef, undef, undef, undef, undef, undef, undef, undef, undef, undef, undef, undef]) (fun _ W => lenAt W (w.heap.size + 4) + cnt (fun i => valAt W rg i) N) ?start ?round
  case start =>
    (repeat apply Exists.intro)
    refine ⟨⟨[], _, _, List.nodup_nil, HS.out, HC2.out, HT.out, rfl⟩, rfl⟩
  case round =>
    clear HC2 HT HS hW3 hs3 W3
    rintro ⟨tm, df⟩ W ⟨u11, u13, u14, u15, u16, u17, u18, u19, u20, u21, u22, u23, u24, u25, u26, u27, u28, u29, u30, u31, u32, u33, u34, u35, u36, ⟨ds, R, S, hnd, hM, hSp, hSt, hdf⟩, htm⟩
    dsimp only at hdf htm
    subst hdf htm
    have HM := Lib.hid hM
    have HSp := Lib.hid hSp
    have HSt := Lib.hid hSt
    have HND := Lib.hid hnd
    clear hM hSp hSt hnd
    rcases List.eq_nil_or_concat S with hS | ⟨S0, x, hS⟩
    · subst hS
      obtain ⟨gk, cap, t1, t2, -, -⟩ := HSt.out
      have t3 := t1.cell
      clear t1
      simp only [List.length_nil] at t3
      gi_wp2
      refine leaves_marks w.heap.size (fun W => w.grownBy W (some rg) ∧ Ir W rg N R) rfl ?_ ?_ ds W HND.out HSp.out.ms ⟨HSp.out.fr, HSp.out.ir⟩
      · rintro W D o o' ⟨g1, g2⟩ hD hW ho
        exact ⟨grownBy_trans g1 (grownBy_putObj' W D o') (fun r e => by injection e with e; exact .inl (by omega)), g2.block (World.putObj_heap_other (by omega))⟩
      · rintro W ⟨g1, g2⟩
        exact ⟨rfl, g1, R, g2, HM.out.done HP.out⟩
    · rw [List.concat_eq_append] at hS
      subst hS
      obtain ⟨hM0, hxN, hxc, hx0, hlen⟩ := HM.out.pop
      have HM0 := Lib.hid hM0
      obtain ⟨gk, cap, t1, t2, -, t4⟩ := HSt.out
      rw [List.length_append, List.length_singleton] at t1 t4
      obtain ⟨t5, t6⟩ := own_pop t4
      have T5 := Lib.hid t5
      have T1 := Lib.hid t1
      have HMU := Lib.hid (spread_mu HSp.out.ir HSt.out)
      obtain ⟨k, ek⟩ : ∃ k, S0.length = k := ⟨_, rfl⟩
      have EK := Lib.hid ek
      rw [ek] at t1 t6 hlen
      have t3 := t1.cell
      have t7 := t1.frozen
      have kcap : k + 1 ≤ cap := by have := (own_row t4).2.2; obtain ⟨_, _, _, h⟩ := this; omega
      have kc1 : (k : Int) ≤ (cap : Int) := by omega
      have k0 : ¬ cap = 0 := by omega
      clear hM0 t1 t4 t5 ek HM HSt
      obtain ⟨W2, hW2⟩ : ∃ W2, W.setCell ⟨w.heap.size + 4, 0, none⟩ (.slice (some ⟨gk, 0, none⟩) k cap) = W2 := ⟨_, rfl⟩
      have hx1 : x ≤ 4096 := by omega
      have HSp2 : Hid (Spc w W2 rg N Kg Kr gb c ds R) := by rw [← hW2]; exact HSp.out.setS hrg T1.out _
      have HSt2 : Hid (Stk w W2 (fun _ => True) S0) := by
        have h := Stk.store (w := w) (A := fun _ => True) (S := S0) T1.out t2 trivial T5.out
        rw [EK.out, hW2] at h
        exact h
      have hs2 : w.heap.size + 5 ≤ W2.heap.size := by obtain ⟨_, _, q, _⟩ := HSt2.out; have := q.lt; omega
      gi_wp2_with fail
      refine ⟨trivial, ?_⟩
      refine (callsIn_wide.2 (neighbors_any wd ht x _ h1 h2 h4 hx1)).mono ?_
      rintro e W4 ⟨bi, bj, rfl, hNb, hsz, hb4⟩
      have HNb := Lib.hid hNb
      have HSp4 := Lib.hid (HSp2.out.keep hrg hb4)
      have HSt4 : Hid (Stk w W4 (fun q => ∀ b, W2.heap.size ≤ b → b < W2.heap.size + 5 → q ≠ b) S0) :=
        (HSt2.out.mono (A' := fun q => ∀ b, W2.heap.size ≤ b → b < W2.heap.size + 5 → q ≠ b) (fun q hq _ b b0 _ e => by omega)).keep hb4
      clear hNb hb4 HSp2 HSt2 HSp t3 t6 t7 T1 T5 t2 hW2 kcap kc1 k0
      generalize hlo : W2.heap.size = lo at *
      clear hlo W2
      gi_wp2
      have hB : ∀ D ∈ ds, D < W4.heap.size := fun D hD => (Array.getElem?_eq_some_iff.1 (HSp4.out.ms D hD).2).1
      refine wpIn_rangeFunc_ownG rfl hn3 (gf := 57) (lb := #[.pointer (some ⟨bj, 0, none⟩), .pointer (some ⟨lo + 2, 0, none⟩), .pointer (some ⟨lo, 0, none⟩), .pointer (some ⟨bi, 0, none⟩), .pointer (some ⟨lo + 1, 0, none⟩)]) rfl trivial (enters_of Tryd.func57 (by kernel_rfl) rfl)
        (nb_stops (3 - 1) lo bi bj wd ht x N EN.out W4 (by decide) h1 h2 h3 h4 hxN HNb.out) Kp.trans (kp_b (B := W4.heap.size)) (Below.refl _ _) (fun _ => rfl)
        (fun pre W' => ∃ R' S', Mid (Adj wd N) g N c R0 R' S' (fun q => q = x) ∧ (R' x = (c : Int) ∧ (∀ m ∈ pre, g m.1 = true → R' m.1 = (c : Int)) ∧ S'.length + cnt R' N = S0.length + cnt R N) ∧ Spc w W' rg N Kg Kr gb c ds R' ∧ Stk w W' (fun q => ∀ b, lo ≤ b → b < lo + 5 → q ≠ b) S' ∧ Nbx W' lo bi bj wd ht x)
        (fun _ _ _ => False) ?own (fun _ _ _ _ _ hs _ _ => hs) ?first
        (fun m => { tmps := #[.int .i64 (wd : Int), .int .i64 (ht : Int), .slice (some ⟨gb, 0, none⟩) N Kg, .slice (some ⟨rg, 0, none⟩) N Kr, .int .i64 (c : Int), undef, undef, .pointer (some ⟨w.heap.size, 0, none⟩), .pointer (some ⟨w.heap.size + 1, 0, none⟩), .pointer (some ⟨w.heap.size + 2, 0, none⟩), .pointer (some ⟨w.heap.size + 4, 0, none⟩), .int .i64 (x : Int), .int .i64 (m.1 : Int), u13, u14, u15, u16, u17, u18, .slice (some ⟨gk, 0, none⟩) (k + 1) cap, .int .i64 ((k : Int) + 1), .bool true, .slice (some ⟨gk, 0, none⟩) (k + 1) cap, .slice (some ⟨gk, 0, none⟩) (k + 1) cap, .int .i64 ((k : Int) + 1), .int .i64 (k : Int), .pointer (some ⟨gk, k, none⟩), .int .i64 (x : Int), .slice (some ⟨gk, 0, none⟩) (k + 1) cap, .slice (some ⟨gk, 0, none⟩) (k + 1) cap, .int .i64 ((k : Int) + 1), .int .i64 (k : Int), .slice (some ⟨gk, 0, none⟩) k cap, .int .i64 (wd : Int), .int .i64 (ht : Int), .int .i64 (x : Int), .func (.func 57) #[] #[.pointer (some ⟨bj, 0, none⟩), .pointer (some ⟨lo + 2, 0, none⟩), .pointer (some ⟨lo, 0, none⟩), .pointer (some ⟨bi, 0, none⟩), .pointer (some ⟨lo + 1, 0, none⟩)], .int .i64 (m.1 : Int), undef, undef, undef, undef, undef, undef, undef, undef, undef, undef, undef, undef, undef, undef, undef, undef, undef, undef, undef, undef], defers := [] }) ?assign ?body ?done ?stop
      case own =>
        rintro pre A B row ⟨R', S', q1, q2, q3, q4, q5⟩ hg hr
        have hr2 : ∀ r, row = some r → ∃ o : Obj, A.heap[r]? = some o ∧ o.isCells = false := fun r e => (hr r e).2
        exact ⟨R', S', q1, q2, q3.turn hrg hg (fun r e => ⟨by have := (hr r e).1; omega, (hr r e).2, fun hm => by have := hB r hm; have := (hr r e).1; omega⟩), q4.turn hg hr2, q5.kp (kp_turn hg hr2)⟩
      case first => exact ⟨R, S0, HM0.out, ⟨hxc, fun m hm => (by cases hm), rfl⟩, HSp4.out, HSt4.out, HNb.out⟩
      case assign =>
        intro l m W K hK
        gi_wp2
        exact hK
      case body =>
        rintro l pre m W' ⟨R', S', q1, ⟨q2, q3, q4⟩, q5, q6, q7⟩ -
        have Q1 := Lib.hid q1
        have Q3 := Lib.hid q3
        have Q4 := Lib.hid q4
        have Q5 := Lib.hid q5
        have Q6 := Lib.hid q6
        have Q7 := Lib.hid q7
        have Q2 := Lib.hid q2
        obtain ⟨mN, hm⟩ : ∃ mN, m.1 = mN := ⟨_, rfl⟩
        have hadj : Hid (Adj wd N x mN) := by rw [← hm]; exact m.2
        have EM := Lib.hid hm
        have hmN : mN < N := hadj.out.2.1
        have hmI : (mN : Int) < (N : Int) := by omega
        have e1 := q5.bg.cell
        have e2 := q5.br.cell
        have e3 := q5.bf.cell
        have e4 : W'.cell? ⟨gb, mN, none⟩ = some (.bool (g mN)) := q5.fr.cell (HG.out mN hmN) (by simpa using hne)
        have e5 := q5.ir.cell hmN
        have e6 := q5.ir.frozen mN
        clear q1 q2 q3 q4 q5 q6 q7 HSp4 HSt4 HNb HM0 HMU hxc
        rw [hm]
        cases hg : g mN with
        | false =>
          have HGm := Lib.hid hg
          rw [hg] at e4
          clear hg e5 e6
          gi_wp2
          refine ⟨KeepsFrom.refl _ _, fun b u _ _ hb => hb, R', S', Q1.out, ⟨Q2.out, fun m' hm' => ?_, Q4.out⟩, Q5.out, Q6.out, Q7.out⟩
          rcases List.mem_append.1 hm' with h | h
          · exact Q3.out m' h
          · have h' : m' = m := by simpa using h
            subst h'
            rw [EM.out, HGm.out]
            intro h; cases h
        | true =>
          have HGm := Lib.hid hg
          rw [hg] at e4
          clear hg
          by_cases hr : R' mN = -1
          · have HRm := Lib.hid hr
            rw [hr] at e5
            clear hr
            obtain ⟨W2, hW2⟩ : ∃ W2, W'.setCell ⟨rg, mN, none⟩ (.int .i64 (c : Int)) = W2 := ⟨_, rfl⟩
            have P5 : Hid (Spc w W2 rg N Kg Kr gb c ds (upd R' mN (c : Int))) := by rw [← hW2]; exact Q5.out.setR hrg hmN (c : Int)
            have P6 : Hid (Stk w W2 (fun q => ∀ b, lo ≤ b → b < lo + 5 → q ≠ b) S') := by rw [← hW2]; exact Q6.out.setR hrg _
            have P7 : Hid (Nbx W2 lo bi bj wd ht x) := by rw [← hW2]; exact Q7.out.kp (fun b u b0 _ hb => box_far hb (by omega))
            have P8 : Hid (Kp lo W' W2) := by rw [← hW2]; exact (fun b u b0 _ hb => box_far hb (by omega))
            have P9 : Hid (KeepsOthers W' W2) := by rw [← hW2]; exact KeepsOthers.setCell _ _ _
            obtain ⟨gk2, cap2, t1, t2, t3, t4⟩ := P6.out
            have T1 := Lib.hid t1
            have T4 := Lib.hid t4
            have T3 := Lib.hid t3
            have t5 := t1.cell
            have hbase : w.heap.size + 3 ≤ W2.heap.size := by have := t1.lt; omega
            have hl : S'.length ≤ 1000000 := by have := Q1.out.len; omega
            clear t1 t3 t4
            gi_wp2_with (gi_at_builtin; refine append_n rfl (.tmp 54) (.tmp 56) rfl (w.heap.size + 3) S'.length cap2 gk2 (sv S') (mN : Int) W2 rfl T4.out rfl hl hbase t2 ?_; intro gk3 cap3 W3 hown3 hcap3 hgr3 hap3; have T6 := Lib.hid hown3; have T7 := Lib.hid hgr3; have T8 := Lib.hid hap3; have T9 := Lib.hid (T1.out.kept hgr3 (T1.out.not_row (by decide) T4.out)); clear hown3 hgr3 hap3; have t8 := T9.out.cell; have t9 := T9.out.frozen)
            have hkg : Kp lo W2 (W3.setCell ⟨w.heap.size + 4, 0, none⟩ (.slice (some ⟨gk3, 0, none⟩) (S'.length + 1) cap3)) := fun b u b0 b1 hb => box_far (hb.kept T7.out (fun e => T3.out b b0 b1 (by injection e with e; exact e.symm))) (by omega)
            obtain ⟨p1, p2, p3⟩ := Q1.out.push Q2.out hx0 hadj.out hmN HGm.out HRm.out
            refine ⟨(P9.out.trans ((KeepsOthers.of_grownBy T7.out (fun j o ej hj => ?_)).trans (KeepsOthers.setCell _ _ _))).from _, P8.out.trans hkg, upd R' mN (c : Int), S' ++ [mN], p1, ⟨p3, fun m' hm' => ?_, p2.trans Q4.out⟩, (P5.out.grown hrg T4.out T7.out).setS hrg T9.out _, Stk.push T9.out hcap3 (fun b b0 b1 e => ?_) T6.out, P7.out.kp hkg⟩
            · injection ej with ej
              subst ej
              obtain ⟨_, _, cur, hcu, _⟩ := own_row T4.out
              rw [hcu] at hj; cases hj; rfl
            · intro hgm
              by_cases e : m'.1 = mN
              · rw [e]; exact upd_same _ _ _
              · rw [upd_other _ _ _ e]
                rcases List.mem_append.1 hm' with h | h
                · exact Q3.out m' h hgm
                · have h' : m' = m := by simpa using h
                  exact absurd (by rw [h']; exact EM.out) e
            · obtain ⟨u, hu⟩ := P7.out.all b b0 b1
              exact T8.out b u hu (fun e2 => T3.out b b0 b1 e2.symm) e.symm
          · have hr2 : (R' mN != -1) = true := by simpa using hr
            have HRm := Lib.hid hr
            clear hr e6
            gi_wp2
            refine ⟨KeepsFrom.refl _ _, fun b u _ _ hb => hb, R', S', Q1.out, ⟨Q2.out, fun m' hm' => ?_, Q4.out⟩, Q5.out, Q6.out, Q7.out⟩
            rcases List.mem_append.1 hm' with h | h
            · exact Q3.out m' h
            · have h' : m' = m := by simpa using h
              subst h'
              rw [EM.out]
              intro _
              exact Q1.out.has (fun a b => Adj.symm) HP.out Q2.out hx0 hadj.out HRm.out
      case done =>
        rintro D ys W' hD hys ⟨R', S', q1, ⟨q2, q3, q4⟩, q5, q6, q7⟩ hKD
        have hDs : w.heap.size ≤ D := by omega
        have HF := Lib.hid (q5.mark hDs hKD)
        have HM' : Hid (Mid (Adj wd N) g N c R0 R' S' (fun _ => False)) := by
          refine q1.close (fun m hm hgm => ?_)
          have h : m ∈ nbl wd ht x := (mem_nbl (by omega) (by rw [EN.out]; exact hxN)).2 (by rw [EN.out]; exact hm)
          rw [← hys] at h
          obtain ⟨y, hy1, hy2⟩ := List.mem_map.1 h
          rw [← hy2]
          exact q3 y hy1 (by rw [hy2]; exact hgm)
        have HT' := Lib.hid (q6.mono (A' := fun _ => True) (fun _ _ _ => trivial))
        have HN' : Hid ((D :: ds).Nodup) := List.nodup_cons.2 ⟨fun hm => by have := hB D hm; omega, HND.out⟩
        have HU : Hid (lenAt W' (w.heap.size + 4) + cnt (fun i => valAt W' rg i) N < lenAt W (w.heap.size + 4) + cnt (fun i => valAt W rg i) N) := by
          show _ < _
          rw [HMU.out, spread_mu q5.ir q6, q4]
          simp
        clear q1 q2 q3 q4 q5 q6 q7 hKD
        gi_wp2
        refine ⟨?_, HU.out⟩
        (repeat apply Exists.intro)
        exact ⟨⟨D :: ds, R', S', HN'.out, HM'.out, HF.out, HT'.out, rfl⟩, rfl⟩
      case stop =>
        rintro D cc pre W _ _ h _
        exact h.elim

end Go.Proofs.YtcipedijjemghaaDoor
