/- The iterator of within. -/
import Derived.Test.YtkghjaodnkjmoaaNr7
namespace Go.Proofs.Ytkghjaodnkjmoaa
open Go.RowKit Go.Shelf
set_option linter.unusedVariables false
attribute [local go_sem] Oper.semAt_some

theorem Sg.yield {D : Nat → Prop} {J : Nat × (Nat → Prop) → World → Prop} {w : World} {g6 g7 : Nat} {a0 b0 a1 b1 : Int} {q : Nat} {W1 W' : World} {S S' : Nat → Prop} (h : Sg D J w g6 g7 a0 b0 a1 b1 q W1) (hD : ∀ b, D b → b < w.heap.size) (hS : ∀ b, S b → ¬ D b) (h6 : ¬ S g6) (h7 : ¬ S g7)
    (hJ : J (q + 1, S') W') (hf : Frm S W1 W') (hs : Frs S S' W1) : Sg D J w g6 g7 a0 b0 a1 b1 (q + 1) W' := by
  have l6 := World.block_lt_of_cell? W1 _ h.c0
  have l7 := World.block_lt_of_cell? W1 _ h.c2
  have hw := h.ck.1
  refine ⟨h.ck.trans (Kd.frm hf hS), hf.cell h6 h.c0, hf.cell h6 h.c1, hf.cell h7 h.c2, hf.cell h7 h.c3, S', hJ, fun b hb hd => ?_, fun hb => ?_, fun hb => ?_⟩
  · rcases hs b hb with e | e
    · exact hS b e hd
    · have := hD b hd; omega
  · rcases hs _ hb with e | e
    · exact h6 e
    · dsimp only at l6; omega
  · rcases hs _ hb with e | e
    · exact h7 e
    · dsimp only at l7; omega

section
variable (X Y : Nat → Int)
/-- The entry that comes q-th. -/
def wen (l : List Nat) (q : Nat) : Array Value := #[.agg #[.int .i64 ((l.getD q 0 : Nat) : Int), .int .i64 (X (l.getD q 0)), .int .i64 (Y (l.getD q 0))]]
theorem wen_at {l d r : List Nat} {e : Nat} (h : l = d ++ e :: r) : d.length < l.length ∧ l.getD d.length 0 = e := by
  subst h
  simp
/-- What is left of a square's list. -/
theorem drop_cell {l : List Nat} {k : Nat} (hk : k < l.length) (f : Nat → Bool) : (l.drop k).filter f = (if f l[k] then [l[k]] else []) ++ (l.drop (k + 1)).filter f := by
  rw [List.drop_eq_getElem_cons hk, List.filter_cons]
  split <;> simp

set_option maxRecDepth 100000 in
set_option maxHeartbeats 8000000 in
theorem within_seq (D : Nat → Prop) (m gx gr gy gn p n : Nat) (x y r : Int) (w wa : World) (hm : 1 ≤ m) (hB : Wb w gx gr gy gn p x y r) (hI : Ix X Y wa p n) (hwa : Below wa.heap.size wa w) (hDa : ∀ b, b < wa.heap.size → D b) (hDg : D gx ∧ D gr ∧ D gy ∧ D gn) (hD : ∀ b, D b → b < w.heap.size) (hO : oks X Y n) (hx : 0 ≤ x ∧ x ≤ 67108864) (hy : 0 ≤ y ∧ y ≤ 67108864) (hr : 0 ≤ r ∧ r ≤ 134217728) :
    Seq12 D Fence.wide m Try.prog 37 #[.pointer (some ⟨gx, 0, none⟩), .pointer (some ⟨gr, 0, none⟩), .pointer (some ⟨gy, 0, none⟩), .pointer (some ⟨gn, 0, none⟩)] (wen X Y (wlist X Y n x y r)) (wlist X Y n x y r).length w := by
  intro l J Jx W S0 hW hA hS0 hY h0
  have HA := Lib.hid hA
  have HY := Lib.hid hY
  have HJ := Lib.hid h0
  have HB := Lib.hid hB
  have HI := Lib.hid hI
  have HWa := Lib.hid hwa
  have HDa := Lib.hid hDa
  have HDg := Lib.hid hDg
  have HD0 := Lib.hid hD
  have HO := Lib.hid hO
  have HS0 := Lib.hid hS0
  have HW := Lib.hid hW
  have HX := Lib.hid (And.intro hx (And.intro hy hr))
  obtain ⟨b0, b1, b2, b3⟩ := hB.keep hW
  have hd1 : 1 ≤ m - 1 + 1 := by omega
  have R0 := Lib.hid (fun Q0 HQ => region0 Q0 HQ l gx gr gy gn x y r W b0 b1 b2 hx hy hr)
  obtain ⟨wl, hwl⟩ : ∃ wl, wlist X Y n x y r = wl := ⟨_, rfl⟩
  rw [hwl] at HY ⊢
  have HWL := Lib.hid hwl
  clear hA hY h0 hI hW hO hB hS0 hwa hDa hDg hD hx hy hr b0 b1 b2 b3 hwl
  refine callsIn_of_wp Try.func37 rfl trivial ?_ rfl
  simp only [Try.ntmps37, List.size_toArray, List.length_cons, List.length_nil, Nat.reduceAdd, Nat.reduceSub, Array.replicate_succ, Array.replicate_zero, List.push_toArray, List.append_toArray, List.nil_append, List.cons_append]
  gi_wp2
  refine wpIn_wide.2 ?_
  refine R0.out _ (fun _ _ _ _ _ h => h) ?_
  intro g6 g7 u12 u13 u14 u15 u16 u17 u18 u19 u20 u21 u22 u23 u24 u25 W1 d0 d1 d2 d3 hg6 hg7 hb1
  clear R0
  obtain ⟨a0, ea0⟩ : ∃ v, sqv (x - r) = v := ⟨_, rfl⟩
  obtain ⟨b0, eb0⟩ : ∃ v, sqv (y - r) = v := ⟨_, rfl⟩
  obtain ⟨a1, ea1⟩ : ∃ v, sqv (x + r) = v := ⟨_, rfl⟩
  obtain ⟨b1, eb1⟩ : ∃ v, sqv (y + r) = v := ⟨_, rfl⟩
  have HE : Hid (sqv (x - r) = a0 ∧ sqv (y - r) = b0 ∧ sqv (x + r) = a1 ∧ sqv (y + r) = b1) := ⟨ea0, eb0, ea1, eb1⟩
  have a0l : 0 ≤ a0 := by rw [← ea0]; exact sqv_lo _
  have b0l : 0 ≤ b0 := by rw [← eb0]; exact sqv_lo _
  have a1h : a1 ≤ 16 := by rw [← ea1]; exact sqv_hi _
  have b1h : b1 ≤ 16 := by rw [← eb1]; exact sqv_hi _
  have a01 : a0 ≤ a1 := by rw [← ea0, ← ea1]; exact sqv_mono (by have := HX.out.2.2.1; omega)
  have b01 : b0 ≤ b1 := by rw [← eb0, ← eb1]; exact sqv_mono (by have := HX.out.2.2.1; omega)
  rw [ea0] at d0
  rw [eb0] at d1
  rw [ea1] at d2
  rw [eb1] at d3
  have HG : Hid (Sg D J w g6 g7 a0 b0 a1 b1 0 W1) := by
    refine ⟨Kd.below (HW.out.trans (hb1.mono HW.out.size)), d0, d1, d2, d3, S0, HA.out _ _ _ HJ.out hb1, fun b hb => (HS0.out b hb).1, fun hb => ?_, fun hb => ?_⟩
    · have := (HS0.out _ hb).2; omega
    · have := (HS0.out _ hb).2; omega
  have HL0 : Hid (wl = wall X Y n x y r a0 (cnt a0 a1) b0 (cnt b0 b1)) := by
    show _ = _
    rw [← HWL.out, wlist, HE.out.1, HE.out.2.1, HE.out.2.2.1, HE.out.2.2.2]
  clear hg6 hg7 hb1 ea0 eb0 ea1 eb1 HJ HW HS0
  gi_wp2
  gi_loopw [8] (fun s8 wr => ∃ (i : Int) (d : List Nat), s8 = .int .i64 i ∧ a0 ≤ i ∧ i ≤ a1 + 1 ∧ Hid (wl = d ++ wall X Y n x y r i (cnt i a1) b0 (cnt b0 b1)) ∧ Hid (Sg D J w g6 g7 a0 b0 a1 b1 d.length wr)) (fun s8 _ => (17 - intOf s8).toNat)
  case atStart => exact ⟨a0, [], rfl, by omega, by omega, HL0.out, HG.out⟩
  case round =>
    obtain ⟨i, d, rfl, hi0, hi1, hL, hG⟩ := hrel
    clear HG HL0 d0 d1 d2 d3
    have d2 := hG.out.c2
    by_cases hi : i ≤ a1
    · have d1 := hG.out.c1
      have hrow : Hid (wl = d ++ (wrow X Y n x y r i b0 (cnt b0 b1) ++ wall X Y n x y r (i + 1) (cnt (i + 1) a1) b0 (cnt b0 b1))) := by
        show _ = _
        have e : cnt i a1 = cnt (i + 1) a1 + 1 := by unfold cnt; omega
        rw [← wall_succ, ← e]
        exact hL.out
      clear hL
      gi_wp2
      clear d1 d2
      gi_loopw [9] (fun s9 wr => ∃ (j : Int) (d : List Nat), s9 = .int .i64 j ∧ b0 ≤ j ∧ j ≤ b1 + 1 ∧ Hid (wl = d ++ (wrow X Y n x y r i j (cnt j b1) ++ wall X Y n x y r (i + 1) (cnt (i + 1) a1) b0 (cnt b0 b1))) ∧ Hid (Sg D J w g6 g7 a0 b0 a1 b1 d.length wr)) (fun s9 _ => (17 - intOf s9).toNat)
      case atStart => exact ⟨b0, d, rfl, by omega, by omega, hrow.out, hG.out⟩
      case round =>
        obtain ⟨j, d, rfl, hj0, hj1, hL, hG⟩ := hrel
        clear hrow
        have d3 := hG.out.c3
        by_cases hj : j ≤ b1
        · have hcell : Hid (wl = d ++ (((grp X Y n i j).drop 0).filter (okd X Y x y r) ++ (wrow X Y n x y r i (j + 1) (cnt (j + 1) b1) ++ wall X Y n x y r (i + 1) (cnt (i + 1) a1) b0 (cnt b0 b1)))) := by
            show _ = _
            have e : cnt j b1 = cnt (j + 1) b1 + 1 := by unfold cnt; omega
            rw [List.drop_zero, ← List.append_assoc (List.filter _ _)]
            have := hL.out
            rw [e, wrow_succ] at this
            exact this
          clear hL
          obtain ⟨mm, A, c, l0, hlook, hlc, hcm, hEs⟩ := HI.out.lookC X Y ((Kc.below HWa.out).trans (hG.out.ck.kc HDa.out)) (a := i) (b := j) ⟨by omega, by omega⟩ ⟨by omega, by omega⟩
          obtain ⟨-, -, -, b3⟩ := HB.out.keepD hG.out.ck HDg.out
          have hgl : (grp X Y n i j).length ≤ maxLen := Nat.le_trans hlc hcm
          unfold maxLen at hgl
          obtain ⟨gl, egl⟩ : ∃ gl, grp X Y n i j = gl := ⟨_, rfl⟩
          rw [egl] at hlook hlc hEs hcell hgl
          have HEg := Lib.hid egl
          have HEs := Lib.hid hEs
          have HG0 := hG
          clear egl hEs hlc hcm
          gi_wp2
          clear b3 l0 hlook d3 hG
          gi_loopw [51] (fun s51 wr => ∃ (k : Nat) (d : List Nat), s51 = .int .i64 (k : Int) ∧ k ≤ gl.length ∧ Hid (wl = d ++ ((gl.drop k).filter (okd X Y x y r) ++ (wrow X Y n x y r i (j + 1) (cnt (j + 1) b1) ++ wall X Y n x y r (i + 1) (cnt (i + 1) a1) b0 (cnt b0 b1)))) ∧ Hid (Sg D J w g6 g7 a0 b0 a1 b1 d.length wr)) (fun s51 _ => gl.length - (intOf s51).toNat)
          case atStart => exact ⟨0, _, rfl, Nat.zero_le _, hcell.out, HG0.out⟩
          case round =>
            obtain ⟨k, d, rfl, hk, hL, hG⟩ := hrel
            clear hcell HG0
            by_cases hkl : k < gl.length
            · have hkI : (k : Int) < (gl.length : Int) := by omega
              obtain ⟨e, he⟩ : ∃ e, gl[k]? = some e := ⟨gl[k], by simp [hkl]⟩
              obtain ⟨ge, oe, rfl, hge, c0, c1, c2⟩ := (HEs.out.keepC X Y ((Kc.below HWa.out).trans (hG.out.ck.kc HDa.out))).at X Y he
              obtain ⟨x', r', y', -⟩ := HB.out.keepD hG.out.ck HDg.out
              have hen : e < n := by
                have := List.mem_of_getElem? he
                rw [← HEg.out] at this
                exact (mem_grp.1 this).1
              have hev : gl[k] = e := by rw [List.getElem?_eq_getElem hkl] at he; exact Option.some.inj he
              obtain ⟨s1, s2⟩ := HO.out e hen
              rw [sp_iff] at s1 s2
              have hrr : IntKind.i64.wrap (r * r) = r * r := by
                have := mul_bound (a := r) (b := 134217728) (by have := HX.out.2.2.1; omega) (by have := HX.out.2.2.2; omega)
                exact IntWalk.i64_in _ (by omega)
              have SQ := Lib.hid (fun u => squared_any (e : Int) (X e) (Y e) x y u s1 s2 HX.out.1 HX.out.2.1)
              have HD : Hid (okd X Y x y r e = decide (sqd (X e) (Y e) x y ≤ r * r)) := rfl
              have HdL : Hid (wl = d ++ ((if okd X Y x y r e then [e] else []) ++ ((gl.drop (k + 1)).filter (okd X Y x y r) ++ (wrow X Y n x y r i (j + 1) (cnt (j + 1) b1) ++ wall X Y n x y r (i + 1) (cnt (i + 1) a1) b0 (cnt b0 b1))))) := by
                show _ = _
                have := hL.out
                rw [drop_cell hkl, hev, List.append_assoc (ite _ _ _)] at this
                exact this
              have HG2 : Hid (Sg D J w g6 g7 a0 b0 a1 b1 d.length (wr.alloc (.cells #[.int .i64 (e : Int), .int .i64 (X e), .int .i64 (Y e)] 58)).drew) := hG.out.grow HA.out (below_box _).drew
              have HNd : Hid ((fun u : World => u.cell? ⟨wr.heap.size, 0, none⟩ = some (.int .i64 (e : Int)) ∧ u.cell? ⟨wr.heap.size, 1, none⟩ = some (.int .i64 (X e)) ∧ u.cell? ⟨wr.heap.size, 2, none⟩ = some (.int .i64 (Y e)) ∧ u.cell? ⟨gx, 0, none⟩ = some (.int .i64 x) ∧ u.cell? ⟨gr, 0, none⟩ = some (.int .i64 r) ∧ u.cell? ⟨gy, 0, none⟩ = some (.int .i64 y)) (wr.alloc (.cells #[.int .i64 (e : Int), .int .i64 (X e), .int .i64 (Y e)] 58)).drew) := by
                have K := Kx.new wr 58 #[.int .i64 (e : Int), .int .i64 (X e), .int .i64 (Y e)]
                exact ⟨K.cell 0 rfl, K.cell 1 rfl, K.cell 2 rfl, kc (below_box _).drew x', kc (below_box _).drew r', kc (below_box _).drew y'⟩
              clear hL hG x' r' y' s1 s2 he hev
              generalize sqd (X e) (Y e) x y = dd at *
              by_cases ho : dd ≤ r * r
              · have HK : Hid (okd X Y x y r e = true) := by show _ = _; rw [HD.out]; exact decide_eq_true ho
                rw [HK.out] at HdL
                have HN := Lib.hid HNd.out
                gi_wp2
                refine wpIn_regionF (m := 11) (B := fun u => u.cell? ⟨wr.heap.size, 0, none⟩ = some (.int .i64 (e : Int)) ∧ u.cell? ⟨wr.heap.size, 1, none⟩ = some (.int .i64 (X e)) ∧ u.cell? ⟨wr.heap.size, 2, none⟩ = some (.int .i64 (Y e)) ∧ u.cell? ⟨gx, 0, none⟩ = some (.int .i64 x) ∧ u.cell? ⟨gr, 0, none⟩ = some (.int .i64 r) ∧ u.cell? ⟨gy, 0, none⟩ = some (.int .i64 y)) (by kernel_rfl) ?_
                generalize (wr.alloc (.cells #[.int .i64 (e : Int), .int .i64 (X e), .int .i64 (Y e)] 58)).drew = V at *
                refine wpAnyF_take (i := 0) (v := .agg #[.int .i64 (e : Int), .int .i64 (X e), .int .i64 (Y e)]) rfl rfl (by kernel_rfl) (by kernel_rfl) (by kernel_rfl) (by kernel_rfl) (by kernel_rfl) (by kernel_rfl) (fun _ _ _ h => h) (Or.inl ⟨by rfl, fun u hu => by obtain ⟨q0, q1, q2, q3, q4, q5⟩ := hu; go_simp⟩) (fun _ => rfl) HN.out ?_
                go_simp
                refine wpAnyF_take (i := 1) (v := .int .i64 x) rfl rfl (by kernel_rfl) (by kernel_rfl) (by kernel_rfl) (by kernel_rfl) (by kernel_rfl) (by kernel_rfl) (fun _ _ _ h => h) (Or.inl ⟨by rfl, fun u hu => by obtain ⟨q0, q1, q2, q3, q4, q5⟩ := hu; go_simp⟩) (fun _ => rfl) HN.out ?_
                go_simp
                refine wpAnyF_take (i := 2) (v := .int .i64 y) rfl rfl (by kernel_rfl) (by kernel_rfl) (by kernel_rfl) (by kernel_rfl) (by kernel_rfl) (by kernel_rfl) (fun _ _ _ h => h) (Or.inl ⟨by rfl, fun u hu => by obtain ⟨q0, q1, q2, q3, q4, q5⟩ := hu; go_simp⟩) (fun _ => rfl) HN.out ?_
                go_simp
                refine wpAnyF_take (i := 4) (v := .int .i64 r) rfl rfl (by kernel_rfl) (by kernel_rfl) (by kernel_rfl) (by kernel_rfl) (by kernel_rfl) (by kernel_rfl) (fun _ _ _ h => h) (Or.inl ⟨by rfl, fun u hu => by obtain ⟨q0, q1, q2, q3, q4, q5⟩ := hu; go_simp⟩) (fun _ => rfl) HN.out ?_
                go_simp
                refine wpAnyF_take (i := 5) (v := .int .i64 r) rfl rfl (by kernel_rfl) (by kernel_rfl) (by kernel_rfl) (by kernel_rfl) (by kernel_rfl) (by kernel_rfl) (fun _ _ _ h => h) (Or.inl ⟨by rfl, fun u hu => by obtain ⟨q0, q1, q2, q3, q4, q5⟩ := hu; go_simp⟩) (fun _ => rfl) HN.out ?_
                go_simp
                refine wpAnyF_take (i := 6) (v := .int .i64 (r * r)) rfl rfl (by kernel_rfl) (by kernel_rfl) (by kernel_rfl) (by kernel_rfl) (by kernel_rfl) (by kernel_rfl) (fun _ _ _ h => h) (Or.inl ⟨by rfl, fun u hu => by obtain ⟨q0, q1, q2, q3, q4, q5⟩ := hu; go_simp⟩) (fun _ => rfl) HN.out ?_
                go_simp
                refine wpAnyF_one (i := 3) (by kernel_rfl) rfl (fun K hK => ?_)
                go_simp
                refine ⟨trivial, (callsIn_wide.2 (SQ.out V)).mono ?_⟩
                rintro e' w2 ⟨rfl, b2⟩
                have HN2 := Lib.hid (And.intro (kc b2 HN.out.1) (And.intro (kc b2 HN.out.2.1) (And.intro (kc b2 HN.out.2.2.1) (And.intro (kc b2 HN.out.2.2.2.1) (And.intro (kc b2 HN.out.2.2.2.2.1) (kc b2 HN.out.2.2.2.2.2))))))
                have HG3 := Lib.hid (HG2.out.grow HA.out b2)
                refine hK _ _ (fun _ => HN2.out) ?_
                clear hK K b2 HN HNd HG2 SQ
                go_simp
                refine wpAnyF_take (i := 7) (v := .bool true) rfl rfl (by kernel_rfl) (by kernel_rfl) (by kernel_rfl) (by kernel_rfl) (by kernel_rfl) (by kernel_rfl) (fun _ _ _ h => h) (Or.inl ⟨by rfl, fun u hu => by obtain ⟨q0, q1, q2, q3, q4, q5⟩ := hu; go_simp⟩) (fun _ => rfl) HN2.out ?_
                go_simp
                refine wpAnyF_take (i := 8) (v := .bool true) rfl rfl (by kernel_rfl) (by kernel_rfl) (by kernel_rfl) (by kernel_rfl) (by kernel_rfl) (by kernel_rfl) (fun _ _ _ h => h) (Or.inl ⟨by rfl, fun u hu => by obtain ⟨q0, q1, q2, q3, q4, q5⟩ := hu; go_simp⟩) (fun _ => rfl) HN2.out ?_
                go_simp
                refine wpAnyF_take (i := 9) (v := .func (.yield l) #[] #[]) rfl rfl (by kernel_rfl) (by kernel_rfl) (by kernel_rfl) (by kernel_rfl) (by kernel_rfl) (by kernel_rfl) (fun _ _ _ h => h) (Or.inl ⟨by rfl, fun u hu => by obtain ⟨q0, q1, q2, q3, q4, q5⟩ := hu; go_simp⟩) (fun _ => rfl) HN2.out ?_
                go_simp
                refine wpAnyF_take (i := 10) (v := .agg #[.int .i64 (e : Int), .int .i64 (X e), .int .i64 (Y e)]) rfl rfl (by kernel_rfl) (by kernel_rfl) (by kernel_rfl) (by kernel_rfl) (by kernel_rfl) (by kernel_rfl) (fun _ _ _ h => h) (Or.inl ⟨by rfl, fun u hu => by obtain ⟨q0, q1, q2, q3, q4, q5⟩ := hu; go_simp⟩) (fun _ => rfl) HN2.out ?_
                go_simp
                obtain ⟨S, j1, jS, j6, j7⟩ := HG3.out.j
                have HLe : Hid (wl = d ++ e :: ((gl.drop (k + 1)).filter (okd X Y x y r) ++ (wrow X Y n x y r i (j + 1) (cnt (j + 1) b1) ++ wall X Y n x y r (i + 1) (cnt (i + 1) a1) b0 (cnt b0 b1)))) := HdL.out
                obtain ⟨hql, hqe⟩ := wen_at HLe.out
                have hyy := HY.out d.length S w2 hql j1
                unfold wen at hyy
                rw [hqe] at hyy
                have HJS := Lib.hid (And.intro jS (And.intro j6 j7))
                clear j1 jS j6 j7 HdL
                obtain ⟨fn1, tm1, as1, bo1, hy1, hR1⟩ := hyy
                refine wpAnyF_one (i := 11) (by kernel_rfl) rfl (fun K hK => ?_)
                gi_wp2
                refine hR1.mono ?_
                rintro e' W3 (⟨rfl, S', hJ', hf, hs⟩ | ⟨rfl, hjx⟩)
                · have HG4 := Lib.hid (HG3.out.yield HD0.out HJS.out.1 HJS.out.2.1 HJS.out.2.2 hJ' hf hs)
                  have HL4 : Hid (wl = (d ++ [e]) ++ ((gl.drop (k + 1)).filter (okd X Y x y r) ++ (wrow X Y n x y r i (j + 1) (cnt (j + 1) b1) ++ wall X Y n x y r (i + 1) (cnt (i + 1) a1) b0 (cnt b0 b1)))) := by
                    show _ = _
                    rw [HLe.out, List.append_assoc]
                    rfl
                  refine hK _ _ (fun h => Bool.noConfusion (show true = false from h)) ?_
                  clear hK K hJ' hf hs hy1 hR1 HN2 HG3 HLe hqe hql
                  go_simp
                  refine wpAnyF_one (i := 12) (by kernel_rfl) rfl (fun K hK => ?_)
                  go_simp
                  refine hK _ _ (fun h => Bool.noConfusion (show true = false from h)) ?_
                  clear hK K
                  refine wpAnyF_one (i := 13) (by kernel_rfl) rfl (fun K hK => ?_)
                  go_simp
                  refine hK _ _ (fun h => Bool.noConfusion (show true = false from h)) ?_
                  clear hK K
                  refine wpAnyF_done (by kernel_rfl) ?_ _
                  gi_wp2
                  go_roundw
                  case rel => exact ⟨k + 1, d ++ [e], by go_num, by omega, HL4.out, by rw [List.length_append]; exact HG4.out⟩
                  case measure => simp [intOf]; omega
                · refine hK _ _ (fun h => Bool.noConfusion (show true = false from h)) ?_
                  have HX1 := Lib.hid hjx
                  clear hK K hjx hy1 hR1 HN2 HG3
                  go_simp
                  refine wpAnyF_one (i := 12) (by kernel_rfl) rfl (fun K hK => ?_)
                  go_simp
                  refine hK _ _ (fun h => Bool.noConfusion (show true = false from h)) ?_
                  clear hK K
                  refine wpAnyF_one (i := 13) (by kernel_rfl) rfl (fun K hK => ?_)
                  go_simp
                  refine hK _ _ (fun h => Bool.noConfusion (show true = false from h)) ?_
                  clear hK K
                  refine wpAnyF_done (by kernel_rfl) ?_ _
                  gi_wp2
                  exact bodyPost_ret (results_none rfl _ _ _) rfl ⟨⟨_, rfl⟩, .inr ⟨d.length, hql, HX1.out⟩⟩
              · have HK : Hid (okd X Y x y r e = false) := by show _ = _; rw [HD.out]; exact decide_eq_false ho
                rw [HK.out] at HdL
                have HN := Lib.hid HNd.out
                gi_wp2
                refine wpIn_regionF (m := 11) (B := fun u => u.cell? ⟨wr.heap.size, 0, none⟩ = some (.int .i64 (e : Int)) ∧ u.cell? ⟨wr.heap.size, 1, none⟩ = some (.int .i64 (X e)) ∧ u.cell? ⟨wr.heap.size, 2, none⟩ = some (.int .i64 (Y e)) ∧ u.cell? ⟨gx, 0, none⟩ = some (.int .i64 x) ∧ u.cell? ⟨gr, 0, none⟩ = some (.int .i64 r) ∧ u.cell? ⟨gy, 0, none⟩ = some (.int .i64 y)) (by kernel_rfl) ?_
                generalize (wr.alloc (.cells #[.int .i64 (e : Int), .int .i64 (X e), .int .i64 (Y e)] 58)).drew = V at *
                refine wpAnyF_take (i := 0) (v := .agg #[.int .i64 (e : Int), .int .i64 (X e), .int .i64 (Y e)]) rfl rfl (by kernel_rfl) (by kernel_rfl) (by kernel_rfl) (by kernel_rfl) (by kernel_rfl) (by kernel_rfl) (fun _ _ _ h => h) (Or.inl ⟨by rfl, fun u hu => by obtain ⟨q0, q1, q2, q3, q4, q5⟩ := hu; go_simp⟩) (fun _ => rfl) HN.out ?_
                go_simp
                refine wpAnyF_take (i := 1) (v := .int .i64 x) rfl rfl (by kernel_rfl) (by kernel_rfl) (by kernel_rfl) (by kernel_rfl) (by kernel_rfl) (by kernel_rfl) (fun _ _ _ h => h) (Or.inl ⟨by rfl, fun u hu => by obtain ⟨q0, q1, q2, q3, q4, q5⟩ := hu; go_simp⟩) (fun _ => rfl) HN.out ?_
                go_simp
                refine wpAnyF_take (i := 2) (v := .int .i64 y) rfl rfl (by kernel_rfl) (by kernel_rfl) (by kernel_rfl) (by kernel_rfl) (by kernel_rfl) (by kernel_rfl) (fun _ _ _ h => h) (Or.inl ⟨by rfl, fun u hu => by obtain ⟨q0, q1, q2, q3, q4, q5⟩ := hu; go_simp⟩) (fun _ => rfl) HN.out ?_
                go_simp
                refine wpAnyF_take (i := 4) (v := .int .i64 r) rfl rfl (by kernel_rfl) (by kernel_rfl) (by kernel_rfl) (by kernel_rfl) (by kernel_rfl) (by kernel_rfl) (fun _ _ _ h => h) (Or.inl ⟨by rfl, fun u hu => by obtain ⟨q0, q1, q2, q3, q4, q5⟩ := hu; go_simp⟩) (fun _ => rfl) HN.out ?_
                go_simp
                refine wpAnyF_take (i := 5) (v := .int .i64 r) rfl rfl (by kernel_rfl) (by kernel_rfl) (by kernel_rfl) (by kernel_rfl) (by kernel_rfl) (by kernel_rfl) (fun _ _ _ h => h) (Or.inl ⟨by rfl, fun u hu => by obtain ⟨q0, q1, q2, q3, q4, q5⟩ := hu; go_simp⟩) (fun _ => rfl) HN.out ?_
                go_simp
                refine wpAnyF_take (i := 6) (v := .int .i64 (r * r)) rfl rfl (by kernel_rfl) (by kernel_rfl) (by kernel_rfl) (by kernel_rfl) (by kernel_rfl) (by kernel_rfl) (fun _ _ _ h => h) (Or.inl ⟨by rfl, fun u hu => by obtain ⟨q0, q1, q2, q3, q4, q5⟩ := hu; go_simp⟩) (fun _ => rfl) HN.out ?_
                go_simp
                refine wpAnyF_one (i := 3) (by kernel_rfl) rfl (fun K hK => ?_)
                go_simp
                refine ⟨trivial, (callsIn_wide.2 (SQ.out V)).mono ?_⟩
                rintro e' w2 ⟨rfl, b2⟩
                have HN2 := Lib.hid (And.intro (kc b2 HN.out.1) (And.intro (kc b2 HN.out.2.1) (And.intro (kc b2 HN.out.2.2.1) (And.intro (kc b2 HN.out.2.2.2.1) (And.intro (kc b2 HN.out.2.2.2.2.1) (kc b2 HN.out.2.2.2.2.2))))))
                have HG3 := Lib.hid (HG2.out.grow HA.out b2)
                refine hK _ _ (fun _ => HN2.out) ?_
                clear hK K b2 HN HNd HG2 SQ
                go_simp
                refine wpAnyF_take (i := 7) (v := .bool false) rfl rfl (by kernel_rfl) (by kernel_rfl) (by kernel_rfl) (by kernel_rfl) (by kernel_rfl) (by kernel_rfl) (fun _ _ _ h => h) (Or.inl ⟨by rfl, fun u hu => by obtain ⟨q0, q1, q2, q3, q4, q5⟩ := hu; go_simp⟩) (fun _ => rfl) HN2.out ?_
                go_simp
                refine wpAnyF_take (i := 8) (v := .bool false) rfl rfl (by kernel_rfl) (by kernel_rfl) (by kernel_rfl) (by kernel_rfl) (by kernel_rfl) (by kernel_rfl) (fun _ _ _ h => h) (Or.inl ⟨by rfl, fun u hu => by obtain ⟨q0, q1, q2, q3, q4, q5⟩ := hu; go_simp⟩) (fun _ => rfl) HN2.out ?_
                go_simp
                refine wpAnyF_take (i := 9) (v := undef) rfl rfl (by kernel_rfl) (by kernel_rfl) (by kernel_rfl) (by kernel_rfl) (by kernel_rfl) (by kernel_rfl) (fun _ _ _ h => h) (Or.inr ⟨by rfl, rfl⟩) (fun _ => rfl) HN2.out ?_
                go_simp
                refine wpAnyF_take (i := 10) (v := undef) rfl rfl (by kernel_rfl) (by kernel_rfl) (by kernel_rfl) (by kernel_rfl) (by kernel_rfl) (by kernel_rfl) (fun _ _ _ h => h) (Or.inr ⟨by rfl, rfl⟩) (fun _ => rfl) HN2.out ?_
                go_simp
                refine wpAnyF_one (i := 11) (by kernel_rfl) rfl (fun K hK => ?_)
                go_simp
                refine ⟨fun _ _ => trivial, hK _ _ (fun h => Bool.noConfusion (show true = false from h)) ?_⟩
                clear hK K
                refine wpAnyF_one (i := 12) (by kernel_rfl) rfl (fun K hK => ?_)
                go_simp
                refine hK _ _ (fun h => Bool.noConfusion (show true = false from h)) ?_
                clear hK K
                refine wpAnyF_one (i := 13) (by kernel_rfl) rfl (fun K hK => ?_)
                go_simp
                refine hK _ _ (fun h => Bool.noConfusion (show true = false from h)) ?_
                clear hK K
                refine wpAnyF_done (by kernel_rfl) ?_ _
                gi_wp2
                go_roundw
                case rel => exact ⟨k + 1, d, by go_num, by omega, HdL.out, HG3.out⟩
                case measure => simp [intOf]; omega
            · have hkI : ¬ (k : Int) < (gl.length : Int) := by omega
              have HL5 : Hid (wl = d ++ (wrow X Y n x y r i (j + 1) (cnt (j + 1) b1) ++ wall X Y n x y r (i + 1) (cnt (i + 1) a1) b0 (cnt b0 b1))) := by
                show _ = _
                have := hL.out
                rw [List.drop_of_length_le (by omega), List.filter_nil, List.nil_append] at this
                exact this
              gi_wp2
              go_roundw
              case rel => exact ⟨j + 1, d, by go_num, by omega, by omega, HL5.out, hG.out⟩
              case measure => simp [intOf]; omega
        · have HL5 : Hid (wl = d ++ wall X Y n x y r (i + 1) (cnt (i + 1) a1) b0 (cnt b0 b1)) := by
            show _ = _
            have := hL.out
            have e : cnt j b1 = 0 := by unfold cnt; omega
            rw [e] at this
            exact this
          gi_wp2
          go_roundw
          case rel => exact ⟨i + 1, d, by go_num, by omega, by omega, HL5.out, hG.out⟩
          case measure => simp [intOf]; omega
    · have HL5 : Hid (wl = d) := by
        show _ = _
        have := hL.out
        have e : cnt i a1 = 0 := by unfold cnt; omega
        rw [e] at this
        simpa [wall, iot] using this
      have HG5 := Lib.hid hG.out.j
      gi_wp2
      obtain ⟨S, j1, -⟩ := HG5.out
      go_end0
      refine ⟨⟨_, rfl⟩, .inl ⟨S, ?_⟩⟩
      rw [HL5.out]
      exact j1
end
end Go.Proofs.Ytkghjaodnkjmoaa
