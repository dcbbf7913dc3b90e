/- Contracts: nearest, Nearest. -/
import Derived.Test.YtkghjaodnkjmoaaNr11
namespace Go.Proofs.Ytkghjaodnkjmoaa
open Go.RowKit Go.Shelf
set_option linter.unusedVariables false
attribute [local go_sem] Oper.semAt_some

theorem en_one (a b c : Int) : (#[Value.int .i64 a, .int .i64 b, .int .i64 c] : Array Value).all (·.oneCell') = true := by simp [Value.oneCell']
theorem setRow_blk {X : World} {g : Nat} {t : TypeId} {cs : Array Value} (h : X.heap[g]? = some (.cells cs t (0, 0))) (c : Array Value) : (X.setRow g c).heap[g]? = some (.cells c t (0, 0)) := by
  simp [World.setRow, Array.getElem?_modify, h]
theorem setRow_other (X : World) {g k : Nat} (h : k ≠ g) (c : Array Value) : (X.setRow g c).heap[k]? = X.heap[k]? := by
  simp [World.setRow, Array.getElem?_modify, Ne.symm h]
theorem Kx.row2 {w X : World} {g : Nat} {t : TypeId} {cs : Array Value} (h : Kx w g X t cs) (c : Array Value) : Kx w g (X.setRow g c) t c :=
  ⟨h.ge, setRow_blk h.blk c, h.below.grown (row := some g) ⟨rfl, rfl, rfl, by simp [World.setRow], fun k _ hk => setRow_other X (fun e => hk (by rw [e])) c⟩ h.below.size (fun r e => by injection e with e; rw [← e]; exact h.ge)⟩
section
variable (X Y : Nat → Int) (x y : Int)
/-- Nearer, or as near and first. -/
def nlt (i j : Nat) : Prop := dst X Y x y i < dst X Y x y j ∨ (dst X Y x y i = dst X Y x y j ∧ i < j)
theorem nlt_trans {i j k : Nat} (h1 : nlt X Y x y i j) (h2 : nlt X Y x y j k) : nlt X Y x y i k := by
  unfold nlt at *
  omega
theorem nlt_iff (i j : Nat) : nearI (i : Int) (X i) (Y i) (j : Int) (X j) (Y j) x y < 0 ↔ nlt X Y x y i j := by
  unfold nearI orI cmpI nlt
  have e : ∀ k, sqd (X k) (Y k) x y = dst X Y x y k := fun k => rfl
  rw [e, e]
  by_cases h1 : dst X Y x y i < dst X Y x y j
  · simp [h1]
  · by_cases h2 : dst X Y x y j < dst X Y x y i
    · simp [h1, h2]
      omega
    · have h3 : dst X Y x y i = dst X Y x y j := by omega
      by_cases h4 : i < j
      · have : (i : Int) < (j : Int) := by omega
        simp [h3, h4]
      · by_cases h5 : j < i
        · simp [h3, h4, h5]
        · simp [h3, h4, h5]
theorem nlt_tot {i j : Nat} (h : ¬ nlt X Y x y i j) : i = j ∨ nlt X Y x y j i := by
  unfold nlt at *
  omega
/-- The nearest of a list. -/
def Mn (l : List Nat) (m : Nat) : Prop := m ∈ l ∧ ∀ e ∈ l, e = m ∨ nlt X Y x y m e
theorem Mn.one (e : Nat) : Mn X Y x y [e] e := ⟨by simp, by simp⟩
theorem Mn.stay {l : List Nat} {m e : Nat} (h : Mn X Y x y l m) (hn : ¬ nlt X Y x y e m) : Mn X Y x y (l ++ [e]) m := by
  refine ⟨by simp [h.1], fun k hk => ?_⟩
  rcases List.mem_append.1 hk with hk | hk
  · exact h.2 k hk
  · simp at hk; subst hk; exact nlt_tot X Y x y hn
theorem Mn.turn {l : List Nat} {m e : Nat} (h : Mn X Y x y l m) (hn : nlt X Y x y e m) : Mn X Y x y (l ++ [e]) e := by
  refine ⟨by simp, fun k hk => ?_⟩
  rcases List.mem_append.1 hk with hk | hk
  · rcases h.2 k hk with rfl | h2
    · exact .inr hn
    · exact .inr (nlt_trans X Y x y hn h2)
  · simp at hk; exact .inl hk

set_option maxHeartbeats 4000000 in
theorem minFunc_any (l : List Nat) (A : Option Addr) (c gx gy n : Nat) (w : World) (h0 : 0 < l.length) (hl : l.length ≤ 256) (hE : Es X Y w A l) (hn : ∀ e ∈ l, e < n) (hO : oks X Y n) (hx : 0 ≤ x ∧ x ≤ 67108864) (hy : 0 ≤ y ∧ y ≤ 67108864)
    (h1 : w.cell? ⟨gx, 0, none⟩ = some (.int .i64 x)) (h2 : w.cell? ⟨gy, 0, none⟩ = some (.int .i64 y)) :
    Calls Try.prog 28 #[.slice A l.length c, .func (.func 29) #[] #[.pointer (some ⟨gx, 0, none⟩), .pointer (some ⟨gy, 0, none⟩)]] w fun e w' =>
      ∃ m, Mn X Y x y l m ∧ e = .returned (.agg #[.int .i64 (m : Int), .int .i64 (X m), .int .i64 (Y m)]) ∧ Below w.heap.size w w' := by
  have HN := Lib.hid (fun (i j : Nat) u hi hj q1 q2 => near1_any (i : Int) (j : Int) (X i) (Y i) (X j) (Y j) x y gx gy u (sp_iff.1 (hO i (hn i hi)).1) (sp_iff.1 (hO i (hn i hi)).2) (sp_iff.1 (hO j (hn j hj)).1) (sp_iff.1 (hO j (hn j hj)).2) hx hy q1 q2)
  have HE := Lib.hid hE
  have H1 := Lib.hid h1
  have H2 := Lib.hid h2
  obtain ⟨e0, he0⟩ : ∃ e0, l[0]? = some e0 := ⟨l[0], by simp [h0]⟩
  obtain ⟨g, o, rfl, hg, c0, c1, c2⟩ := hE.at X Y he0
  rw [Nat.zero_mul, Nat.add_zero] at c0 c1 c2
  have K0 := Lib.hid ((Kx.new w 58 #[.int .i64 0, .int .i64 0, .int .i64 0]).alloc (.cells #[.int .i64 (e0 : Int), .int .i64 (X e0), .int .i64 (Y e0)] 58))
  have K1 : Hid (Kx w (w.heap.size + 1) ((w.alloc (.cells #[.int .i64 0, .int .i64 0, .int .i64 0] 58)).alloc (.cells #[.int .i64 (e0 : Int), .int .i64 (X e0), .int .i64 (Y e0)] 58)) 58 #[.int .i64 (e0 : Int), .int .i64 (X e0), .int .i64 (Y e0)]) := by
    have := Kx.next (below_box (w := w) (.cells #[.int .i64 0, .int .i64 0, .int .i64 0] 58)) 58 #[.int .i64 (e0 : Int), .int .i64 (X e0), .int .i64 (Y e0)]
    rw [size_alloc] at this
    exact this
  have c0' := kc (below_box (w := w) (.cells #[.int .i64 0, .int .i64 0, .int .i64 0] 58)) c0
  have c1' := kc (below_box (w := w) (.cells #[.int .i64 0, .int .i64 0, .int .i64 0] 58)) c1
  have c2' := kc (below_box (w := w) (.cells #[.int .i64 0, .int .i64 0, .int .i64 0] 58)) c2
  have HL0 : Hid (l.take 1 = [e0]) := by
    show _ = _
    cases l with
    | nil => simp at h0
    | cons a r => simp at he0; simp [he0]
  have hlI : ¬ (l.length : Int) < 1 := by omega
  have hlI0 : (0 : Int) < (l.length : Int) := by omega
  clear hE hO hx hy h1 h2 c0 c1 c2 hn he0
  go_enter Try.func28, Try.ntmps28
  go_wp2
  generalize (w.alloc (.cells #[.int .i64 0, .int .i64 0, .int .i64 0] 58)).alloc (.cells #[.int .i64 (e0 : Int), .int .i64 (X e0), .int .i64 (Y e0)] 58) = V at *
  clear c0' c1' c2'
  go_loopw [6] (fun s6 wr => ∃ k m : Nat, 1 ≤ k ∧ k ≤ l.length ∧ s6 = .int .i64 (k : Int) ∧ Hid (Mn X Y x y (l.take k) m) ∧ Hid (wr.heap[w.heap.size]? = some (.cells #[.int .i64 0, .int .i64 0, .int .i64 0] 58 (0, 0))) ∧ Hid (Kx w (w.heap.size + 1) wr 58 #[.int .i64 (m : Int), .int .i64 (X m), .int .i64 (Y m)])) (fun s6 _ => l.length - (intOf s6).toNat)
  case atStart => exact ⟨1, e0, by omega, by omega, rfl, by rw [HL0.out]; exact Mn.one X Y x y e0, K0.out.blk, K1.out⟩
  case round =>
    obtain ⟨k, m, hk1, hk, rfl, hM, hZ, hK⟩ := hrel
    clear K0 K1
    by_cases hkl : k < l.length
    · have hkI : (k : Int) < (l.length : Int) := by omega
      obtain ⟨e, he⟩ : ∃ e, l[k]? = some e := ⟨l[k], by simp [hkl]⟩
      obtain ⟨g', o', eA, hg', c0, c1, c2⟩ := (HE.out.keep X Y hK.out.below).at X Y he
      injection eA with eA
      injection eA with e1 e2
      subst e1 e2
      have d0 := hK.out.cell 0 rfl
      have d1 := hK.out.cell 1 rfl
      have d2 := hK.out.cell 2 rfl
      have HT : Hid (l.take (k + 1) = l.take k ++ [e]) := by
        show _ = _
        rw [take_at hkl]
        simp [List.getD, he]
      have hem : e ∈ l := List.mem_of_getElem? he
      have hmm : m ∈ l := List.mem_of_mem_take hM.out.1
      have HC := Lib.hid (fun d os => Calls.regrown_of (d := d) (os := os) (HN.out e m _ hem hmm (cell_regrown (kc hK.out.below H1.out) d os) (cell_regrown (kc hK.out.below H2.out) d os)))
      have k0 := cell_regrown c0
      have k1 := cell_regrown c1
      have k2 := cell_regrown c2
      have k3 := cell_regrown d0
      have k4 := cell_regrown d1
      have k5 := cell_regrown d2
      have HI := Lib.hid (nlt_iff X Y x y e m)
      clear he hem hmm d0 d1 d2 hg'
      generalize nearI (e : Int) (X e) (Y e) (m : Int) (X m) (Y m) x y = r at *
      go_wp2
      refine wp_region_quiet_below (by kernel_rfl) (by kernel_rfl) ?_
      repeat (go_big_quiet_step (with_reducible exact HC.out _ _))
      refine wpQuiet_nil ?_
      intro _ hw'
      obtain ⟨⟨dq, osq⟩, hw''⟩ := hw'
      subst hw''
      have hb3 := below_regrown wr dq osq
      have K3 := Lib.hid (hK.out.keep hb3)
      have Z3 : Hid ((Go.Sort.grow (redrawn wr dq) osq).heap[w.heap.size]? = some (.cells #[.int .i64 0, .int .i64 0, .int .i64 0] 58 (0, 0))) := (hb3.block _ (Array.getElem?_eq_some_iff.1 hZ.out).1).trans hZ.out
      have c0 := kc hb3 c0
      have c1 := kc hb3 c1
      have c2 := kc hb3 c2
      clear k0 k1 k2 k3 k4 k5 HC hb3 hZ hK
      generalize Go.Sort.grow (redrawn wr dq) osq = w3 at *
      by_cases hr : r < 0
      · have hM2 : Hid (Mn X Y x y (l.take (k + 1)) e) := by rw [HT.out]; exact hM.out.turn X Y x y (HI.out.1 hr)
        have K4 := Lib.hid (K3.out.row2 #[.int .i64 (e : Int), .int .i64 (X e), .int .i64 (Y e)])
        have Z4 : Hid ((w3.setRow (w.heap.size + 1) #[.int .i64 (e : Int), .int .i64 (X e), .int .i64 (Y e)]).heap[w.heap.size]? = some (.cells #[.int .i64 0, .int .i64 0, .int .i64 0] 58 (0, 0))) := (setRow_other w3 (by omega) _).trans Z3.out
        go_wp2_with (refine wpList_store_blk (c' := #[.int .i64 (e : Int), .int .i64 (X e), .int .i64 (Y e)]) Try.sizeE K3.out.blk rfl rfl rfl rfl rfl rfl (en_one _ _ _) ?_)
        generalize w3.setRow (w.heap.size + 1) #[.int .i64 (e : Int), .int .i64 (X e), .int .i64 (Y e)] = w4 at *
        go_roundw
        case rel => exact ⟨k + 1, e, by omega, by omega, by go_num, hM2.out, Z4.out, K4.out⟩
        case measure => simp [intOf]; omega
      · have hM2 : Hid (Mn X Y x y (l.take (k + 1)) m) := by rw [HT.out]; exact hM.out.stay X Y x y (fun h => hr (HI.out.2 h))
        go_wp2
        go_roundw
        case rel => exact ⟨k + 1, m, by omega, by omega, by go_num, hM2.out, Z3.out, K3.out⟩
        case measure => simp [intOf]; omega
    · have hkI : ¬ (k : Int) < (l.length : Int) := by omega
      obtain rfl : k = l.length := by omega
      rw [List.take_length] at hM
      have d0 := hK.out.cell 0 rfl
      have d1 := hK.out.cell 1 rfl
      have d2 := hK.out.cell 2 rfl
      have K4 : Hid (Kx w w.heap.size wr 58 #[.int .i64 0, .int .i64 0, .int .i64 0]) := ⟨Nat.le_refl _, hZ.out, hK.out.below⟩
      have K5 := Lib.hid (K4.out.row2 #[.int .i64 (m : Int), .int .i64 (X m), .int .i64 (Y m)])
      go_wp2_with (refine wpList_store_blk (c' := #[.int .i64 (m : Int), .int .i64 (X m), .int .i64 (Y m)]) Try.sizeE K4.out.blk rfl rfl rfl rfl rfl rfl (en_one _ _ _) ?_)
      refine bodyPost_ret (v := .agg #[.int .i64 (m : Int), .int .i64 (X m), .int .i64 (Y m)]) ?_ rfl ⟨m, hM.out, rfl, K5.out.below⟩
      exact results_cell_row Try.results28 _ _ w.heap.size _ _ (0, 0) _ rfl K5.out.blk Try.underlying58 rfl Try.sizeE
end
end Go.Proofs.Ytkghjaodnkjmoaa
