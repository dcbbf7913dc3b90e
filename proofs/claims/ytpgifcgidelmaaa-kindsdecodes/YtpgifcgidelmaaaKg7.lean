/- Contracts of package kinds: the reader's book. -/
import Derived.Test.YtpgifcgidelmaaaKg6
namespace Go.Proofs.Ytpgifcgidelmaaa
open Go.RowKit
set_option linter.unusedVariables false

abbrev bkc (v1 v2 : Value) : Array Value := #[v1, v2]
theorem bkc_one (A B : Option Addr) (n c m d : Nat) : (bkc (.slice A n c) (.slice B m d)).all (·.oneCell') = true := by simp [Value.oneCell']
structure Bk (w : World) (g : Nat) (A : Option Addr) (N c : Nat) (p : Nat → Nat) (z : Nat) (W : World) (q : Nat) (v1 v2 : Value) (n m : Nat) (K U : Nat → Nat → Int) (F : Nat → Bool) : Prop where
  rd : Rd W g A N c q
  bs : Bs w A N p
  rd0 : ∃ q0, Rd w g A N c q0
  grown : w.grownBy W (some g)
  res : W.heap[w.heap.size]? = some (.cells (bkc (.slice none 0 0) (.slice none 0 0)) 26 (0, 0))
  var : W.heap[z]? = some (.cells (bkc v1 v2) 26 (0, 0))
  rk : Rk W w.heap.size v1 n K
  rw : Rww W w.heap.size v2 m U F
  hz : w.heap.size < z
section
variable {w : World} {g : Nat} {A : Option Addr} {N c : Nat} {p : Nat → Nat} {z : Nat} {W : World} {q : Nat} {v1 v2 : Value} {n m : Nat} {K U : Nat → Nat → Int} {F : Nat → Bool}
theorem Bk.hg (h : Bk w g A N c p z W q v1 v2 n m K U F) : g < w.heap.size := by obtain ⟨q0, h0⟩ := h.rd0; exact h0.lt
theorem Bk.lz (h : Bk w g A N c p z W q v1 v2 n m K U F) : z < W.heap.size := (Array.getElem?_eq_some_iff.1 h.var).1
theorem Bk.bsW (h : Bk w g A N c p z W q v1 v2 n m K U F) : Bs W A N p := by obtain ⟨q0, h0⟩ := h.rd0; exact h.bs.grown h.grown (h0.ne h.bs)
theorem Bk.call {W' : World} {q' : Nat} (h : Bk w g A N c p z W q v1 v2 n m K U F) (hr : Rd W' g A N c q') (hg : W.grownBy W' (some g)) : Bk w g A N c p z W' q' v1 v2 n m K U F := by
  have h1 := h.hg
  have h2 := h.hz
  have l1 := World.ownsRow.lt h.rk
  have l2 := World.ownsRow.lt h.rw
  refine ⟨hr, h.bs, h.rd0, grown_trans h.grown hg, (hg.block _ (Array.getElem?_eq_some_iff.1 h.res).1 (by simp; omega)).trans h.res, (hg.block _ h.lz (by simp; omega)).trans h.var, World.ownsRow.kept h.rk hg ?_, World.ownsRow.kept h.rw hg ?_, h.hz⟩
  · right; intro e; have := l1 g e; omega
  · right; intro e; have := l2 g e; omega
theorem Bk.keep {W' : World} (h : Bk w g A N c p z W q v1 v2 n m K U F) (hb : Below W.heap.size W W') : Bk w g A N c p z W' q v1 v2 n m K U F :=
  h.call (h.rd.keep hb) (grownBy_below hb _)
theorem Bk.drew (h : Bk w g A N c p z W q v1 v2 n m K U F) : Bk w g A N c p z W.drew q v1 v2 n m K U F := h.keep (Below.refl _ _).drew
theorem Bk.c0 (h : Bk w g A N c p z W q v1 v2 n m K U F) : W.cell? ⟨z, 0, none⟩ = some v1 := by rw [cell_of_row W z 0 _ _ (0, 0) h.var]; rfl
theorem Bk.c1 (h : Bk w g A N c p z W q v1 v2 n m K U F) : W.cell? ⟨z, 1, none⟩ = some v2 := by rw [cell_of_row W z 1 _ _ (0, 0) h.var]; rfl
theorem Bk.free (h : Bk w g A N c p z W q v1 v2 n m K U F) (i : Nat) : W.frozen? ⟨z, i, none⟩ = false := by simp [World.frozen?, h.var]
theorem Bk.addK {W' : World} {f : Nat → Int} {v : Value} (h : Bk w g A N c p z W q v1 v2 n m K U F) (hr : Rk W' w.heap.size v (n + 1) K) (hgr : (W.alloc (.cells (kcs f) 46)).grownBy W' v1.ownBlock) :
    W'.cell? ⟨z, 0, none⟩ = some v1 ∧ W'.frozen? ⟨z, 0, none⟩ = false ∧ Bk w g A N c p z (W'.setCell ⟨z, 0, none⟩ v) q v v2 (n + 1) m K U F := by
  have X := h.keep (below_box (.cells (kcs f) 46))
  have l1 := World.ownsRow.lt X.rk
  have h1 := X.hg
  have h2 := X.hz
  have hv := blk_not_row X.var (by decide : 26 ≠ 46) X.rk
  have hvar : W'.heap[z]? = some (.cells (bkc v1 v2) 26 (0, 0)) := (hgr.block z X.lz hv).trans X.var
  have hs : W'.grownBy (W'.setCell ⟨z, 0, none⟩ v) (some z) := grown_set _ _ _
  refine ⟨by rw [cell_of_row W' z 0 _ _ (0, 0) hvar]; rfl, by simp [World.frozen?, hvar], ?_⟩
  have hrd : W'.heap[g]? = _ := (hgr.block g X.rd.lt (fun e => by have := l1 g e.symm; omega)).trans X.rd
  have hres : W'.heap[w.heap.size]? = _ := (hgr.block _ (Array.getElem?_eq_some_iff.1 X.res).1 (blk_not_row X.res (by decide) X.rk)).trans X.res
  have hrw : Rww W' w.heap.size v2 m U F := World.ownsRow.kept X.rw hgr (rows_differ X.rw X.rk (by decide))
  refine ⟨(Below.heap_setCell _ _ _ _ (by simp; omega)).trans hrd, X.bs, X.rd0, grown_own (grown_own X.grown hgr (fun b e => (l1 b e).1)) hs (fun b e => by injection e; omega), (Below.heap_setCell _ _ _ _ (by simp; omega)).trans hres, setCell_blk hvar v, World.ownsRow.kept hr hs ?_, World.ownsRow.kept hrw hs ?_, X.hz⟩
  · right; exact fun e => blk_not_row hvar (by decide) hr e.symm
  · right; exact fun e => blk_not_row hvar (by decide) hrw e.symm
theorem Bk.addW {W' : World} {f : Nat → Int} {b : Bool} {v : Value} (h : Bk w g A N c p z W q v1 v2 n m K U F) (hr : Rww W' w.heap.size v (m + 1) U F) (hgr : (W.alloc (.cells (wcs f b) 51)).grownBy W' v2.ownBlock) :
    W'.cell? ⟨z, 1, none⟩ = some v2 ∧ W'.frozen? ⟨z, 1, none⟩ = false ∧ Bk w g A N c p z (W'.setCell ⟨z, 1, none⟩ v) q v1 v n (m + 1) K U F := by
  have X := h.keep (below_box (.cells (wcs f b) 51))
  have l1 := World.ownsRow.lt X.rw
  have h1 := X.hg
  have h2 := X.hz
  have hv := blk_not_row X.var (by decide : 26 ≠ 51) X.rw
  have hvar : W'.heap[z]? = some (.cells (bkc v1 v2) 26 (0, 0)) := (hgr.block z X.lz hv).trans X.var
  have hs : W'.grownBy (W'.setCell ⟨z, 1, none⟩ v) (some z) := grown_set _ _ _
  refine ⟨by rw [cell_of_row W' z 1 _ _ (0, 0) hvar]; rfl, by simp [World.frozen?, hvar], ?_⟩
  have hrd : W'.heap[g]? = _ := (hgr.block g X.rd.lt (fun e => by have := l1 g e.symm; omega)).trans X.rd
  have hres : W'.heap[w.heap.size]? = _ := (hgr.block _ (Array.getElem?_eq_some_iff.1 X.res).1 (blk_not_row X.res (by decide) X.rw)).trans X.res
  have hrk : Rk W' w.heap.size v1 n K := World.ownsRow.kept X.rk hgr (rows_differ X.rk X.rw (by decide))
  refine ⟨(Below.heap_setCell _ _ _ _ (by simp; omega)).trans hrd, X.bs, X.rd0, grown_own (grown_own X.grown hgr (fun b e => (l1 b e).1)) hs (fun b e => by injection e; omega), (Below.heap_setCell _ _ _ _ (by simp; omega)).trans hres, setCell_blk hvar v, World.ownsRow.kept hrk hs ?_, World.ownsRow.kept hr hs ?_, X.hz⟩
  · right; exact fun e => blk_not_row hvar (by decide) hrk e.symm
  · right; exact fun e => blk_not_row hvar (by decide) hr e.symm
end

/-- What book ends with. -/
def BookPost (g : Nat) (p : Nat → Nat) (w : World) (e a : Int) (en : Ending) (w' : World) : Prop :=
  w.grownBy w' (some g) ∧ ((e ≠ 0 ∧ en = .panicked (Flt e a)) ∨ (e = 0 ∧ ∃ A1 c1 A2 c2, en = .returned (.agg #[.slice A1 (p 0) c1, .slice A2 (p 1) c2]) ∧ p 0 ≤ c1 ∧ c1 ≤ maxLen ∧ p 1 ≤ c2 ∧ c2 ≤ maxLen ∧ Kn w' A1 (p 0) (dK p) ∧ Wn w' A2 (p 1) (dU p) (dF p)))

set_option maxRecDepth 100000 in
set_option maxHeartbeats 8000000 in
theorem book_any (g N c : Nat) (A : Option Addr) (p : Nat → Nat) (w : World) (hR : Rd w g A N c 0) (hB : Bs w A N p) (hp : ∀ i, p i < 256) (hc : N ≤ c) (hm : c ≤ maxLen) :
    Calls Try.prog 30 #[.pointer (some ⟨g, 0, none⟩)] w fun en w' => ∃ e a, Dec p N e a ∧ BookPost g p w e a en w' := by
  have R0 := Lib.hid (hR.keep (below_box (.cells (bkc (.slice none 0 0) (.slice none 0 0)) 26)))
  have B0 := Lib.hid (hB.keep (below_box (.cells (bkc (.slice none 0 0) (.slice none 0 0)) 26)))
  have G0 : Hid (w.grownBy (w.alloc (.cells (bkc (.slice none 0 0) (.slice none 0 0)) 26)) (some g)) := grownBy_below (below_box _) _
  have HR := Lib.hid hR
  have HB := Lib.hid hB
  have HP := Lib.hid hp
  have HC := Lib.hid hc
  have HM := Lib.hid hm
  clear hR hB hp hc hm
  by_cases h2 : N < 2
  · go_enter Try.func30, Try.ntmps30
    go_wp2_with fail
    refine (head_short g N c A _ R0.out h2).mono ?_
    rintro en w1 ⟨rfl, g1⟩
    have G1 := Lib.hid (grown_trans G0.out g1)
    have HD : Hid (Dec p N 2 N) := .short h2
    clear g1 h2
    go_wp2
    exact ⟨rfl, _, _, HD.out, G1.out, .inl ⟨by decide, rfl⟩⟩
  · have h2' : 2 ≤ N := by omega
    rcases Nat.lt_trichotomy N (need p) with hN | hN | hN
    · go_enter Try.func30, Try.ntmps30
      go_wp2_with fail
      refine (head_few g N c A p _ R0.out B0.out HP.out h2' HC.out HM.out hN).mono ?_
      rintro en w1 ⟨rfl, g1⟩
      have G1 := Lib.hid (grown_trans G0.out g1)
      have HD : Hid (Dec p N 2 N) := .few h2' hN
      clear g1 h2 h2' hN
      go_wp2
      exact ⟨rfl, _, _, HD.out, G1.out, .inl ⟨by decide, rfl⟩⟩
    · have H2 := Lib.hid h2'
      have HN := Lib.hid hN
      have LP : Hid (p 0 < 256 ∧ p 1 < 256) := ⟨HP.out 0, HP.out 1⟩
      clear h2 h2' hN
      go_enter Try.func30, Try.ntmps30
      go_wp2_with fail
      refine (head_ok g N c A p _ R0.out B0.out HP.out H2.out HC.out HM.out HN.out).mono ?_
      rintro en w1 ⟨rfl, r1, g1⟩
      have X : Hid (Bk w g A N c p w1.heap.size (w1.alloc (.cells (bkc (.slice none 0 0) (.slice none 0 0)) 26)) 2 (.slice none 0 0) (.slice none 0 0) 0 0 (dK p) (dU p) (dF p)) := by
        have hlt : w.heap.size < w1.heap.size := by have := g1.size; simp at this; omega
        have hgl := HR.out.lt
        refine ⟨r1.keep (below_box _), HB.out, ⟨0, HR.out⟩, grown_trans (grown_trans G0.out g1) (grownBy_below (below_box _) _), ?_, alloc_blk _ _ _, World.ownsRow_nil _ _ _ _, World.ownsRow_nil _ _ _ _, hlt⟩
        refine ((below_box _).block _ hlt).trans ((g1.block _ (by simp) (by simp; omega)).trans (alloc_blk _ _ _))
      clear r1 g1 R0 B0 G0
      obtain ⟨n, en⟩ : ∃ n, p 0 = n := ⟨_, rfl⟩
      obtain ⟨m, em⟩ : ∃ m, p 1 = m := ⟨_, rfl⟩
      rw [en, em]
      have EN := Lib.hid en
      have EM := Lib.hid em
      clear en em
      go_wp2
      generalize w1.alloc (.cells (bkc (.slice none 0 0) (.slice none 0 0)) 26) = w2 at *
      generalize w1.heap.size = z at *
      have n256 : n < 256 := by have := LP.out.1; rw [EN.out] at this; exact this
      have m256 : m < 256 := by have := LP.out.2; rw [EM.out] at this; exact this
      go_loopw [14] (fun i wr => ∃ (k : Nat) (v1 : Value), k ≤ n ∧ i = .int .i64 (k : Int) ∧ Hid (∀ j, j < k → kE p j = 0) ∧ Hid (Bk w g A N c p z wr (kq k) v1 (.slice none 0 0) k 0 (dK p) (dU p) (dF p))) (fun i _ => n - (intOf i).toNat)
      case atStart => exact ⟨0, _, by omega, rfl, fun j hj => absurd hj (Nat.not_lt_zero _), X.out⟩
      case round =>
        obtain ⟨k, v1, hk, rfl, hA, hX⟩ := hrel
        clear X
        by_cases hlt : k < n
        · have hlt' : (k : Int) < (n : Int) := by omega
          have LN : Hid (kq k + 35 ≤ N) := by have := HN.out; have := EN.out; show _ ≤ _; unfold kq need at *; omega
          by_cases hE : kE p k = 0
          · have HA2 : Hid (∀ j, j < k + 1 → kE p j = 0) := by
              intro j hj
              by_cases e : j = k
              · rw [e]; exact hE
              · exact hA j (by omega)
            clear hA
            have BK := Lib.hid hX.out.drew
            have HS : Hid (True ∧ (fun w' : World => w'.cell? ⟨z, 0, none⟩ = some v1) wr.drew) := ⟨trivial, BK.out.c0⟩
            clear hX
            go_wp2_with fail
            refine wp_regionT (m := 7) (R := fun _ => True) (B := fun w' : World => w'.cell? ⟨z, 0, none⟩ = some v1) (by kernel_rfl) ?_
            generalize wr.drew = w3 at *
            simp only [List.size_toArray, List.length_cons, List.length_nil, Nat.reduceAdd, Array.replicate_succ, Array.replicate_zero, List.push_toArray, List.nil_append, List.cons_append]
            refine wpAnyT_take (i := 0) (v := ?_) rfl (by kernel_rfl) (by kernel_rfl) (by kernel_rfl) (by kernel_rfl) (by kernel_rfl) (by kernel_rfl) (fun _ _ _ h => h) (Or.inl ⟨by rfl, ?_⟩) HS.out ?_
            rotate_left
            · rintro w' ⟨-, hb0⟩
              go_simp
              with_reducible rfl
            simp only [Act.put, List.getElem_toArray, List.getElem_cons_zero, List.setIfInBounds_toArray, List.set_cons_zero, List.set_cons_succ]
            refine wpAnyT_take (i := 1) (v := ?_) rfl (by kernel_rfl) (by kernel_rfl) (by kernel_rfl) (by kernel_rfl) (by kernel_rfl) (by kernel_rfl) (fun _ _ _ h => h) (Or.inl ⟨by rfl, ?_⟩) HS.out ?_
            rotate_left
            · rintro w' ⟨-, hb0⟩
              go_simp
              with_reducible rfl
            simp only [Act.put, List.getElem_toArray, List.getElem_cons_zero, List.getElem_cons_succ, List.setIfInBounds_toArray, List.set_cons_zero, List.set_cons_succ]
            refine wpAnyT_take (i := 2) (v := ?_) rfl (by kernel_rfl) (by kernel_rfl) (by kernel_rfl) (by kernel_rfl) (by kernel_rfl) (by kernel_rfl) (fun _ _ _ h => h) (Or.inl ⟨by rfl, ?_⟩) HS.out ?_
            rotate_left
            · rintro w' ⟨-, hb0⟩
              go_simp
              with_reducible rfl
            simp only [Act.put, List.getElem_toArray, List.getElem_cons_zero, List.getElem_cons_succ, List.setIfInBounds_toArray, List.set_cons_zero, List.set_cons_succ]
            refine wpAnyT_one (i := 3) (by kernel_rfl) rfl (fun K' hK => ?_)
            rw [if_pos (by rfl)]
            simp only [List.getElem_toArray, List.getElem_cons_zero, List.getElem_cons_succ, List.setIfInBounds_toArray, List.set_cons_zero, List.set_cons_succ] at hK ⊢
            have HK' := Lib.hid hK
            clear hK
            have C := Lib.hid (kind_ok g N c (kq k) A p _ BK.out.rd BK.out.bsW HP.out hE LN.out HC.out HM.out)
            have HF : Hid (dK p k = dk p (kq k)) := rfl
            generalize dk p (kq k) = f at *
            go_simp
            refine C.out.mono ?_
            rintro e w4 ⟨rfl, r4, g4⟩
            have B4 := Lib.hid (BK.out.call r4 g4)
            clear r4 g4 C BK HS
            refine HK'.out _ _ trivial (fun _ => B4.out.c0) ?_
            clear HK'
            have SZ : Hid (w.heap.size ≤ w4.heap.size) := by have := B4.out.hz; have := B4.out.lz; show _ ≤ _; omega
            refine wpAnyT_one (i := 4) (by kernel_rfl) rfl (fun K' hK => ?_)
            rw [if_pos (by rfl)]
            simp only [List.getElem_toArray, List.getElem_cons_zero, List.getElem_cons_succ, List.setIfInBounds_toArray, List.set_cons_zero, List.set_cons_succ] at hK ⊢
            have HK' := Lib.hid hK
            clear hK
            go_simp
            refine HK'.out _ _ trivial (fun _ => (B4.out.keep (below_box _)).c0) ?_
            clear HK'
            refine wpAnyT_one (i := 5) (by kernel_rfl) rfl (fun K' hK => ?_)
            rw [if_pos (by rfl)]
            simp only [List.getElem_toArray, List.getElem_cons_zero, List.getElem_cons_succ, List.setIfInBounds_toArray, List.set_cons_zero, List.set_cons_succ] at hK ⊢
            have HK' := Lib.hid hK
            clear hK
            refine wp_append_kind (.tmp 17) (.tmp 20) rfl w.heap.size k (dK p) f v1 w4 _ rfl HF.out B4.out.rk rfl rfl (by omega) SZ.out ?_
            intro v' w5 hr5 hg5
            obtain ⟨c5, f5, b5⟩ := B4.out.addK hr5 hg5
            obtain ⟨g5, cap5, rfl⟩ := ownsRow_succ hr5
            have B5 := Lib.hid b5
            have C5 := Lib.hid c5
            have F5 := Lib.hid f5
            clear b5 c5 f5 hr5 hg5 B4
            refine HK'.out _ _ trivial (fun _ => C5.out) ?_
            clear HK'
            refine wpAnyT_one (i := 6) (by kernel_rfl) rfl (fun K' hK => ?_)
            rw [if_pos (by rfl)]
            simp only [List.getElem_toArray, List.getElem_cons_zero, List.getElem_cons_succ, List.setIfInBounds_toArray, List.set_cons_zero, List.set_cons_succ] at hK ⊢
            have HK' := Lib.hid hK
            clear hK
            go_simp
            refine HK'.out _ _ trivial (fun _ => C5.out) ?_
            clear HK'
            refine wpAnyT_one (i := 7) (by kernel_rfl) rfl (fun K' hK => ?_)
            rw [if_pos (by rfl)]
            simp only [List.getElem_toArray, List.getElem_cons_zero, List.getElem_cons_succ, List.setIfInBounds_toArray, List.set_cons_zero, List.set_cons_succ] at hK ⊢
            have HK' := Lib.hid hK
            clear hK
            have c5 := C5.out
            have f5 := F5.out
            go_simp
            refine HK'.out _ _ trivial (fun hh => absurd hh (by decide)) ?_
            clear HK' c5 f5
            refine wpAnyT_done (by kernel_rfl) ?_ _
            have B6 : Hid (_) := B5.out
            clear B5 C5 F5
            go_wp2
            go_roundw
            case rel => exact ⟨k + 1, _, by omega, by go_num, HA2, B6⟩
            case measure => simp [intOf]; omega
          · have HD : Hid (Dec p N (kE p k) ((kq k + 27 : Nat) : Int)) := .kind k H2.out HN.out (by rw [EN.out]; exact hlt) hA hE
            clear hA
            have BK := Lib.hid hX.out.drew
            have HS : Hid (True ∧ (fun w' : World => w'.cell? ⟨z, 0, none⟩ = some v1) wr.drew) := ⟨trivial, BK.out.c0⟩
            clear hX
            go_wp2_with fail
            refine wp_regionT (m := 7) (R := fun _ => True) (B := fun w' : World => w'.cell? ⟨z, 0, none⟩ = some v1) (by kernel_rfl) ?_
            generalize wr.drew = w3 at *
            simp only [List.size_toArray, List.length_cons, List.length_nil, Nat.reduceAdd, Array.replicate_succ, Array.replicate_zero, List.push_toArray, List.nil_append, List.cons_append]
            refine wpAnyT_take (i := 0) (v := ?_) rfl (by kernel_rfl) (by kernel_rfl) (by kernel_rfl) (by kernel_rfl) (by kernel_rfl) (by kernel_rfl) (fun _ _ _ h => h) (Or.inl ⟨by rfl, ?_⟩) HS.out ?_
            rotate_left
            · rintro w' ⟨-, hb0⟩
              go_simp
              with_reducible rfl
            simp only [Act.put, List.getElem_toArray, List.getElem_cons_zero, List.setIfInBounds_toArray, List.set_cons_zero, List.set_cons_succ]
            refine wpAnyT_take (i := 1) (v := ?_) rfl (by kernel_rfl) (by kernel_rfl) (by kernel_rfl) (by kernel_rfl) (by kernel_rfl) (by kernel_rfl) (fun _ _ _ h => h) (Or.inl ⟨by rfl, ?_⟩) HS.out ?_
            rotate_left
            · rintro w' ⟨-, hb0⟩
              go_simp
              with_reducible rfl
            simp only [Act.put, List.getElem_toArray, List.getElem_cons_zero, List.getElem_cons_succ, List.setIfInBounds_toArray, List.set_cons_zero, List.set_cons_succ]
            refine wpAnyT_take (i := 2) (v := ?_) rfl (by kernel_rfl) (by kernel_rfl) (by kernel_rfl) (by kernel_rfl) (by kernel_rfl) (by kernel_rfl) (fun _ _ _ h => h) (Or.inl ⟨by rfl, ?_⟩) HS.out ?_
            rotate_left
            · rintro w' ⟨-, hb0⟩
              go_simp
              with_reducible rfl
            simp only [Act.put, List.getElem_toArray, List.getElem_cons_zero, List.getElem_cons_succ, List.setIfInBounds_toArray, List.set_cons_zero, List.set_cons_succ]
            refine wpAnyT_one (i := 3) (by kernel_rfl) rfl (fun K' hK => ?_)
            rw [if_pos (by rfl)]
            simp only [List.getElem_toArray, List.getElem_cons_zero, List.getElem_cons_succ, List.setIfInBounds_toArray, List.set_cons_zero, List.set_cons_succ] at hK ⊢
            have HK' := Lib.hid hK
            clear hK
            have C := Lib.hid (kind_bad g N c (kq k) A p _ BK.out.rd BK.out.bsW HP.out hE LN.out HC.out HM.out)
            go_simp
            refine C.out.mono ?_
            rintro e w4 ⟨rfl, g4⟩
            have G4 := Lib.hid (grown_trans BK.out.grown g4)
            clear g4 C BK HS HK'
            exact ⟨rfl, _, _, HD.out, G4.out, .inl ⟨hE, rfl⟩⟩
        · have hkn : k = n := by omega
          have HAK : Hid (∀ j, j < p 0 → kE p j = 0) := by rw [EN.out, ← hkn]; exact hA
          have hge : ¬ (k : Int) < (n : Int) := by omega
          have HQ0 : Hid (kq k = wq p 0) := by show _ = _; unfold kq wq; rw [EN.out, hkn]; rfl
          rw [hkn] at hX
          rw [hkn] at HQ0
          clear hA hkn
          rw [HQ0.out] at hX
          clear HQ0
          go_wp2
          rename World => W1
          go_loopw [25] (fun i wr => ∃ (k2 : Nat) (v2 : Value), k2 ≤ m ∧ i = .int .i64 (k2 : Int) ∧ Hid (∀ j, j < k2 → wB p j ≤ 1 ∧ wE p j = 0) ∧ Hid (Bk w g A N c p z wr (wq p k2) v1 v2 n k2 (dK p) (dU p) (dF p))) (fun i _ => m - (intOf i).toNat)
          case atStart => exact ⟨0, _, by omega, rfl, fun j hj => absurd hj (Nat.not_lt_zero _), hX⟩
          case round =>
            obtain ⟨k2, v2, hk2, rfl, hA, hX2⟩ := hrel
            clear hX
            have hX := hX2
            clear hX2
            by_cases hlt2 : k2 < m
            · have hlt2' : (k2 : Int) < (m : Int) := by omega
              have LN : Hid (wq p k2 + 14 ≤ N) := by have := HN.out; have := EN.out; have := EM.out; show _ ≤ _; unfold wq need at *; omega
              by_cases hU : 1 < wB p k2
              · have HD : Hid (Dec p N 3 ((wq p k2 + 5 : Nat) : Int)) := .under k2 H2.out HN.out HAK.out (by rw [EM.out]; exact hlt2) hA hU
                clear hA
                have BK := Lib.hid hX.out.drew
                have HS : Hid (True ∧ (fun w' : World => w'.cell? ⟨z, 1, none⟩ = some v2) wr.drew) := ⟨trivial, BK.out.c1⟩
                clear hX
                go_wp2_with fail
                refine wp_regionT (m := 7) (R := fun _ => True) (B := fun w' : World => w'.cell? ⟨z, 1, none⟩ = some v2) (by kernel_rfl) ?_
                generalize wr.drew = w3 at *
                simp only [List.size_toArray, List.length_cons, List.length_nil, Nat.reduceAdd, Array.replicate_succ, Array.replicate_zero, List.push_toArray, List.nil_append, List.cons_append]
                refine wpAnyT_take (i := 0) (v := ?_) rfl (by kernel_rfl) (by kernel_rfl) (by kernel_rfl) (by kernel_rfl) (by kernel_rfl) (by kernel_rfl) (fun _ _ _ h => h) (Or.inl ⟨by rfl, ?_⟩) HS.out ?_
                rotate_left
                · rintro w' ⟨-, hb0⟩
                  go_simp
                  with_reducible rfl
                simp only [Act.put, List.getElem_toArray, List.getElem_cons_zero, List.setIfInBounds_toArray, List.set_cons_zero, List.set_cons_succ]
                refine wpAnyT_take (i := 1) (v := ?_) rfl (by kernel_rfl) (by kernel_rfl) (by kernel_rfl) (by kernel_rfl) (by kernel_rfl) (by kernel_rfl) (fun _ _ _ h => h) (Or.inl ⟨by rfl, ?_⟩) HS.out ?_
                rotate_left
                · rintro w' ⟨-, hb0⟩
                  go_simp
                  with_reducible rfl
                simp only [Act.put, List.getElem_toArray, List.getElem_cons_zero, List.getElem_cons_succ, List.setIfInBounds_toArray, List.set_cons_zero, List.set_cons_succ]
                refine wpAnyT_take (i := 2) (v := ?_) rfl (by kernel_rfl) (by kernel_rfl) (by kernel_rfl) (by kernel_rfl) (by kernel_rfl) (by kernel_rfl) (fun _ _ _ h => h) (Or.inl ⟨by rfl, ?_⟩) HS.out ?_
                rotate_left
                · rintro w' ⟨-, hb0⟩
                  go_simp
                  with_reducible rfl
                simp only [Act.put, List.getElem_toArray, List.getElem_cons_zero, List.getElem_cons_succ, List.setIfInBounds_toArray, List.set_cons_zero, List.set_cons_succ]
                refine wpAnyT_one (i := 3) (by kernel_rfl) rfl (fun K' hK => ?_)
                rw [if_pos (by rfl)]
                simp only [List.getElem_toArray, List.getElem_cons_zero, List.getElem_cons_succ, List.setIfInBounds_toArray, List.set_cons_zero, List.set_cons_succ] at hK ⊢
                have HK' := Lib.hid hK
                clear hK
                have C := Lib.hid (weapon_under g N c (wq p k2) A p _ BK.out.rd BK.out.bsW HP.out hU LN.out HC.out HM.out)
                go_simp
                refine C.out.mono ?_
                rintro e w4 ⟨rfl, g4⟩
                have G4 := Lib.hid (grown_trans BK.out.grown g4)
                clear g4 C BK HS HK'
                exact ⟨rfl, _, _, HD.out, G4.out, .inl ⟨by decide, rfl⟩⟩
              · have hU1 : wB p k2 ≤ 1 := by omega
                clear hU
                by_cases hE : wE p k2 = 0
                · have HA2 : Hid (∀ j, j < k2 + 1 → wB p j ≤ 1 ∧ wE p j = 0) := by
                    intro j hj
                    by_cases e : j = k2
                    · rw [e]; exact ⟨hU1, hE⟩
                    · exact hA j (by omega)
                  have HW := And.intro hU1 hE
                  clear hA hU1 hE
                  have BK := Lib.hid hX.out.drew
                  have HS : Hid (True ∧ (fun w' : World => w'.cell? ⟨z, 1, none⟩ = some v2) wr.drew) := ⟨trivial, BK.out.c1⟩
                  clear hX
                  go_wp2_with fail
                  refine wp_regionT (m := 7) (R := fun _ => True) (B := fun w' : World => w'.cell? ⟨z, 1, none⟩ = some v2) (by kernel_rfl) ?_
                  generalize wr.drew = w3 at *
                  simp only [List.size_toArray, List.length_cons, List.length_nil, Nat.reduceAdd, Array.replicate_succ, Array.replicate_zero, List.push_toArray, List.nil_append, List.cons_append]
                  refine wpAnyT_take (i := 0) (v := ?_) rfl (by kernel_rfl) (by kernel_rfl) (by kernel_rfl) (by kernel_rfl) (by kernel_rfl) (by kernel_rfl) (fun _ _ _ h => h) (Or.inl ⟨by rfl, ?_⟩) HS.out ?_
                  rotate_left
                  · rintro w' ⟨-, hb0⟩
                    go_simp
                    with_reducible rfl
                  simp only [Act.put, List.getElem_toArray, List.getElem_cons_zero, List.setIfInBounds_toArray, List.set_cons_zero, List.set_cons_succ]
                  refine wpAnyT_take (i := 1) (v := ?_) rfl (by kernel_rfl) (by kernel_rfl) (by kernel_rfl) (by kernel_rfl) (by kernel_rfl) (by kernel_rfl) (fun _ _ _ h => h) (Or.inl ⟨by rfl, ?_⟩) HS.out ?_
                  rotate_left
                  · rintro w' ⟨-, hb0⟩
                    go_simp
                    with_reducible rfl
                  simp only [Act.put, List.getElem_toArray, List.getElem_cons_zero, List.getElem_cons_succ, List.setIfInBounds_toArray, List.set_cons_zero, List.set_cons_succ]
                  refine wpAnyT_take (i := 2) (v := ?_) rfl (by kernel_rfl) (by kernel_rfl) (by kernel_rfl) (by kernel_rfl) (by kernel_rfl) (by kernel_rfl) (fun _ _ _ h => h) (Or.inl ⟨by rfl, ?_⟩) HS.out ?_
                  rotate_left
                  · rintro w' ⟨-, hb0⟩
                    go_simp
                    with_reducible rfl
                  simp only [Act.put, List.getElem_toArray, List.getElem_cons_zero, List.getElem_cons_succ, List.setIfInBounds_toArray, List.set_cons_zero, List.set_cons_succ]
                  refine wpAnyT_one (i := 3) (by kernel_rfl) rfl (fun K' hK => ?_)
                  rw [if_pos (by rfl)]
                  simp only [List.getElem_toArray, List.getElem_cons_zero, List.getElem_cons_succ, List.setIfInBounds_toArray, List.set_cons_zero, List.set_cons_succ] at hK ⊢
                  have HK' := Lib.hid hK
                  clear hK
                  have C := Lib.hid (weapon_ok g N c (wq p k2) A p _ BK.out.rd BK.out.bsW HP.out HW LN.out HC.out HM.out)
                  have HF : Hid (dU p k2 = dw p (wq p k2) ∧ dF p k2 = du p (wq p k2)) := ⟨rfl, rfl⟩
                  generalize dw p (wq p k2) = f at *
                  generalize du p (wq p k2) = fb at *
                  go_simp
                  refine C.out.mono ?_
                  rintro e w4 ⟨rfl, r4, g4⟩
                  have B4 := Lib.hid (BK.out.call r4 g4)
                  clear r4 g4 C BK HS
                  refine HK'.out _ _ trivial (fun _ => B4.out.c1) ?_
                  clear HK'
                  have SZ : Hid (w.heap.size ≤ w4.heap.size) := by have := B4.out.hz; have := B4.out.lz; show _ ≤ _; omega
                  refine wpAnyT_one (i := 4) (by kernel_rfl) rfl (fun K' hK => ?_)
                  rw [if_pos (by rfl)]
                  simp only [List.getElem_toArray, List.getElem_cons_zero, List.getElem_cons_succ, List.setIfInBounds_toArray, List.set_cons_zero, List.set_cons_succ] at hK ⊢
                  have HK' := Lib.hid hK
                  clear hK
                  go_simp
                  refine HK'.out _ _ trivial (fun _ => (B4.out.keep (below_box _)).c1) ?_
                  clear HK'
                  refine wpAnyT_one (i := 5) (by kernel_rfl) rfl (fun K' hK => ?_)
                  rw [if_pos (by rfl)]
                  simp only [List.getElem_toArray, List.getElem_cons_zero, List.getElem_cons_succ, List.setIfInBounds_toArray, List.set_cons_zero, List.set_cons_succ] at hK ⊢
                  have HK' := Lib.hid hK
                  clear hK
                  refine wp_append_weapon (.tmp 28) (.tmp 31) rfl w.heap.size k2 (dU p) (dF p) f fb v2 w4 _ rfl HF.out.1 HF.out.2 B4.out.rw rfl rfl (by omega) SZ.out ?_
                  intro v' w5 hr5 hg5
                  obtain ⟨c5, f5, b5⟩ := B4.out.addW hr5 hg5
                  obtain ⟨g5, cap5, rfl⟩ := ownsRow_succ hr5
                  have B5 := Lib.hid b5
                  have C5 := Lib.hid c5
                  have F5 := Lib.hid f5
                  clear b5 c5 f5 hr5 hg5 B4
                  refine HK'.out _ _ trivial (fun _ => C5.out) ?_
                  clear HK'
                  refine wpAnyT_one (i := 6) (by kernel_rfl) rfl (fun K' hK => ?_)
                  rw [if_pos (by rfl)]
                  simp only [List.getElem_toArray, List.getElem_cons_zero, List.getElem_cons_succ, List.setIfInBounds_toArray, List.set_cons_zero, List.set_cons_succ] at hK ⊢
                  have HK' := Lib.hid hK
                  clear hK
                  go_simp
                  refine HK'.out _ _ trivial (fun _ => C5.out) ?_
                  clear HK'
                  refine wpAnyT_one (i := 7) (by kernel_rfl) rfl (fun K' hK => ?_)
                  rw [if_pos (by rfl)]
                  simp only [List.getElem_toArray, List.getElem_cons_zero, List.getElem_cons_succ, List.setIfInBounds_toArray, List.set_cons_zero, List.set_cons_succ] at hK ⊢
                  have HK' := Lib.hid hK
                  clear hK
                  have c5 := C5.out
                  have f5 := F5.out
                  go_simp
                  refine HK'.out _ _ trivial (fun hh => absurd hh (by decide)) ?_
                  clear HK' c5 f5
                  refine wpAnyT_done (by kernel_rfl) ?_ _
                  have B6 : Hid (_) := B5.out
                  clear B5 C5 F5
                  go_wp2
                  go_roundw
                  case rel => exact ⟨k2 + 1, _, by omega, by go_num, HA2, B6⟩
                  case measure => simp [intOf]; omega
                · have HD : Hid (Dec p N (wE p k2) ((wq p k2 + 6 : Nat) : Int)) := .speed k2 H2.out HN.out HAK.out (by rw [EM.out]; exact hlt2) hA hU1 hE
                  have HW := And.intro hU1 hE
                  clear hA hU1 hE
                  have BK := Lib.hid hX.out.drew
                  have HS : Hid (True ∧ (fun w' : World => w'.cell? ⟨z, 1, none⟩ = some v2) wr.drew) := ⟨trivial, BK.out.c1⟩
                  clear hX
                  go_wp2_with fail
                  refine wp_regionT (m := 7) (R := fun _ => True) (B := fun w' : World => w'.cell? ⟨z, 1, none⟩ = some v2) (by kernel_rfl) ?_
                  generalize wr.drew = w3 at *
                  simp only [List.size_toArray, List.length_cons, List.length_nil, Nat.reduceAdd, Array.replicate_succ, Array.replicate_zero, List.push_toArray, List.nil_append, List.cons_append]
                  refine wpAnyT_take (i := 0) (v := ?_) rfl (by kernel_rfl) (by kernel_rfl) (by kernel_rfl) (by kernel_rfl) (by kernel_rfl) (by kernel_rfl) (fun _ _ _ h => h) (Or.inl ⟨by rfl, ?_⟩) HS.out ?_
                  rotate_left
                  · rintro w' ⟨-, hb0⟩
                    go_simp
                    with_reducible rfl
                  simp only [Act.put, List.getElem_toArray, List.getElem_cons_zero, List.setIfInBounds_toArray, List.set_cons_zero, List.set_cons_succ]
                  refine wpAnyT_take (i := 1) (v := ?_) rfl (by kernel_rfl) (by kernel_rfl) (by kernel_rfl) (by kernel_rfl) (by kernel_rfl) (by kernel_rfl) (fun _ _ _ h => h) (Or.inl ⟨by rfl, ?_⟩) HS.out ?_
                  rotate_left
                  · rintro w' ⟨-, hb0⟩
                    go_simp
                    with_reducible rfl
                  simp only [Act.put, List.getElem_toArray, List.getElem_cons_zero, List.getElem_cons_succ, List.setIfInBounds_toArray, List.set_cons_zero, List.set_cons_succ]
                  refine wpAnyT_take (i := 2) (v := ?_) rfl (by kernel_rfl) (by kernel_rfl) (by kernel_rfl) (by kernel_rfl) (by kernel_rfl) (by kernel_rfl) (fun _ _ _ h => h) (Or.inl ⟨by rfl, ?_⟩) HS.out ?_
                  rotate_left
                  · rintro w' ⟨-, hb0⟩
                    go_simp
                    with_reducible rfl
                  simp only [Act.put, List.getElem_toArray, List.getElem_cons_zero, List.getElem_cons_succ, List.setIfInBounds_toArray, List.set_cons_zero, List.set_cons_succ]
                  refine wpAnyT_one (i := 3) (by kernel_rfl) rfl (fun K' hK => ?_)
                  rw [if_pos (by rfl)]
                  simp only [List.getElem_toArray, List.getElem_cons_zero, List.getElem_cons_succ, List.setIfInBounds_toArray, List.set_cons_zero, List.set_cons_succ] at hK ⊢
                  have HK' := Lib.hid hK
                  clear hK
                  have C := Lib.hid (weapon_bad g N c (wq p k2) A p _ BK.out.rd BK.out.bsW HP.out HW LN.out HC.out HM.out)
                  go_simp
                  refine C.out.mono ?_
                  rintro e w4 ⟨rfl, g4⟩
                  have G4 := Lib.hid (grown_trans BK.out.grown g4)
                  clear g4 C BK HS HK'
                  exact ⟨rfl, _, _, HD.out, G4.out, .inl ⟨HW.2, rfl⟩⟩
            · have hkm : k2 = m := by omega
              have HAW : Hid (∀ j, j < p 1 → wB p j ≤ 1 ∧ wE p j = 0) := by rw [EM.out, ← hkm]; exact hA
              have hge2 : ¬ (k2 : Int) < (m : Int) := by omega
              rw [hkm] at hX
              clear hA hkm
              obtain ⟨A1, c1, rfl, l1, l1', hK⟩ := hX.out.rk.kn
              obtain ⟨A2, c2, rfl, l2, l2', hW⟩ := hX.out.rw.wn
              obtain ⟨e, a, hchk⟩ := chk_total n m (dK p) (dU p)
              have HD : Hid (Dec p N e a) := .check e a H2.out HN.out HAK.out HAW.out (by rw [EN.out, EM.out]; exact hchk)
              have CK := Lib.hid (check_any n m c1 c2 A1 A2 (dK p) (dU p) (dF p) e a wr hchk (Nat.le_trans l1 l1') (Nat.le_trans l2 l2') hK hW)
              have LL : Hid (n ≤ c1 ∧ c1 ≤ maxLen ∧ m ≤ c2 ∧ c2 ≤ maxLen) := ⟨l1, l1', l2, l2'⟩
              have HV := Lib.hid hX.out.var
              clear hchk l1 l1' l2 l2' hK hW
              go_wp2_with (refine wpList_load_at (loadVar_book HV.out) rfl rfl rfl ?_)
              refine CK.out.mono ?_
              rintro en w6 ⟨rfl, b6⟩
              have X6 := Lib.hid (hX.out.keep b6)
              have HV6 := Lib.hid X6.out.var
              have HR6 := Lib.hid X6.out.res
              clear b6 hX CK HV
              by_cases he : e = 0
              · subst he
                go_wp2_with (first | (refine wpList_load_at (loadVar_book HV6.out) rfl rfl rfl ?_) | (refine wpList_store_blk (c' := bkc (.slice A1 n c1) (.slice A2 m c2)) Try.sizeBook HR6.out rfl rfl rfl rfl rfl rfl (bkc_one _ _ _ _ _ _) ?_))
                have hfin : (w6.setRow w.heap.size (bkc (.slice A1 n c1) (.slice A2 m c2))).heap[w.heap.size]? = some (.cells (bkc (.slice A1 n c1) (.slice A2 m c2)) 26 (0, 0)) := setRow_heap w6 w.heap.size _ _ _ _ HR6.out
                have hgz : w6.grownBy (w6.setRow w.heap.size (bkc (.slice A1 n c1) (.slice A2 m c2))) (some w.heap.size) := ⟨rfl, rfl, rfl, by simp [World.setRow], fun k _ hne => setRow_other w6 w.heap.size k _ (fun e => hne (by rw [e]))⟩
                have rk9 : Rk _ w.heap.size _ n (dK p) := World.ownsRow.kept X6.out.rk hgz (by right; exact fun e => blk_not_row X6.out.res (by decide) X6.out.rk e.symm)
                have rw9 : Rww _ w.heap.size _ m (dU p) (dF p) := World.ownsRow.kept X6.out.rw hgz (by right; exact fun e => blk_not_row X6.out.res (by decide) X6.out.rw e.symm)
                obtain ⟨A1', c1', e1, -, -, hK⟩ := rk9.kn
                injection e1 with e1 _ e3
                subst e1 e3
                obtain ⟨A2', c2', e2, -, -, hW⟩ := rw9.wn
                injection e2 with e2 _ e3
                subst e2 e3
                refine bodyPost_ret (v := .agg (bkc (.slice A1 n c1) (.slice A2 m c2))) (results_cell_row rfl _ _ w.heap.size 26 _ (0, 0) _ rfl hfin Try.underlying26 rfl Try.sizeBook) rfl ?_
                refine ⟨0, a, HD.out, setRow_grown X6.out.grown (Nat.le_refl _), .inr ⟨rfl, A1, c1, A2, c2, ?_⟩⟩
                rw [EN.out, EM.out]
                exact ⟨rfl, LL.out.1, LL.out.2.1, LL.out.2.2.1, LL.out.2.2.2, hK, hW⟩
              · have he' : (e != 0) = true := by simp [he]
                have HE := Lib.hid he
                clear he
                go_wp2
                exact ⟨rfl, e, a, HD.out, X6.out.grown, .inl ⟨HE.out, rfl⟩⟩
    · go_enter Try.func30, Try.ntmps30
      go_wp2_with fail
      refine (head_many g N c A p _ R0.out B0.out HP.out h2' HC.out HM.out hN).mono ?_
      rintro en w1 ⟨rfl, g1⟩
      have G1 := Lib.hid (grown_trans G0.out g1)
      have HD : Hid (Dec p N 7 (need p : Nat)) := .many h2' hN
      clear g1 h2 h2' hN
      go_wp2
      exact ⟨rfl, _, _, HD.out, G1.out, .inl ⟨by decide, rfl⟩⟩
end Go.Proofs.Ytpgifcgidelmaaa
