/- Contracts: New. -/
import Derived.Test.YtkghjaodnkjmoaaNr3
namespace Go.Proofs.Ytkghjaodnkjmoaa
open Go.RowKit Go.Sort Go.MapKept Go.ChangeMaps
set_option linter.unusedVariables false

theorem run_mk (t : TypeId) (w : World) : (Instr.makeMap t none).run Try.prog w = .ok (.map (some w.heap.size)) (w.alloc (.map #[] 0)) := rfl
attribute [local go_sem] run_mk
theorem size_alloc (w : World) (o : Obj) : (w.alloc o).heap.size = w.heap.size + 1 := by simp
section
variable (X Y : Nat → Int)
/-- The spots lie at A. -/
def Ps (w : World) (A : Option Addr) (n : Nat) : Prop :=
  0 < n → ∃ g o, A = some ⟨g, o, none⟩ ∧ g < w.heap.size ∧ ∀ i, i < n → w.cell? ⟨g, o + i * 2, none⟩ = some (.int .i64 (X i)) ∧ w.cell? ⟨g, o + i * 2 + 1, none⟩ = some (.int .i64 (Y i))
theorem Ps.keep {w w' : World} {A : Option Addr} {n : Nat} (h : Ps X Y w A n) (hb : RowKit.Below w.heap.size w w') : Ps X Y w' A n := by
  intro hn
  obtain ⟨g, o, e, hg, hc⟩ := h hn
  exact ⟨g, o, e, Nat.lt_of_lt_of_le hg hb.size, fun i hi => ⟨kc hb (hc i hi).1, kc hb (hc i hi).2⟩⟩
theorem Ps.take {w : World} {A : Option Addr} {n m : Nat} (h : Ps X Y w A n) (hm : m ≤ n) : Ps X Y w A m := by
  intro hn
  obtain ⟨g, o, e, hg, hc⟩ := h (by omega)
  exact ⟨g, o, e, hg, fun i hi => hc i (by omega)⟩
/-- May spots be? -/
def oks (n : Nat) : Prop := ∀ i, i < n → sp (X i) = true ∧ sp (Y i) = true

/-- Block p is an index of n spots. -/
structure Ix (w : World) (p n : Nat) : Prop where
  lt : p < w.heap.size
  data : ∃ m es clock f, w.cell? ⟨p, 0, none⟩ = some (.map (some m)) ∧ w.heap[m]? = some (.map es clock) ∧ Mp es clock f ∧ (∀ a b, grp X Y n a b = [] → f a b = none) ∧
    ∀ a b, grp X Y n a b ≠ [] → ∃ A c, f a b = some (.slice A (grp X Y n a b).length c) ∧ (grp X Y n a b).length ≤ c ∧ c ≤ maxLen ∧ Es X Y w A (grp X Y n a b)
theorem Ix.keep {w w' : World} {p n : Nat} (h : Ix X Y w p n) (hb : RowKit.Below w.heap.size w w') : Ix X Y w' p n := by
  obtain ⟨lt, m, es, clock, f, h0, hm, M, h1, h2⟩ := h
  refine ⟨Nat.lt_of_lt_of_le lt hb.size, m, es, clock, f, kc hb h0, (hb.block m (Array.getElem?_eq_some_iff.1 hm).1).trans hm, M, h1, fun a b hab => ?_⟩
  obtain ⟨A, c, e, q1, q2, q3⟩ := h2 a b hab
  exact ⟨A, c, e, q1, q2, q3.keep X Y hb⟩
theorem Mg.ix {w : World} {base m n p : Nat} (h : Mg X Y w base m n) (h0 : w.cell? ⟨p, 0, none⟩ = some (.map (some m))) : Ix X Y w p n := by
  obtain ⟨ge, es, clock, f, hm, M, h1, h2, h3⟩ := h
  refine ⟨World.block_lt_of_cell? w _ h0, m, es, clock, f, h0, hm, M, h1, fun a b hab => ?_⟩
  obtain ⟨v, e, hr⟩ := h2 a b hab
  obtain ⟨A, c, rfl, q1, q2, q3⟩ := hr.es X Y
  exact ⟨A, c, e, q1, q2, q3⟩

/-- What lies in the call's own blocks lies there, however older ones turn. -/
theorem Re.moved {w w' : World} {base : Nat} {v : Value} {l : List Nat} (h : Re X Y w base v l) (hk : ∀ k, base ≤ k → k < w.heap.size → w'.heap[k]? = w.heap[k]?) : Re X Y w' base v l := by
  refine ⟨h.1, ?_⟩
  rcases h.2 with h2 | ⟨g, cap, cur, e, hg, hh, hr⟩
  · exact .inl h2
  · exact .inr ⟨g, cap, cur, e, hg, (hk g hg (Array.getElem?_eq_some_iff.1 hh).1).trans hh, hr⟩
theorem Mg.ixK {w : World} {base m n p : Nat} (h : Mg X Y w base m n) (hp : base ≤ p) (h0 : w.cell? ⟨p, 0, none⟩ = some (.map (some m))) :
    ∀ w', w.heap.size ≤ w'.heap.size → (∀ k, base ≤ k → k < w.heap.size → w'.heap[k]? = w.heap[k]?) → Ix X Y w' p n := by
  intro w' _ hk
  obtain ⟨ge, es, clock, f, hm, M, h1, h2, h3⟩ := h
  refine Mg.ix X Y (base := base) (m := m) ⟨ge, es, clock, f, (hk m ge (Array.getElem?_eq_some_iff.1 hm).1).trans hm, M, h1, fun a b hab => ?_, h3⟩ ?_
  · obtain ⟨v, e, hr⟩ := h2 a b hab
    exact ⟨v, e, hr.moved X Y hk⟩
  · have := hk p hp (World.block_lt_of_cell? w _ h0)
    unfold World.cell? at h0 ⊢
    dsimp only at h0 ⊢
    rw [this]
    exact h0
set_option maxHeartbeats 1000000 in
theorem new_many (A : Option Addr) (n c : Nat) (w : World) (hn : 256 < n) (hN : n ≤ maxLen) :
    Calls Try.prog 18 #[.slice A n c] w (Ret (.tuple #[.pointer none, .int .i64 1]) w) := by
  unfold maxLen at hN
  have h' : (256 : Int) < (n : Int) := by omega
  go_enter Try.func18, Try.ntmps18
  go_wp2
  go_ret2
  exact Ret.mk rfl (Below.refl _ _)

/-- What New hands back: an index, or none. -/
def RetNew (n : Nat) (w : World) (e : Ending) (w' : World) : Prop :=
  RowKit.Below w.heap.size w w' ∧ ((oks X Y n ∧ ∃ p, e = .returned (.tuple #[.pointer (some ⟨p, 0, none⟩), .int .i64 0]) ∧ ∀ u, w'.heap.size ≤ u.heap.size → (∀ k, w.heap.size ≤ k → k < w'.heap.size → u.heap[k]? = w'.heap[k]?) → Ix X Y u p n) ∨ (¬ oks X Y n ∧ e = .returned (.tuple #[.pointer none, .int .i64 1])))

set_option maxRecDepth 100000 in
set_option maxHeartbeats 4000000 in
theorem new_few (A : Option Addr) (n c : Nat) (w : World) (hn : n ≤ 256) (hP : Ps X Y w A n) :
    Calls Try.prog 18 #[.slice A n c] w (RetNew X Y n w) := by
  have h' : ¬ (256 : Int) < (n : Int) := by omega
  have HP := Lib.hid hP
  have HM0 := Lib.hid (Mg.made X Y w)
  have HB0 := Lib.hid (below_box (w := w) (.map #[] 0))
  clear hP
  go_enter Try.func18, Try.ntmps18
  go_wp2
  generalize w.alloc (.map #[] 0) = V at *
  go_loopw [14] (fun kv wr => ∃ k : Nat, k ≤ n ∧ kv = .int .i64 (k : Int) ∧ Hid (Mg X Y wr w.heap.size w.heap.size k) ∧ Hid (RowKit.Below w.heap.size w wr) ∧ Hid (oks X Y k)) (fun kv _ => n - (intOf kv).toNat)
  case atStart => exact ⟨0, by omega, rfl, HM0.out, HB0.out, fun i hi => absurd hi (by omega)⟩
  case round =>
    obtain ⟨k, hk, rfl, hM, hB, hO⟩ := hrel
    clear HM0 HB0
    by_cases hkn : k < n
    · obtain ⟨g, o, rfl, hg, hc⟩ := HP.out (by omega)
      obtain ⟨c0, c1⟩ := hc k hkn
      have c0 := (hB.out.cell (p := ⟨g, o + k * 2, none⟩) hg).trans c0
      have c1 := (hB.out.cell (p := ⟨g, o + k * 2 + 1, none⟩) hg).trans c1
      have hkI : (k : Int) < (n : Int) := by omega
      clear hc
      have hU := upto2 (X k) (Y k) (wr.heap.size + 1) 2 ((wr.alloc (.cells #[.int .i64 (X k), .int .i64 (Y k)] 46)).alloc (.cells #[.int .i64 (X k), .int .i64 (Y k)] 2)) (by simp) (by simp)
      have K1 := Lib.hid (Kx.new wr 46 #[.int .i64 (X k), .int .i64 (Y k)])
      have HU := Lib.hid hU
      clear hU
      by_cases hs : sp (X k) = true ∧ sp (Y k) = true
      · have HS : Hid ((sp (X k) && sp (Y k)) = true) := by show _ = _; rw [hs.1, hs.2]; rfl
        have HO1 : Hid (oks X Y (k + 1)) := by
          intro i hi
          rcases Nat.lt_or_ge i k with h' | h'
          · exact hO.out i h'
          · obtain rfl : i = k := by omega
            exact hs
        clear hs hO
        go_wp2_with fail
        refine HU.out.mono ?_
        rw [HS.out]
        rintro e w3 ⟨rfl, b3⟩
        have K3 := Lib.hid ((K1.out.alloc (.cells #[.int .i64 (X k), .int .i64 (Y k)] 2)).keep b3)
        clear b3 HU HS K1 c0 c1
        have d0 := K3.out.cell 0 rfl
        have d1 := K3.out.cell 1 rfl
        go_wp2_with fail
        refine (square_any (X k) (Y k) _).mono ?_
        rintro e w4 ⟨rfl, b4⟩
        have K4 := Lib.hid (K3.out.keep b4)
        clear b4 K3 d0 d1
        have K5 := Lib.hid ((K4.out.alloc (.cells #[.int .i64 (sqv (X k)), .int .i64 (sqv (Y k))] 63)).alloc (.cells #[.int .i64 (k : Int), .int .i64 (X k), .int .i64 (Y k)] 58))
        have HB5 : Hid (w.heap.size + 1 ≤ w4.heap.size) := by
          show _ ≤ _
          have h1 := hM.out.data
          obtain ⟨es, clock, f, hm, -⟩ := h1
          have := (Array.getElem?_eq_some_iff.1 hm).1
          have := K4.out.below.size
          omega
        have e0 := (K4.out.alloc (.cells #[.int .i64 (sqv (X k)), .int .i64 (sqv (Y k))] 63)).cell 0 rfl
        have e1 := (K4.out.alloc (.cells #[.int .i64 (sqv (X k)), .int .i64 (sqv (Y k))] 63)).cell 1 rfl
        obtain ⟨v0, st, w5, hrun, hg1, hs1, hr0, hst⟩ := (hM.out.keep X Y K5.out.below).step X Y
        have HRun := Lib.hid hrun
        have HG1 := Lib.hid hg1
        have HS1 := Lib.hid hs1
        have HR0 := Lib.hid hr0
        have HST := Lib.hid hst
        clear hrun hg1 hs1 hr0 hst
        unfold pk at HRun
        have HS5 : Hid (w5.heap.size = w4.heap.size + 2) := by show _ = _; rw [HS1.out]; simp
        have HEs : Hid (Es X Y w5 (some ⟨w4.heap.size + 1, 0, none⟩) [k]) := by
          intro _
          refine ⟨w4.heap.size + 1, 0, rfl, by rw [HS5.out]; omega, fun j u hj => ?_⟩
          have hq : ((w4.alloc (.cells #[.int .i64 (sqv (X k)), .int .i64 (sqv (Y k))] 63)).alloc (.cells #[.int .i64 (k : Int), .int .i64 (X k), .int .i64 (Y k)] 58)).cell? ⟨w4.heap.size + 1, 0 + j, none⟩ = some u := by
            rw [Nat.zero_add]
            have := cell_new (w4.alloc (.cells #[.int .i64 (sqv (X k)), .int .i64 (sqv (Y k))] 63)) #[.int .i64 (k : Int), .int .i64 (X k), .int .i64 (Y k)] 58 j
            rw [size_alloc] at this
            rw [this, ← hj]
            simp [ens]
          have hbase := K5.out.below.size
          have hmw : w.heap.size ≠ w4.heap.size + 1 := by
            have := HB5.out
            omega
          exact HG1.out.cell hq (by simpa using fun e => hmw e.symm)
        have HLen : Hid ((grp X Y k (sqv (X k)) (sqv (Y k))).length + 1 ≤ 1000000) := by
          have := grp_len X Y k (sqv (X k)) (sqv (Y k))
          show _ ≤ _
          omega
        have HBase : Hid (w.heap.size ≤ w5.heap.size) := by show _ ≤ _; have := HB5.out; have := HS5.out; omega
        clear HG1 HS1 HS5 HB5 K4
        generalize sqv (X k) = sa at *
        generalize sqv (Y k) = sb at *
        go_wp2_with (first
          | (refine wpList_mapEntry HRun.out rfl rfl rfl rfl ?_)
          | (at_builtin; refine append_ents X Y rfl (.tmp 33) (.tmp 37) rfl w.heap.size _ [k] 1 1 _ _ w5 rfl HR0.out rfl rfl HEs.out (by simp) HLen.out HBase.out ?_; intro v1 w6 hr1 hE1; obtain ⟨w7, hrun2, hM3, hB3⟩ := HST.out v1 w6 hr1 hE1; (have HRun2 := Lib.hid hrun2); (have HM7 := Lib.hid hM3); (have HB7 := Lib.hid hB3); clear hr1 hE1 hrun2 hM3 hB3)
          | (have _t := HRun2; (refine wpList_entryStore HRun2.out rfl rfl ?_ ?_ ?_ ?_); (· rfl); (· rfl); (· rfl)))
        go_roundw
        case rel => exact ⟨k + 1, by omega, by go_num, HM7.out, (hB.out.trans (K5.out.below.mono hB.out.size)).trans HB7.out, HO1.out⟩
        case measure => simp [intOf]; omega
      · have HS : Hid ((sp (X k) && sp (Y k)) = false) := by
          show _ = _
          cases h1 : sp (X k) <;> cases h2 : sp (Y k) <;> simp_all
        have HO1 : Hid (¬ oks X Y n) := fun h => hs (h k hkn)
        clear hs hO
        go_wp2_with fail
        refine HU.out.mono ?_
        rw [HS.out]
        rintro e w3 ⟨rfl, b3⟩
        have K3 := Lib.hid ((K1.out.alloc (.cells #[.int .i64 (X k), .int .i64 (Y k)] 2)).keep b3)
        clear b3 HU HS K1 c0 c1
        go_wp2
        go_ret2
        exact ⟨hB.out.trans (K3.out.below.mono hB.out.size), .inr ⟨HO1.out, rfl⟩⟩
    · obtain rfl : k = n := by omega
      have hkI : ¬ (k : Int) < (k : Int) := by omega
      go_wp2
      go_ret2
      have hb := below_box (w := wr) (.cells #[.map (some w.heap.size)] 56)
      exact ⟨hB.out.trans (hb.mono hB.out.size), .inl ⟨hO.out, wr.heap.size, rfl, (hM.out.keep X Y hb).ixK X Y hB.out.size (by simp)⟩⟩
end
end Go.Proofs.Ytkghjaodnkjmoaa
