/- Contracts of the heap: rises. -/
import Derived.Test.YtcipedijjemghaaDoorRh1
import Derived.Test.YtcipedijjemghaaDoorTak10
import Derived.BigQuiet
namespace Go.Proofs.YtcipedijjemghaaDoor
open Go.RowKit Go.Sort Go.Shelf
set_option linter.unusedVariables false
set_option linter.unusedSimpArgs false
attribute [local go_sem] Oper.semAt_some

theorem re13 {f : FuncId} {args : Array Value} {V : World} {v : Value} (h : ∀ u, Calls Tryd.prog f args u (Ret v u)) : ∀ d os, Calls Tryd.prog f args (grow (redrawn V d) os) fun e w'' => e = .returned v ∧ ∃ p : Regrown, w'' = grow (redrawn V p.d) p.os :=
  fun d os => Calls.regrown_of (h _)
/-- Of two visits' block, both are written. -/
theorem Rv.swap {w : World} {base g n cap : Nat} {l : List (Int × Int)} (h : Rv w base (.slice (some ⟨g, 0, none⟩) n cap) l) {i j : Nat} (hi : i < l.length) (hj : j < l.length) :
    Rv ((((w.setCell ⟨g, i * 2, none⟩ (.int .i64 (at13 l j).1)).setCell ⟨g, i * 2 + 1, none⟩ (.int .i64 (at13 l j).2)).setCell ⟨g, j * 2, none⟩ (.int .i64 (at13 l i).1)).setCell ⟨g, j * 2 + 1, none⟩ (.int .i64 (at13 l i).2)) base (.slice (some ⟨g, 0, none⟩) n cap) (sw l i j) := by
  have h1 := (h.set hi (at13 l j).1 (at13 l j).2).set (i := j) (by simpa using hj) (at13 l i).1 (at13 l i).2
  exact h1
theorem grown_set (W : World) (b i : Nat) (v : Value) : W.grownBy (W.setCell ⟨b, i, none⟩ v) (some b) :=
  ⟨rfl, rfl, rfl, by simp, fun k _ hk => heap_setCell_other _ _ _ _ (fun e => hk (by rw [e]))⟩
theorem grown_four (W : World) (b i j k l : Nat) (v x y z : Value) : W.grownBy ((((W.setCell ⟨b, i, none⟩ v).setCell ⟨b, j, none⟩ x).setCell ⟨b, k, none⟩ y).setCell ⟨b, l, none⟩ z) (some b) :=
  grownBy_trans (grownBy_trans (grownBy_trans (grown_set _ _ _ _) (grown_set _ _ _ _) (fun r e => .inr e)) (grown_set _ _ _ _) (fun r e => .inr e)) (grown_set _ _ _ _) (fun r e => .inr e)

/-- rises comes back. -/
def RetRi (base hb : Nat) (v : Value) (l : List (Int × Int)) (k a : Nat) (w : World) (e : Ending) (w' : World) : Prop :=
  e = .returned (.bool (decide (ky l k < ky l a))) ∧ Hp w' base hb v (if ky l k < ky l a then sw l k a else l) ∧ w.grownBy w' v.ownBlock

set_option maxHeartbeats 4000000 in
theorem rises13_any (base hb : Nat) (v : Value) (l : List (Int × Int)) (k a : Nat) (w : World) (hH : Hp w base hb v l) (hk : k < l.length) (ha : a < l.length) (hka : k ≠ a) :
    Calls Tryd.prog 51 #[.pointer (some ⟨hb, 0, none⟩), .int .i64 (k : Int), .int .i64 (a : Int)] w (RetRi base hb v l k a w) := by
  obtain ⟨g, cap, cur, rfl, q1, q2, q3, q4, q5, q6, q7⟩ := hH.row.big (by omega)
  have hl := hH.len
  unfold maxLen at q2
  have HC := Lib.hid (re13 (V := w) (fun u => less13_any (at13 l k).1 (at13 l k).2 (at13 l a).1 (at13 l a).2 u))
  obtain ⟨ck0, ck1, fk0, fk1⟩ := hH.row.cells hk
  obtain ⟨ca0, ca1, fa0, fa1⟩ := hH.row.cells ha
  have ch0 := hH.c0
  have ch1 := hH.c1
  have HH := Lib.hid hH
  have hkI : (k : Int) < (l.length : Int) := by omega
  have haI : (a : Int) < (l.length : Int) := by omega
  have hlI : (l.length : Int) ≤ 5000000000 := by omega
  have k0 := cell_regrown ck0
  have k1 := cell_regrown ck1
  have k2 := cell_regrown ca0
  have k3 := cell_regrown ca1
  have k4 := cell_regrown ch0
  have k5 := cell_regrown ch1
  have EK : Hid (ky l k = (at13 l k).2) := rfl
  have EA : Hid (ky l a = (at13 l a).2) := rfl
  unfold vfn at k5
  clear hH q5 q6 q7 q3 ck0 ck1 ca0 ca1 ch0 ch1 fk0 fk1 fa0 fa1
  obtain ⟨kc0, ekc⟩ : ∃ z, (at13 l k).1 = z := ⟨_, rfl⟩
  obtain ⟨kx, ekx⟩ : ∃ z, (at13 l k).2 = z := ⟨_, rfl⟩
  obtain ⟨ac0, eac⟩ : ∃ z, (at13 l a).1 = z := ⟨_, rfl⟩
  obtain ⟨ax, eax⟩ : ∃ z, (at13 l a).2 = z := ⟨_, rfl⟩
  rw [ekc, ekx, eac, eax] at HC
  rw [ekc] at k0
  rw [ekx] at k1 EK
  rw [eac] at k2
  rw [eax] at k3 EA
  have HE1 := Lib.hid (And.intro ekc (And.intro ekx (And.intro eac eax)))
  clear ekc ekx eac eax
  go_enter Tryd.func51, Tryd.ntmps51
  go_wp2
  refine wp_region_quiet_below (by kernel_rfl) (by kernel_rfl) ?_
  repeat (go_big_quiet_step (with_reducible exact HC.out _ _))
  refine wpQuiet_nil ?_
  intro _ hw'
  obtain ⟨⟨dq, osq⟩, hw''⟩ := hw'
  subst hw''
  have hb3 := Lib.hid (below_regrown w dq osq)
  have H3 := Lib.hid (HH.out.keep hb3.out)
  clear k0 k1 k2 k3 k4 k5 HC
  generalize Go.Sort.grow (redrawn w dq) osq = w3 at *
  have HT0 : Hid (∀ d, decide (kx < ax) = d → decide (ky l k < ky l a) = d) := by
    intro d hd; rw [EK.out, EA.out]; exact hd
  clear EK EA
  cases hd : decide (kx < ax) with
  | true =>
    have HT : Hid (decide (ky l k < ky l a) = true) := HT0.out _ hd
    clear HT0 hd
    go_wp2_with fail
    have H4 : Hid (Hp w3.drew base hb (.slice (some ⟨g, 0, none⟩) l.length cap) l) := H3.out.keep (Below.refl _ _).drew
    have G4 : Hid (w.grownBy w3.drew (some g)) := below_grownBy (hb3.out.trans (((Below.refl _ _).drew).mono hb3.out.size))
    refine wp_regionT (m := 25) (R := fun w' : World => w'.cell? ⟨hb, 0, none⟩ = some (.slice (some ⟨g, 0, none⟩) l.length cap)) (B := fun w' : World => w'.cell? ⟨g, k * 2, none⟩ = some (.int .i64 kc0) ∧ w'.cell? ⟨g, k * 2 + 1, none⟩ = some (.int .i64 kx) ∧ w'.cell? ⟨g, a * 2, none⟩ = some (.int .i64 ac0) ∧ w'.cell? ⟨g, a * 2 + 1, none⟩ = some (.int .i64 ax)) (by kernel_rfl) ?_
    generalize w3.drew = w4 at *
    obtain ⟨e1, e2, e3, e4⟩ := HE1.out
    obtain ⟨ck0, ck1, fk0, fk1⟩ := H4.out.row.cells hk
    obtain ⟨ca0, ca1, fa0, fa1⟩ := H4.out.row.cells ha
    rw [e1] at ck0
    rw [e2] at ck1
    rw [e3] at ca0
    rw [e4] at ca1
    have HR : Hid ((fun w' : World => w'.cell? ⟨hb, 0, none⟩ = some (.slice (some ⟨g, 0, none⟩) l.length cap)) w4) := H4.out.c0
    have HBB : Hid ((fun w' : World => w'.cell? ⟨g, k * 2, none⟩ = some (.int .i64 kc0) ∧ w'.cell? ⟨g, k * 2 + 1, none⟩ = some (.int .i64 kx) ∧ w'.cell? ⟨g, a * 2, none⟩ = some (.int .i64 ac0) ∧ w'.cell? ⟨g, a * 2 + 1, none⟩ = some (.int .i64 ax)) w4) := ⟨ck0, ck1, ca0, ca1⟩
    have HS := Lib.hid (And.intro HR.out HBB.out)
    have HF := Lib.hid (And.intro (And.intro fk0 fk1) (And.intro fa0 fa1))
    have HSW := Lib.hid (H4.out.row.swap hk ha)
    rw [e1, e2, e3, e4] at HSW
    have hne : hb ≠ g := fun e => H4.out.not_row (by rw [e]; rfl)
    have HBK := Lib.hid H4.out.blk
    clear ck0 ck1 ca0 ca1 fk0 fk1 fa0 fa1 e1 e2 e3 e4 H3 hb3 HH
    simp only [List.size_toArray, List.length_cons, List.length_nil, Nat.reduceAdd, Array.replicate_succ, Array.replicate_zero, List.push_toArray, List.nil_append, List.cons_append]
    refine wpAnyT_take (i := 0) (v := ?_) rfl (by kernel_rfl) (by kernel_rfl) (by kernel_rfl) (by kernel_rfl) (by kernel_rfl) (by kernel_rfl) (fun _ _ _ h => h) (Or.inl ⟨by rfl, ?_⟩) HS.out ?_
    rotate_left
    · rintro w' ⟨hr0, hb0, hb1, hb2, hb3⟩
      go_simp
      with_reducible rfl
    simp only [Act.put, List.getElem_toArray, List.getElem_cons_zero, List.getElem_cons_succ, List.setIfInBounds_toArray, List.set_cons_zero, List.set_cons_succ]
    refine wpAnyT_take (i := 1) (v := ?_) rfl (by kernel_rfl) (by kernel_rfl) (by kernel_rfl) (by kernel_rfl) (by kernel_rfl) (by kernel_rfl) (fun _ _ _ h => h) (Or.inl ⟨by rfl, ?_⟩) HS.out ?_
    rotate_left
    · rintro w' ⟨hr0, hb0, hb1, hb2, hb3⟩
      go_simp
      with_reducible rfl
    simp only [Act.put, List.getElem_toArray, List.getElem_cons_zero, List.getElem_cons_succ, List.setIfInBounds_toArray, List.set_cons_zero, List.set_cons_succ]
    refine wpAnyT_take (i := 2) (v := ?_) rfl (by kernel_rfl) (by kernel_rfl) (by kernel_rfl) (by kernel_rfl) (by kernel_rfl) (by kernel_rfl) (fun _ _ _ h => h) (Or.inl ⟨by rfl, ?_⟩) HS.out ?_
    rotate_left
    · rintro w' ⟨hr0, hb0, hb1, hb2, hb3⟩
      go_simp
      with_reducible rfl
    simp only [Act.put, List.getElem_toArray, List.getElem_cons_zero, List.getElem_cons_succ, List.setIfInBounds_toArray, List.set_cons_zero, List.set_cons_succ]
    refine wpAnyT_take (i := 3) (v := ?_) rfl (by kernel_rfl) (by kernel_rfl) (by kernel_rfl) (by kernel_rfl) (by kernel_rfl) (by kernel_rfl) (fun _ _ _ h => h) (Or.inl ⟨by rfl, ?_⟩) HS.out ?_
    rotate_left
    · rintro w' ⟨hr0, hb0, hb1, hb2, hb3⟩
      go_simp
      with_reducible rfl
    simp only [Act.put, List.getElem_toArray, List.getElem_cons_zero, List.getElem_cons_succ, List.setIfInBounds_toArray, List.set_cons_zero, List.set_cons_succ]
    refine wpAnyT_take (i := 4) (v := ?_) rfl (by kernel_rfl) (by kernel_rfl) (by kernel_rfl) (by kernel_rfl) (by kernel_rfl) (by kernel_rfl) (fun _ _ _ h => h) (Or.inl ⟨by rfl, ?_⟩) HS.out ?_
    rotate_left
    · rintro w' ⟨hr0, hb0, hb1, hb2, hb3⟩
      go_simp
      with_reducible rfl
    simp only [Act.put, List.getElem_toArray, List.getElem_cons_zero, List.getElem_cons_succ, List.setIfInBounds_toArray, List.set_cons_zero, List.set_cons_succ]
    refine wpAnyT_take (i := 5) (v := ?_) rfl (by kernel_rfl) (by kernel_rfl) (by kernel_rfl) (by kernel_rfl) (by kernel_rfl) (by kernel_rfl) (fun _ _ _ h => h) (Or.inl ⟨by rfl, ?_⟩) HS.out ?_
    rotate_left
    · rintro w' ⟨hr0, hb0, hb1, hb2, hb3⟩
      go_simp
      with_reducible rfl
    simp only [Act.put, List.getElem_toArray, List.getElem_cons_zero, List.getElem_cons_succ, List.setIfInBounds_toArray, List.set_cons_zero, List.set_cons_succ]
    refine wpAnyT_take (i := 6) (v := ?_) rfl (by kernel_rfl) (by kernel_rfl) (by kernel_rfl) (by kernel_rfl) (by kernel_rfl) (by kernel_rfl) (fun _ _ _ h => h) (Or.inl ⟨by rfl, ?_⟩) HS.out ?_
    rotate_left
    · rintro w' ⟨hr0, hb0, hb1, hb2, hb3⟩
      go_simp
      with_reducible rfl
    simp only [Act.put, List.getElem_toArray, List.getElem_cons_zero, List.getElem_cons_succ, List.setIfInBounds_toArray, List.set_cons_zero, List.set_cons_succ]
    refine wpAnyT_take (i := 7) (v := ?_) rfl (by kernel_rfl) (by kernel_rfl) (by kernel_rfl) (by kernel_rfl) (by kernel_rfl) (by kernel_rfl) (fun _ _ _ h => h) (Or.inl ⟨by rfl, ?_⟩) HS.out ?_
    rotate_left
    · rintro w' ⟨hr0, hb0, hb1, hb2, hb3⟩
      go_simp
      with_reducible rfl
    simp only [Act.put, List.getElem_toArray, List.getElem_cons_zero, List.getElem_cons_succ, List.setIfInBounds_toArray, List.set_cons_zero, List.set_cons_succ]
    refine wpAnyT_take (i := 8) (v := ?_) rfl (by kernel_rfl) (by kernel_rfl) (by kernel_rfl) (by kernel_rfl) (by kernel_rfl) (by kernel_rfl) (fun _ _ _ h => h) (Or.inl ⟨by rfl, ?_⟩) HS.out ?_
    rotate_left
    · rintro w' ⟨hr0, hb0, hb1, hb2, hb3⟩
      go_simp
      with_reducible rfl
    simp only [Act.put, List.getElem_toArray, List.getElem_cons_zero, List.getElem_cons_succ, List.setIfInBounds_toArray, List.set_cons_zero, List.set_cons_succ]
    refine wpAnyT_takeR (i := 9) (v := ?_) rfl (by kernel_rfl) (by kernel_rfl) (by kernel_rfl) (by kernel_rfl) (by kernel_rfl) (fun _ _ _ h => h) (Or.inl ⟨by rfl, ?_⟩) HR.out HBB.out ?_
    rotate_left
    · rintro w' hr0
      go_simp
      with_reducible rfl
    simp only [Act.put, List.getElem_toArray, List.getElem_cons_zero, List.getElem_cons_succ, List.setIfInBounds_toArray, List.set_cons_zero, List.set_cons_succ]
    refine wpAnyT_take (i := 10) (v := ?_) rfl (by kernel_rfl) (by kernel_rfl) (by kernel_rfl) (by kernel_rfl) (by kernel_rfl) (by kernel_rfl) (fun _ _ _ h => h) (Or.inl ⟨by rfl, ?_⟩) HS.out ?_
    rotate_left
    · rintro w' ⟨hr0, hb0, hb1, hb2, hb3⟩
      go_simp
      with_reducible rfl
    simp only [Act.put, List.getElem_toArray, List.getElem_cons_zero, List.getElem_cons_succ, List.setIfInBounds_toArray, List.set_cons_zero, List.set_cons_succ]
    refine wpAnyT_take (i := 11) (v := ?_) rfl (by kernel_rfl) (by kernel_rfl) (by kernel_rfl) (by kernel_rfl) (by kernel_rfl) (by kernel_rfl) (fun _ _ _ h => h) (Or.inl ⟨by rfl, ?_⟩) HS.out ?_
    rotate_left
    · rintro w' ⟨hr0, hb0, hb1, hb2, hb3⟩
      go_simp
      with_reducible rfl
    simp only [Act.put, List.getElem_toArray, List.getElem_cons_zero, List.getElem_cons_succ, List.setIfInBounds_toArray, List.set_cons_zero, List.set_cons_succ]
    refine wpAnyT_take (i := 12) (v := ?_) rfl (by kernel_rfl) (by kernel_rfl) (by kernel_rfl) (by kernel_rfl) (by kernel_rfl) (by kernel_rfl) (fun _ _ _ h => h) (Or.inl ⟨by rfl, ?_⟩) HS.out ?_
    rotate_left
    · rintro w' ⟨hr0, hb0, hb1, hb2, hb3⟩
      go_simp
      with_reducible rfl
    simp only [Act.put, List.getElem_toArray, List.getElem_cons_zero, List.getElem_cons_succ, List.setIfInBounds_toArray, List.set_cons_zero, List.set_cons_succ]
    refine wpAnyT_take (i := 13) (v := ?_) rfl (by kernel_rfl) (by kernel_rfl) (by kernel_rfl) (by kernel_rfl) (by kernel_rfl) (by kernel_rfl) (fun _ _ _ h => h) (Or.inl ⟨by rfl, ?_⟩) HS.out ?_
    rotate_left
    · rintro w' ⟨hr0, hb0, hb1, hb2, hb3⟩
      go_simp
      with_reducible rfl
    simp only [Act.put, List.getElem_toArray, List.getElem_cons_zero, List.getElem_cons_succ, List.setIfInBounds_toArray, List.set_cons_zero, List.set_cons_succ]
    refine wpAnyT_take (i := 14) (v := ?_) rfl (by kernel_rfl) (by kernel_rfl) (by kernel_rfl) (by kernel_rfl) (by kernel_rfl) (by kernel_rfl) (fun _ _ _ h => h) (Or.inl ⟨by rfl, ?_⟩) HS.out ?_
    rotate_left
    · rintro w' ⟨hr0, hb0, hb1, hb2, hb3⟩
      go_simp
      with_reducible rfl
    simp only [Act.put, List.getElem_toArray, List.getElem_cons_zero, List.getElem_cons_succ, List.setIfInBounds_toArray, List.set_cons_zero, List.set_cons_succ]
    refine wpAnyT_take (i := 15) (v := ?_) rfl (by kernel_rfl) (by kernel_rfl) (by kernel_rfl) (by kernel_rfl) (by kernel_rfl) (by kernel_rfl) (fun _ _ _ h => h) (Or.inl ⟨by rfl, ?_⟩) HS.out ?_
    rotate_left
    · rintro w' ⟨hr0, hb0, hb1, hb2, hb3⟩
      go_simp
      with_reducible rfl
    simp only [Act.put, List.getElem_toArray, List.getElem_cons_zero, List.getElem_cons_succ, List.setIfInBounds_toArray, List.set_cons_zero, List.set_cons_succ]
    refine wpAnyT_take (i := 16) (v := ?_) rfl (by kernel_rfl) (by kernel_rfl) (by kernel_rfl) (by kernel_rfl) (by kernel_rfl) (by kernel_rfl) (fun _ _ _ h => h) (Or.inl ⟨by rfl, ?_⟩) HS.out ?_
    rotate_left
    · rintro w' ⟨hr0, hb0, hb1, hb2, hb3⟩
      go_simp
      with_reducible rfl
    simp only [Act.put, List.getElem_toArray, List.getElem_cons_zero, List.getElem_cons_succ, List.setIfInBounds_toArray, List.set_cons_zero, List.set_cons_succ]
    refine wpAnyT_take (i := 17) (v := ?_) rfl (by kernel_rfl) (by kernel_rfl) (by kernel_rfl) (by kernel_rfl) (by kernel_rfl) (by kernel_rfl) (fun _ _ _ h => h) (Or.inl ⟨by rfl, ?_⟩) HS.out ?_
    rotate_left
    · rintro w' ⟨hr0, hb0, hb1, hb2, hb3⟩
      go_simp
      with_reducible rfl
    simp only [Act.put, List.getElem_toArray, List.getElem_cons_zero, List.getElem_cons_succ, List.setIfInBounds_toArray, List.set_cons_zero, List.set_cons_succ]
    refine wpAnyT_take (i := 18) (v := ?_) rfl (by kernel_rfl) (by kernel_rfl) (by kernel_rfl) (by kernel_rfl) (by kernel_rfl) (by kernel_rfl) (fun _ _ _ h => h) (Or.inl ⟨by rfl, ?_⟩) HS.out ?_
    rotate_left
    · rintro w' ⟨hr0, hb0, hb1, hb2, hb3⟩
      go_simp
      with_reducible rfl
    simp only [Act.put, List.getElem_toArray, List.getElem_cons_zero, List.getElem_cons_succ, List.setIfInBounds_toArray, List.set_cons_zero, List.set_cons_succ]
    refine wpAnyT_take (i := 19) (v := ?_) rfl (by kernel_rfl) (by kernel_rfl) (by kernel_rfl) (by kernel_rfl) (by kernel_rfl) (by kernel_rfl) (fun _ _ _ h => h) (Or.inl ⟨by rfl, ?_⟩) HS.out ?_
    rotate_left
    · rintro w' ⟨hr0, hb0, hb1, hb2, hb3⟩
      go_simp
      with_reducible rfl
    simp only [Act.put, List.getElem_toArray, List.getElem_cons_zero, List.getElem_cons_succ, List.setIfInBounds_toArray, List.set_cons_zero, List.set_cons_succ]
    refine wpAnyT_take (i := 20) (v := ?_) rfl (by kernel_rfl) (by kernel_rfl) (by kernel_rfl) (by kernel_rfl) (by kernel_rfl) (by kernel_rfl) (fun _ _ _ h => h) (Or.inl ⟨by rfl, ?_⟩) HS.out ?_
    rotate_left
    · rintro w' ⟨hr0, hb0, hb1, hb2, hb3⟩
      go_simp
      with_reducible rfl
    simp only [Act.put, List.getElem_toArray, List.getElem_cons_zero, List.getElem_cons_succ, List.setIfInBounds_toArray, List.set_cons_zero, List.set_cons_succ]
    refine wpAnyT_take (i := 21) (v := ?_) rfl (by kernel_rfl) (by kernel_rfl) (by kernel_rfl) (by kernel_rfl) (by kernel_rfl) (by kernel_rfl) (fun _ _ _ h => h) (Or.inl ⟨by rfl, ?_⟩) HS.out ?_
    rotate_left
    · rintro w' ⟨hr0, hb0, hb1, hb2, hb3⟩
      go_simp
      with_reducible rfl
    simp only [Act.put, List.getElem_toArray, List.getElem_cons_zero, List.getElem_cons_succ, List.setIfInBounds_toArray, List.set_cons_zero, List.set_cons_succ]
    refine wpAnyT_take (i := 22) (v := ?_) rfl (by kernel_rfl) (by kernel_rfl) (by kernel_rfl) (by kernel_rfl) (by kernel_rfl) (by kernel_rfl) (fun _ _ _ h => h) (Or.inl ⟨by rfl, ?_⟩) HS.out ?_
    rotate_left
    · rintro w' ⟨hr0, hb0, hb1, hb2, hb3⟩
      go_simp
      with_reducible rfl
    simp only [Act.put, List.getElem_toArray, List.getElem_cons_zero, List.getElem_cons_succ, List.setIfInBounds_toArray, List.set_cons_zero, List.set_cons_succ]
    refine wpAnyT_take (i := 23) (v := ?_) rfl (by kernel_rfl) (by kernel_rfl) (by kernel_rfl) (by kernel_rfl) (by kernel_rfl) (by kernel_rfl) (fun _ _ _ h => h) (Or.inl ⟨by rfl, ?_⟩) HS.out ?_
    rotate_left
    · rintro w' ⟨hr0, hb0, hb1, hb2, hb3⟩
      go_simp
      with_reducible rfl
    simp only [Act.put, List.getElem_toArray, List.getElem_cons_zero, List.getElem_cons_succ, List.setIfInBounds_toArray, List.set_cons_zero, List.set_cons_succ]
    refine wpAnyT_one (i := 24) (by kernel_rfl) rfl (fun K' hK => ?_)
    rw [if_pos (by rfl)]
    simp only [List.getElem_toArray, List.getElem_cons_zero, List.getElem_cons_succ, List.setIfInBounds_toArray, List.set_cons_zero, List.set_cons_succ] at hK ⊢
    have HK' := Lib.hid hK
    clear hK
    go_simp
    refine HK'.out _ _ HR.out (fun _ => HBB.out) ?_
    clear HK'
    refine wpAnyT_one (i := 25) (by kernel_rfl) rfl (fun K' hK => ?_)
    rw [if_pos (by rfl)]
    simp only [List.getElem_toArray, List.getElem_cons_zero, List.getElem_cons_succ, List.setIfInBounds_toArray, List.set_cons_zero, List.set_cons_succ] at hK ⊢
    have HK' := Lib.hid hK
    clear hK
    obtain ⟨⟨fk0, fk1⟩, fa0, fa1⟩ := HF.out
    obtain ⟨b0, b1, b2, b3⟩ := HBB.out
    go_simp
    have HR5 : Hid ((fun w' : World => w'.cell? ⟨hb, 0, none⟩ = some (.slice (some ⟨g, 0, none⟩) l.length cap)) ((w4.setCell ⟨g, k * 2, none⟩ (.int .i64 ac0)).setCell ⟨g, k * 2 + 1, none⟩ (.int .i64 ax))) := cell_far (cell_far HR.out (.inl (Ne.symm hne))) (.inl (Ne.symm hne))
    refine HK'.out _ _ HR5.out (fun hh => absurd hh (by decide)) ?_
    clear HK' fk0 fk1 fa0 fa1 b0 b1 b2 b3 HS HR HBB HF
    have HFA : Hid (((w4.setCell ⟨g, k * 2, none⟩ (.int .i64 ac0)).setCell ⟨g, k * 2 + 1, none⟩ (.int .i64 ax)).cell? ⟨g, a * 2, none⟩ = some (.int .i64 ac0) ∧ ((w4.setCell ⟨g, k * 2, none⟩ (.int .i64 ac0)).setCell ⟨g, k * 2 + 1, none⟩ (.int .i64 ax)).cell? ⟨g, a * 2 + 1, none⟩ = some (.int .i64 ax) ∧ ((w4.setCell ⟨g, k * 2, none⟩ (.int .i64 ac0)).setCell ⟨g, k * 2 + 1, none⟩ (.int .i64 ax)).frozen? ⟨g, a * 2, none⟩ = false ∧ ((w4.setCell ⟨g, k * 2, none⟩ (.int .i64 ac0)).setCell ⟨g, k * 2 + 1, none⟩ (.int .i64 ax)).frozen? ⟨g, a * 2 + 1, none⟩ = false) := by
      have q := (H4.out.row.set hk ac0 ax).cells (i := a) (by simpa using ha)
      rw [at13_set _ _ _ _ hk, if_neg (Ne.symm hka)] at q
      obtain ⟨_, _, e3, e4⟩ := HE1.out
      rw [e3, e4] at q
      exact q
    have G5 := Lib.hid (grownBy_trans G4.out (grown_four w4 g (k * 2) (k * 2 + 1) (a * 2) (a * 2 + 1) (.int .i64 ac0) (.int .i64 ax) (.int .i64 kc0) (.int .i64 kx)) (fun r e => .inr e))
    have BK5 : Hid (((((w4.setCell ⟨g, k * 2, none⟩ (.int .i64 ac0)).setCell ⟨g, k * 2 + 1, none⟩ (.int .i64 ax)).setCell ⟨g, a * 2, none⟩ (.int .i64 kc0)).setCell ⟨g, a * 2 + 1, none⟩ (.int .i64 kx)).heap[hb]? = some (.cells #[.slice (some ⟨g, 0, none⟩) l.length cap, vfn] 93 (0, 0))) :=
      ((grown_four w4 g (k * 2) (k * 2 + 1) (a * 2) (a * 2 + 1) (.int .i64 ac0) (.int .i64 ax) (.int .i64 kc0) (.int .i64 kx)).block hb H4.out.lt (by simpa using hne)).trans HBK.out
    have HD : Hid (Hp ((((w4.setCell ⟨g, k * 2, none⟩ (.int .i64 ac0)).setCell ⟨g, k * 2 + 1, none⟩ (.int .i64 ax)).setCell ⟨g, a * 2, none⟩ (.int .i64 kc0)).setCell ⟨g, a * 2 + 1, none⟩ (.int .i64 kx)) base hb (.slice (some ⟨g, 0, none⟩) l.length cap) (sw l k a)) := ⟨H4.out.ge, BK5.out, by have := HSW.out; unfold Rv at this ⊢; exact this, by rw [sw_len]; exact H4.out.len⟩
    clear BK5 HSW HBK H4 G4
    generalize hV : (w4.setCell ⟨g, k * 2, none⟩ (.int .i64 ac0)).setCell ⟨g, k * 2 + 1, none⟩ (.int .i64 ax) = V at *
    clear hV
    refine wpAnyT_one (i := 26) (by kernel_rfl) rfl (fun K' hK => ?_)
    rw [if_pos (by rfl)]
    simp only [List.getElem_toArray, List.getElem_cons_zero, List.getElem_cons_succ, List.setIfInBounds_toArray, List.set_cons_zero, List.set_cons_succ] at hK ⊢
    have HK' := Lib.hid hK
    clear hK
    go_simp
    refine HK'.out _ _ HR5.out (fun hh => absurd hh (by decide)) ?_
    clear HK'
    refine wpAnyT_one (i := 27) (by kernel_rfl) rfl (fun K' hK => ?_)
    rw [if_pos (by rfl)]
    simp only [List.getElem_toArray, List.getElem_cons_zero, List.getElem_cons_succ, List.setIfInBounds_toArray, List.set_cons_zero, List.set_cons_succ] at hK ⊢
    have HK' := Lib.hid hK
    clear hK
    obtain ⟨c0, c1, f0, f1⟩ := HFA.out
    go_simp
    have HR6 : Hid ((fun w' : World => w'.cell? ⟨hb, 0, none⟩ = some (.slice (some ⟨g, 0, none⟩) l.length cap)) ((V.setCell ⟨g, a * 2, none⟩ (.int .i64 kc0)).setCell ⟨g, a * 2 + 1, none⟩ (.int .i64 kx))) := cell_far (cell_far HR5.out (.inl (Ne.symm hne))) (.inl (Ne.symm hne))
    refine HK'.out _ _ HR6.out (fun hh => absurd hh (by decide)) ?_
    clear HK' c0 c1 f0 f1 HFA
    refine wpAnyT_done (by kernel_rfl) ?_ _
    generalize hU : (V.setCell ⟨g, a * 2, none⟩ (.int .i64 kc0)).setCell ⟨g, a * 2 + 1, none⟩ (.int .i64 kx) = U at *
    clear hU HR6 HR5
    go_wp2
    go_ret
    have hy : ky l k < ky l a := of_decide_eq_true HT.out
    refine ⟨by rw [HT.out]; rfl, ?_, G5.out⟩
    rw [if_pos hy]
    exact HD.out
  | false =>
    have HT : Hid (decide (ky l k < ky l a) = false) := HT0.out _ hd
    clear HT0 hd
    go_wp2
    go_ret
    have hn : ¬ ky l k < ky l a := of_decide_eq_false HT.out
    refine ⟨by rw [HT.out]; rfl, ?_, below_grownBy hb3.out⟩
    rw [if_neg hn]
    exact H3.out
end Go.Proofs.YtcipedijjemghaaDoor
