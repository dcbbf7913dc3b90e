/- Contracts of the reference's numbers without end, first part: digits that lie in memory; at, sizes. -/
import Derived.Test.YtckeplbmkjoiaaaDoorNum
import Derived.Test.YtckeplbmkjoiaaaDoorBMath
import Derived.Deep.QuietTactic
import Derived.BigQuiet
namespace Go.Proofs.YtckeplbmkjoiaaaDoor
open Go.RowKit
set_option linter.unusedVariables false

theorem int_back {x y : Int} (e : x = y) {k : IntKind} : Ending.returned (Value.int k x) = Ending.returned (Value.int k y) := congrArg (fun z => Ending.returned (Value.int k z)) e

/-- The digits ds lie at the address A. -/
def Row (w : World) (A : Option Addr) (ds : List Nat) : Prop :=
  0 < ds.length → ∃ g, A = some ⟨g, 0, none⟩ ∧ g < w.heap.size ∧ ∀ i, i < ds.length → w.cell? ⟨g, i, none⟩ = some (.int .i64 (dn ds i : Int))
theorem Row.keep {w w' : World} {A : Option Addr} {ds : List Nat} (h : Row w A ds) (hb : Below w.heap.size w w') : Row w' A ds := by
  intro hn
  obtain ⟨g, e, hg, hc⟩ := h hn
  exact ⟨g, e, Nat.lt_of_lt_of_le hg hb.size, fun i hi => (hb.cell (p := ⟨g, i, none⟩) hg).trans (hc i hi)⟩
theorem Row.nil {w : World} {A : Option Addr} : Row w A [] := fun h => by simp at h
theorem Row.take {w : World} {A : Option Addr} {ds : List Nat} (h : Row w A ds) (n : Nat) : Row w A (ds.take n) := by
  intro hn
  have hn' : 0 < n ∧ 0 < ds.length := by simp at hn; exact ⟨by omega, by
    rcases ds with _ | ⟨d, t⟩
    · simp at hn
    · simp⟩
  obtain ⟨g, e, hg, hc⟩ := h hn'.2
  refine ⟨g, e, hg, fun i hi => ?_⟩
  rw [List.length_take] at hi
  rw [dn_take_lt _ _ _ (by omega)]
  exact hc i (by omega)
/-- What the call has appended, as digits. -/
theorem Row.own {w : World} {base e : Nat} {v : Value} {ds : List Nat} (h : w.ownsRow base e 1 v ds.length (ds.map fun d : Nat => Value.int .i64 (d : Int))) :
    ∃ A c, v = .slice A ds.length c ∧ Row w A ds ∧ ds.length ≤ c ∧ c ≤ maxLen := by
  rcases h.2 with ⟨rfl, hn⟩ | ⟨g, cap, cur, rfl, _, hh, hnc, hcm, _, _⟩
  · rw [hn]
    exact ⟨none, 0, rfl, fun h0 => by omega, Nat.le_refl _, by simp [maxLen]⟩
  · refine ⟨_, cap, rfl, fun h0 => ⟨g, rfl, ?_, fun i hi => ?_⟩, hnc, hcm⟩
    · rcases Nat.lt_or_ge g w.heap.size with hlt | hge
      · exact hlt
      · rw [Array.getElem?_eq_none hge] at hh; cases hh
    · have := World.ownsRow.cellAt h i (by omega)
      rw [this]
      simp [dn, hi]

set_option maxHeartbeats 400000 in
theorem at_any (A : Option Addr) (c : Nat) (ds : List Nat) (i : Nat) (w : World) (h : Row w A ds) (hl : ds.length ≤ 1000000) (hi : i ≤ 1000000) :
    Calls Tryd.prog 53 #[.slice A ds.length c, .int .i64 (i : Int)] w fun e w' => e = .returned (.int .i64 (dn ds i : Int)) ∧ w = w' := by
  by_cases hlt : i < ds.length
  · obtain ⟨g, rfl, _, hc⟩ := h (by omega)
    have hci := hc i hlt
    clear hc h
    generalize dn ds i = x at *
    generalize ds.length = n at *
    go_enter Tryd.func53, Tryd.ntmps53
    go_wp2
    go_ret
    exact ⟨rfl, rfl⟩
  · rw [dn_past (by omega)]
    clear h
    generalize ds.length = n at *
    go_enter Tryd.func53, Tryd.ntmps53
    go_wp2
    go_ret
    exact ⟨rfl, rfl⟩

/-- Which of two sizes is the greater one. -/
def cmpN (a b : Nat) : Int := if a < b then -1 else if b < a then 1 else 0

set_option maxHeartbeats 400000 in
theorem sizes_any (A B : Option Addr) (ca cb : Nat) (a b : List Nat) (w : World) (ha : Row w A a) (hb : Row w B b) (hla : a.length ≤ 1000) (hlb : b.length ≤ 1000) (oa : Dok a) (ob : Dok b) :
    Calls Tryd.prog 61 #[.slice A a.length ca, .slice B b.length cb] w fun e w' => e = .returned (.int .i64 (cmpN (val a) (val b))) ∧ w = w' := by
  have HA := Lib.hid ha
  have HB := Lib.hid hb
  have OA := Lib.hid oa
  have OB := Lib.hid ob
  clear ha hb oa ob
  generalize ena : a.length = na at *
  generalize enb : b.length = nb at *
  have HNA := Lib.hid ena
  have HNB := Lib.hid enb
  clear ena enb
  go_enter Tryd.func61, Tryd.ntmps61
  go_wp2
  go_loop [5] (fun i => ∃ k : Nat, k ≤ na + nb + 1 ∧ i = .int .i64 ((k : Int) - 1) ∧ Hid (val (a.drop k) = val (b.drop k))) (fun i => (intOf i + 1).toNat)
  case atStart =>
    refine ⟨na + nb + 1, Nat.le_refl _, by go_num, ?_⟩
    show val _ = val _
    have h1 := HNA.out
    have h2 := HNB.out
    rw [List.drop_eq_nil_of_le (by omega), List.drop_eq_nil_of_le (by omega)]
  case round =>
    obtain ⟨k, hk, rfl, HD⟩ := hrel
    rcases k with _ | i
    · have HE : Hid (cmpN (val a) (val b) = 0) := by
        have h := HD.out
        simp at h
        show cmpN _ _ = _
        unfold cmpN
        rw [if_neg (by omega), if_neg (by omega)]
      have e0 : (((0 : Nat) : Int) - 1) = -1 := by omega
      rw [e0]
      clear e0
      go_wp2
      go_ret
      exact ⟨int_back HE.out.symm, rfl⟩
    · obtain ⟨s1, s2, s3⟩ := sizes_step OA.out OB.out i HD.out
      have S1 := Lib.hid s1
      have S2 := Lib.hid s2
      have S3 := Lib.hid s3
      clear s1 s2 s3
      have e1 : (((i + 1 : Nat) : Int) - 1) = (i : Int) := by omega
      rw [e1]
      clear e1
      have CA : Hid (∀ w0 : World, w0 = w → Calls Tryd.prog 53 #[.slice A na ca, .int .i64 (i : Int)] w0 fun e w' => e = .returned (.int .i64 (dn a i : Int)) ∧ w0 = w') := by
        rintro w0 rfl
        rw [← HNA.out]
        exact at_any A ca a i w0 HA.out (by rw [HNA.out]; omega) (by omega)
      have CB : Hid (∀ w0 : World, w0 = w → Calls Tryd.prog 53 #[.slice B nb cb, .int .i64 (i : Int)] w0 fun e w' => e = .returned (.int .i64 (dn b i : Int)) ∧ w0 = w') := by
        rintro w0 rfl
        rw [← HNB.out]
        exact at_any B cb b i w0 HB.out (by rw [HNB.out]; omega) (by omega)
      rcases Nat.lt_trichotomy (dn a i) (dn b i) with hc | hc | hc
      · have HE : Hid (cmpN (val a) (val b) = -1) := by
          show cmpN _ _ = _
          unfold cmpN
          rw [if_pos (S1.out hc)]
        generalize dn a i = x at *
        generalize dn b i = y at *
        go_wp2_with fail
        refine (CA.out _ rfl).mono ?_
        rintro e w' ⟨rfl, rfl⟩
        go_wp2_with fail
        refine (CB.out _ rfl).mono ?_
        rintro e w' ⟨rfl, rfl⟩
        go_wp2_with fail
        go_ret
        exact ⟨int_back HE.out.symm, rfl⟩
      · have H3 := Lib.hid (S3.out hc)
        generalize dn a i = x at *
        generalize dn b i = y at *
        obtain rfl : y = x := hc.symm
        clear S1 S2 S3
        go_wp2_with fail
        refine (CA.out _ rfl).mono ?_
        rintro e w' ⟨rfl, rfl⟩
        go_wp2_with fail
        refine (CB.out _ rfl).mono ?_
        rintro e w' ⟨rfl, rfl⟩
        go_wp2_with fail
        refine (CA.out _ rfl).mono ?_
        rintro e w' ⟨rfl, rfl⟩
        go_wp2_with fail
        refine (CB.out _ rfl).mono ?_
        rintro e w' ⟨rfl, rfl⟩
        go_wp2_with fail
        go_round
        case rel => exact ⟨i, by omega, by go_num, H3⟩
        case measure => simp [intOf]
      · have HE : Hid (cmpN (val a) (val b) = 1) := by
          show cmpN _ _ = _
          unfold cmpN
          have := S2.out hc
          rw [if_neg (by omega), if_pos this]
        generalize dn a i = x at *
        generalize dn b i = y at *
        go_wp2_with fail
        refine (CA.out _ rfl).mono ?_
        rintro e w' ⟨rfl, rfl⟩
        go_wp2_with fail
        refine (CB.out _ rfl).mono ?_
        rintro e w' ⟨rfl, rfl⟩
        go_wp2_with fail
        refine (CA.out _ rfl).mono ?_
        rintro e w' ⟨rfl, rfl⟩
        go_wp2_with fail
        refine (CB.out _ rfl).mono ?_
        rintro e w' ⟨rfl, rfl⟩
        go_wp2_with fail
        go_ret
        exact ⟨int_back HE.out.symm, rfl⟩

end Go.Proofs.YtckeplbmkjoiaaaDoor
