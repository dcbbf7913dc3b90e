/- An arena that came in, as the walks are told of it. -/
import Derived.Test.YtghbbedekmdpoaaAr9
import Derived.Deep.Slices
import Derived.ProofKit
import Derived.OpenShut
import Derived.Lib.SmallJoins
namespace Go.Proofs.Ytghbbedekmdpoaa
open Go.ChangeShapes Go.WideShapes Go.ChangeAt Go.RowKit Go.Joins Go.Deep
set_option linter.unusedVariables false

theorem cellsAr11 : Try.prog.cellsOf 25 = 128 := by kernel_rfl
theorem cellsTs11 : Try.prog.cellsOf 22 = 64 := by kernel_rfl
theorem cellsLs11 : Try.prog.cellsOf 23 = 64 := by kernel_rfl
theorem cellsInt11 : Try.prog.cellsOf 3 = 1 := by kernel_rfl
theorem cellsBool11 : Try.prog.cellsOf 4 = 1 := by kernel_rfl
theorem at_of_take {cs : List Value} {i : Nat} {v : Value} (h : (cs.drop i).take 1 = [v]) : cs[i]? = some v := by
  have : (cs.drop i)[0]? = some v := by
    cases hd : cs.drop i with
    | nil => rw [hd] at h; cases h
    | cons a l => rw [hd] at h; simp at h; simp [h]
  simpa using this
theorem times_open {H : Type} {enc : TypeId × Value → H} {w : World} {base : Nat} {spare : Nat → Bool} {held : Bool} {fuel : Nat} {cs : List Value} {x : DataW H × List MemPlace}
    (hf : DataW.trod enc Try.prog w base spare held fuel 22 cs = some x) : ∃ T : Nat → Int, ∀ i, i < 64 → cs[i]? = some (.int .i64 (T i)) := by
  obtain ⟨xs, n, _, _, hlen, hxl, hg⟩ := DataW.trod_array Try.underlying22 hf
  rw [cellsInt11] at hg
  refine choose_lt (p := fun i (z : Int) => cs[i]? = some (.int .i64 z)) (fun i hi => ?_)
  have h1 := hg i hi
  rw [List.getElem?_eq_getElem (by omega), Nat.mul_one] at h1
  obtain ⟨z, e, _, _⟩ := DataW.trod_int Try.underlying3 h1
  exact ⟨z, at_of_take e⟩
theorem live_open {H : Type} {enc : TypeId × Value → H} {w : World} {base : Nat} {spare : Nat → Bool} {held : Bool} {fuel : Nat} {cs : List Value} {x : DataW H × List MemPlace}
    (hf : DataW.trod enc Try.prog w base spare held fuel 23 cs = some x) : ∃ L : Nat → Bool, ∀ i, i < 64 → cs[i]? = some (.bool (L i)) := by
  obtain ⟨xs, n, _, _, hlen, hxl, hg⟩ := DataW.trod_array Try.underlying23 hf
  rw [cellsBool11] at hg
  refine choose_lt (p := fun i (z : Bool) => cs[i]? = some (.bool z)) (fun i hi => ?_)
  have h1 := hg i hi
  rw [List.getElem?_eq_getElem (by omega), Nat.mul_one] at h1
  obtain ⟨z, e, _⟩ := DataW.trod_bool Try.underlying4 h1
  exact ⟨z, at_of_take e⟩
theorem arena_open {H : Type} {enc : TypeId × Value → H} {w : World} {base : Nat} {spare : Nat → Bool} {held : Bool} {r : Reach} {b0 : Nat} {v : Value} {d : DataW H} {p : List MemPlace}
    (hv : Value.okWide Try.prog w r b0 25 v) (h : DataW.Trod enc Try.prog w base spare held 25 v d p) :
    ∃ T L, v = .agg (ar T L) := by
  obtain ⟨cs, rfl, hsz⟩ := okWide_struct Try.underlying25 hv
  obtain ⟨fuel, hf⟩ := h
  obtain ⟨xs, n, _, hx, _, hlen, hg⟩ := DataW.trod_struct Try.underlying25 hf
  match xs, hlen with
  | [y0, y1], _ =>
    have g0 : DataW.trod enc Try.prog w base spare held n 22 ((cs.toList.drop 0).take (Try.prog.cellsOf 22)) = some y0 := hg 0 _ rfl
    have g1 : DataW.trod enc Try.prog w base spare held n 23 ((cs.toList.drop 64).take (Try.prog.cellsOf 23)) = some y1 := hg 1 _ rfl
    rw [cellsTs11] at g0
    rw [cellsLs11] at g1
    obtain ⟨T, hT⟩ := times_open g0
    obtain ⟨L, hL⟩ := live_open g1
    refine ⟨T, L, congrArg Value.agg (ar_ext (hsz.trans cellsAr11) (fun i hi => ?_) (fun i hi => ?_))⟩
    · have := hT i hi
      rw [List.getElem?_take_of_lt hi, List.getElem?_drop, Nat.zero_add, Array.getElem?_toList] at this
      exact this
    · have := hL i hi
      rw [List.getElem?_take_of_lt hi, List.getElem?_drop, Array.getElem?_toList] at this
      exact this
end Go.Proofs.Ytghbbedekmdpoaa
