/- Plain mathematics of layer 14: the chapter's examples. No Go program in sight. -/
import Derived.Test.YtckeplbmkjoiaaaDoorDvMath
namespace Go.Proofs.YtckeplbmkjoiaaaDoor
open Go.RowKit
set_option linter.unusedVariables false

def exF : Eg := ⟨65536, 32768, 4, 4⟩
def exS : Eg := ⟨65536, 4096, 4, 4⟩
theorem ex_head1 : IsHead (196608 - 0) 0 0 := by decide +kernel
theorem ex_head2 : IsHead (196608 - 65536) 0 0 := by decide +kernel
theorem ex_head3 : IsHead (196608 - 131072) 0 0 := by decide +kernel
theorem ex_head4 : IsHead 0 196608 64 := by decide +kernel
theorem ex_tw : tw 0 0 32768 = 0 := by decide +kernel
theorem ex_cs : cs 0 = 65536 := by decide +kernel
theorem ex_sn : sn 0 = 0 := by decide +kernel
theorem ex_wn {p : Int} (h : IsHead (196608 - p) 0 0) : wn 196608 0 ⟨p, 0, 0⟩ = 0 := by
  unfold wn
  show 256 * (hd (196608 - p) (0 - 0) : Int) = 0
  rw [Int.sub_zero, hd_of h]; rfl
theorem ex_an {p : Int} (h : IsHead (196608 - p) 0 0) : an exF 196608 0 ⟨p, 0, 0⟩ = 0 := by
  unfold an
  rw [ex_wn h]
  exact ex_tw
theorem ex_off {p : Int} (h : IsHead (196608 - p) 0 0) : ¬ 8192 < off (an exF 196608 0 ⟨p, 0, 0⟩) (wn 196608 0 ⟨p, 0, 0⟩) := by
  rw [ex_an h, ex_wn h, off_self]; decide
theorem ex_far {p : Int} (h : 0 ≤ 196608 - p) : far 196608 0 ⟨p, 0, 0⟩ = 196608 - p := by
  refine rt_of ⟨h, ?_, ?_⟩
  · show (196608 - p) * (196608 - p) ≤ (196608 - p) * (196608 - p) + (0 - 0) * (0 - 0)
    omega
  · show (196608 - p) * (196608 - p) + (0 - 0) * (0 - 0) < (196608 - p + 1) * (196608 - p + 1)
    have e : (196608 - p + 1) * (196608 - p + 1) = (196608 - p) * (196608 - p) + (2 * (196608 - p) + 1) := by
      simp only [Int.add_mul, Int.mul_add, Int.mul_one, Int.one_mul]; omega
    omega
theorem ex_go {p : Int} (hp : 0 ≤ p ∧ p < 131072) (h : IsHead (196608 - p) 0 0) : dvS exF 196608 0 ⟨p, 0, 0⟩ = (⟨p + 65536, 0, 0⟩, false) := by
  rw [dvS_go (by dsimp only; omega) (ex_off h) (by rw [ex_far (by omega)]; show ¬ _ ≤ (65536 : Int); omega), ex_an h, ex_cs, ex_sn]
  have e1 : (65536 : Int) * 65536 / 65536 = 65536 := by decide +kernel
  have e2 : (0 : Int) + 65536 * 0 / 65536 = 0 := by decide +kernel
  have c1 : cl (p + 65536) 4 = p + 65536 := (cl_same _ (by omega)).2 ⟨by omega, by omega⟩
  have c2 : cl 0 4 = 0 := by decide
  show ((⟨cl (p + 65536 * 65536 / 65536) 4, cl (0 + 65536 * 0 / 65536) 4, 0⟩ : Mv), false) = _
  rw [e1, e2, c1, c2]
theorem ex_one : dvS exF 196608 0 ⟨0, 0, 0⟩ = (⟨65536, 0, 0⟩, false) := ex_go (p := 0) (by omega) ex_head1
theorem ex_two : dvS exF 196608 0 ⟨65536, 0, 0⟩ = (⟨131072, 0, 0⟩, false) := ex_go (p := 65536) (by omega) ex_head2
theorem ex_three : dvS exF 196608 0 ⟨131072, 0, 0⟩ = (⟨196608, 0, 0⟩, true) := by
  rw [dvS_end (by dsimp only; omega) (ex_off (p := 131072) ex_head3) (by rw [ex_far (by omega)]; show _ ≤ (65536 : Int); omega), ex_an (p := 131072) ex_head3]
theorem ex_many : dvN exF 196608 0 9 ⟨0, 0, 0⟩ = (⟨196608, 0, 0⟩, 3) := by
  rw [dvN_more 8 (by rw [ex_one]), ex_one, dvN_more 7 (by rw [ex_two]), ex_two, dvN_there 6 (by rw [ex_three]), ex_three]
theorem ex_turn : dvS exS 0 196608 ⟨0, 0, 0⟩ = (⟨0, 0, 4096⟩, false) := by
  have hw : wn 0 196608 ⟨0, 0, 0⟩ = 16384 := by
    unfold wn
    show 256 * (hd (0 - 0) (196608 - 0) : Int) = _
    rw [Int.sub_zero, Int.sub_zero, hd_of ex_head4]; rfl
  have ha : an exS 0 196608 ⟨0, 0, 0⟩ = 4096 := by
    unfold an
    rw [hw]
    decide +kernel
  rw [dvS_turn (by dsimp only; omega) (by rw [ha, hw]; decide +kernel), ha]
theorem ex_okF : okM exF 196608 0 ⟨0, 0, 0⟩ := by decide +kernel
theorem ex_okS : okM exS 0 196608 ⟨0, 0, 0⟩ := by decide +kernel
end Go.Proofs.YtckeplbmkjoiaaaDoor
