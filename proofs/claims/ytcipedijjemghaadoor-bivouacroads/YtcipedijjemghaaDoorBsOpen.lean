/- A slice of bytes that came in, as the walks are told of it. -/
import Derived.Test.YtcipedijjemghaaDoorRel1
import Derived.ProofKit
import Derived.OpenShut
import Derived.Lib.SmallJoins
namespace Go.Proofs.YtcipedijjemghaaDoor
open Go.ChangeShapes Go.WideShapes Go.ChangeAt Go.RowKit Go.Joins
set_option linter.unusedVariables false

theorem bs_open {H : Type} {enc : TypeId × Value → H} {w : World} {base : Nat} {spare : Nat → Bool} {held : Bool} {fuel : Nat} {v : Value} {x : DataW H × List MemPlace}
    (hf : DataW.trod enc Tryd.prog w base spare held fuel 43 [v] = some x) :
    ∃ A n c p, v = .slice A n c ∧ Bs w A n p ∧ (∀ i, p i < 256) ∧ n ≤ c ∧ c ≤ maxLen := by
  rcases open_ints Tryd.underlying43 Tryd.underlying5 (by kernel_rfl) hf with ⟨hcs, _⟩ | ⟨a, l, c, zs, hcs, _, hl, hm, hz, _, hcell, hwz⟩
  · injection hcs with hcs
    exact ⟨none, 0, 0, fun _ => 0, hcs, fun h => absurd h (by omega), fun _ => by show 0 < 256; decide, Nat.le_refl _, by simp [maxLen]⟩
  · injection hcs with hcs
    have hw : ∀ i, 0 ≤ zs.getD i 0 ∧ zs.getD i 0 ≤ 255 := by
      intro i
      by_cases hi : i < zs.length
      · have h := hwz (zs.getD i 0) (by simp [List.getD, hi])
        simpa [Lit.wf, IntKind.min, IntKind.max, IntKind.signed, IntKind.bits] using h
      · have : zs.getD i 0 = 0 := by simp [List.getD, List.getElem?_eq_none (Nat.le_of_not_lt hi)]
        omega
    refine ⟨some a, l, c, fun i => (zs.getD i 0).toNat, hcs, ?_, fun i => by have := hw i; show (zs.getD i 0).toNat < 256; omega, hl, hm⟩
    intro h0
    obtain ⟨b, off, spot⟩ := a
    have hle : l ≤ zs.length := by rw [hz]; split <;> omega
    have hc := hcell 0 (by omega)
    have hspot : spot = none := by simpa [Addr.add] using World.cell?_spot hc
    subst hspot
    refine ⟨b, off, rfl, by simpa [Addr.add] using World.block_lt_of_cell? w _ hc, fun i hi => ?_⟩
    have h := hcell i (by omega)
    have e : (⟨b, off, none⟩ : Addr).add i = ⟨b, off + i, none⟩ := by unfold Addr.add; split <;> simp_all
    rw [e] at h
    rw [h]
    have := hw i
    congr 2
    show zs.getD i 0 = (((zs.getD i 0).toNat : Nat) : Int)
    omega

end Go.Proofs.YtcipedijjemghaaDoor
