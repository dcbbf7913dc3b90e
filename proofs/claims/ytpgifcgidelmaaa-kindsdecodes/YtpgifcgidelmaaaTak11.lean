/- A region that draws its order: once what waits for nobody is taken, a head whose operations leave the world as it is may be run in the text's order. -/
import Derived.Test.YtpgifcgidelmaaaTak10
namespace Go.Proofs.Ytpgifcgidelmaaa
set_option linter.unusedVariables false

section
variable {P : Program} {Q : Exit → Act → World → Prop} {md : Region.Mode} {m : Nat} {R B : World → Prop} {w : World}

theorem wpAnyT_of_head {ops : Array Oper} {n g : Nat} {L : Array Bool → Act → Prop} (hR : R w) (hB : B w) (hL : ∀ listed a, L listed a → wpAnyT P md ops Q m R B g listed a w) :
    ∀ (f : Nat) (listed : Array Bool) (a : Act), wpAnyL P md ops w n L f listed a → wpAnyT P md ops Q m R B (f + g) listed a w
  | 0, listed, a, h => by rw [Nat.zero_add]; exact hL _ _ h
  | f + 1, listed, a, h => by
    rw [show f + 1 + g = (f + g) + 1 by omega]
    exact ⟨fun h0 => absurd h0 h.1, fun i hi => wpOp_of_stOp (fun a' h' => ⟨⟨hR, fun _ => hB⟩, wpAnyT_of_head hR hB hL f _ a' h'⟩) (h.2 i hi).2⟩

/-- The head from operation k on, n of them; then whatever is left. -/
theorem wpAnyT_headL {L : List Oper} (k n g : Nat) (fin : Array Bool) {listed : Array Bool} {a : Act} (hn : decide (k + n ≤ L.length) = true) (hsel : Region.noSelect L.toArray = true) (hS : shutB md L.toArray listed = true) (hB : head8 md L.toArray fin n k listed = true)
    (hw : R w ∧ B w) (h : wpStill P L.toArray w (fun a' => wpAnyT P md L.toArray Q m R B g fin a' w) ((L.drop k).take n) a) : wpAnyT P md L.toArray Q m R B (n + g) listed a w := by
  have hn := of_decide_eq_true hn
  have e : ((L.drop k).take n).length = n := by simp; omega
  have hst : ∀ j, j < ((L.drop k).take n).length → ((L.drop k).take n)[j]? = L.toArray[k + j]? := fun j hj => by rw [e] at hj; simp [hj]
  have H := wpAnyT_of_head (P := P) (md := md) (ops := L.toArray) (Q := Q) (m := m) (g := g) hw.1 hw.2 (fun l' a' (h' : l' = fin ∧ wpAnyT P md L.toArray Q m R B g fin a' w) => by rw [h'.1]; exact h'.2) _ _ _ (lex8 hsel ((L.drop k).take n) k listed a hst (shut_of hS) (by rw [e]; exact hB) h)
  rw [e] at H
  exact H

end
end Go.Proofs.Ytpgifcgidelmaaa
