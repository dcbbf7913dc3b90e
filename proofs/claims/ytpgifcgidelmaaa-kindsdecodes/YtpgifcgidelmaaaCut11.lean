/- A region is taken out of the translation by its number: so it can be walked in a theorem of its own. -/
import Derived.Test.YtpgifcgidelmaaaTak11
namespace Go.Proofs.Ytpgifcgidelmaaa
set_option linter.unusedVariables false

def findRegion (id : Nat) : Code → Option Code
  | .region k ops d => if k = id then some (.region k ops d) else none
  | .seq a b => match findRegion id a with
    | some c => some c
    | none => findRegion id b
  | .cond _ a b => match findRegion id a with
    | some c => some c
    | none => findRegion id b
  | .rangeFunc _ _ a b => match findRegion id a with
    | some c => some c
    | none => findRegion id b
  | .block _ c => findRegion id c
  | .loop c => findRegion id c
  | .scope c => findRegion id c
  | _ => none
end Go.Proofs.Ytpgifcgidelmaaa
