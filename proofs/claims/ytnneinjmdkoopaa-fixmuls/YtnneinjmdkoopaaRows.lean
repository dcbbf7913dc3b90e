/-
  No cell of these rows narrows 'for every input' (looked for: loops, veiled, ifaces, maps, wideKeys, modest, calm, conditions, laid).
  DERIVED. THE GIVEN ROWS OF THIS SEAT. 7 by the template 'for every input the law returns true; each argument reads behind the call as it read before'; 0 by the template 'total and deterministic' (their statements: YtnneinjmdkoopaaTotals.lean).
  GIVEN WITH THE SEED: the statements are not yours to turn. If you find one false, say at which input.
  Laid BY PROGRAM, IN A SANDBOX (cutbox-rows.mjs): the forced cells as the released guide's own fill.sh prints them over the translation 29a0905f847c3f08… (all of the seat's roots in one cut). By AI agents, Wed Nov 11 2026. No macro, syntax, notation, axiom, sorry.
-/
import Derived.Test.YtnneinjmdkoopaaChecked
import GoSem.Claim
import GoSem.ClaimJoined
import GoSem.ClaimMapViews
import Derived.JoinedTies
import Derived.KernelRfl
namespace Go.Proofs.Ytnneinjmdkoopaa
/- THE CELL 'sum', in the pinned program and in every row, IS THE sha256 OF THE DUMP (.gsa) THAT YtnneinjmdkoopaaProg.lean LOADS. Nothing in Lean hashes anything: it is a label: what it is worth is what the hold of that sum in a sandbox is worth. -/
noncomputable def Try.pinned : Pinned := { name := "ytnneinjmdkoopaa", sum := "29a0905f847c3f08f5dee83ae59800901be207fb2593a99be7cfef4c11efd995", checked := Try.checked }
namespace Rows
def none {H : Type} : Left H := { results := [], args := [] }

/-- 'bivouaclaw02.FixMuls': WHATEVER THE INPUT: true; the input reads as it did. -/
def fixMulsSpec : ChangeSpec := { name := "fixMuls", fn := fun _ => fun
  | [d1, d2] => { results := [.lit (.bool true)], args := [d1, d2] }
  | _ => none }
def fixMulsRow : OpenClaim := { program := "ytnneinjmdkoopaa", sum := "29a0905f847c3f08f5dee83ae59800901be207fb2593a99be7cfef4c11efd995", func := "bivouac/bivouaclaw02.FixMuls", spec := "fixMuls", unfollowed := true, recurses := true, apart := false }
def FixMulsSaid : Prop := fixMulsRow.holds Try.pinned (OpenSpec.ofChange fixMulsSpec)

/-- ITS FALSE NEIGHBOUR: 'it returns false'. Refute it at one input. -/
def fixMulsWrong : ChangeSpec := { name := "fixMuls", fn := fun _ => fun
  | [d1, d2] => { results := [.lit (.bool false)], args := [d1, d2] }
  | _ => none }
def FixMulsWrongFalsely : Prop := fixMulsRow.holds Try.pinned (OpenSpec.ofChange fixMulsWrong)

/-- 'bivouaclaw02.FixDivs': WHATEVER THE INPUT: true; the input reads as it did. -/
def fixDivsSpec : ChangeSpec := { name := "fixDivs", fn := fun _ => fun
  | [d1, d2] => { results := [.lit (.bool true)], args := [d1, d2] }
  | _ => none }
def fixDivsRow : OpenClaim := { program := "ytnneinjmdkoopaa", sum := "29a0905f847c3f08f5dee83ae59800901be207fb2593a99be7cfef4c11efd995", func := "bivouac/bivouaclaw02.FixDivs", spec := "fixDivs", unfollowed := true, recurses := true, apart := false }
def FixDivsSaid : Prop := fixDivsRow.holds Try.pinned (OpenSpec.ofChange fixDivsSpec)

/-- ITS FALSE NEIGHBOUR: 'it returns false'. Refute it at one input. -/
def fixDivsWrong : ChangeSpec := { name := "fixDivs", fn := fun _ => fun
  | [d1, d2] => { results := [.lit (.bool false)], args := [d1, d2] }
  | _ => none }
def FixDivsWrongFalsely : Prop := fixDivsRow.holds Try.pinned (OpenSpec.ofChange fixDivsWrong)

/-- 'bivouaclaw02.FixLerps': WHATEVER THE INPUT: true; the input reads as it did. -/
def fixLerpsSpec : ChangeSpec := { name := "fixLerps", fn := fun _ => fun
  | [d1, d2, d3] => { results := [.lit (.bool true)], args := [d1, d2, d3] }
  | _ => none }
def fixLerpsRow : OpenClaim := { program := "ytnneinjmdkoopaa", sum := "29a0905f847c3f08f5dee83ae59800901be207fb2593a99be7cfef4c11efd995", func := "bivouac/bivouaclaw02.FixLerps", spec := "fixLerps", unfollowed := true, recurses := true, apart := false }
def FixLerpsSaid : Prop := fixLerpsRow.holds Try.pinned (OpenSpec.ofChange fixLerpsSpec)

/-- ITS FALSE NEIGHBOUR: 'it returns false'. Refute it at one input. -/
def fixLerpsWrong : ChangeSpec := { name := "fixLerps", fn := fun _ => fun
  | [d1, d2, d3] => { results := [.lit (.bool false)], args := [d1, d2, d3] }
  | _ => none }
def FixLerpsWrongFalsely : Prop := fixLerpsRow.holds Try.pinned (OpenSpec.ofChange fixLerpsWrong)

/-- 'bivouaclaw02.FixEnds': WHATEVER THE INPUT: true; the input reads as it did. -/
def fixEndsSpec : ChangeSpec := { name := "fixEnds", fn := fun _ => fun
  | [d1, d2] => { results := [.lit (.bool true)], args := [d1, d2] }
  | _ => none }
def fixEndsRow : OpenClaim := { program := "ytnneinjmdkoopaa", sum := "29a0905f847c3f08f5dee83ae59800901be207fb2593a99be7cfef4c11efd995", func := "bivouac/bivouaclaw02.FixEnds", spec := "fixEnds", unfollowed := true, recurses := true, apart := false }
def FixEndsSaid : Prop := fixEndsRow.holds Try.pinned (OpenSpec.ofChange fixEndsSpec)

/-- ITS FALSE NEIGHBOUR: 'it returns false'. Refute it at one input. -/
def fixEndsWrong : ChangeSpec := { name := "fixEnds", fn := fun _ => fun
  | [d1, d2] => { results := [.lit (.bool false)], args := [d1, d2] }
  | _ => none }
def FixEndsWrongFalsely : Prop := fixEndsRow.holds Try.pinned (OpenSpec.ofChange fixEndsWrong)

/-- 'bivouaclaw02.FixParts': WHATEVER THE INPUT: true; the input reads as it did. -/
def fixPartsSpec : ChangeSpec := { name := "fixParts", fn := fun _ => fun
  | [d] => { results := [.lit (.bool true)], args := [d] }
  | _ => none }
def fixPartsRow : OpenClaim := { program := "ytnneinjmdkoopaa", sum := "29a0905f847c3f08f5dee83ae59800901be207fb2593a99be7cfef4c11efd995", func := "bivouac/bivouaclaw02.FixParts", spec := "fixParts", unfollowed := true, recurses := true, apart := false }
def FixPartsSaid : Prop := fixPartsRow.holds Try.pinned (OpenSpec.ofChange fixPartsSpec)

/-- ITS FALSE NEIGHBOUR: 'it returns false'. Refute it at one input. -/
def fixPartsWrong : ChangeSpec := { name := "fixParts", fn := fun _ => fun
  | [d] => { results := [.lit (.bool false)], args := [d] }
  | _ => none }
def FixPartsWrongFalsely : Prop := fixPartsRow.holds Try.pinned (OpenSpec.ofChange fixPartsWrong)

/-- 'bivouaclaw02.FixRoots': WHATEVER THE INPUT: true; the input reads as it did. -/
def fixRootsSpec : ChangeSpec := { name := "fixRoots", fn := fun _ => fun
  | [d1, d2] => { results := [.lit (.bool true)], args := [d1, d2] }
  | _ => none }
def fixRootsRow : OpenClaim := { program := "ytnneinjmdkoopaa", sum := "29a0905f847c3f08f5dee83ae59800901be207fb2593a99be7cfef4c11efd995", func := "bivouac/bivouaclaw02.FixRoots", spec := "fixRoots", unfollowed := true, recurses := true, apart := false }
def FixRootsSaid : Prop := fixRootsRow.holds Try.pinned (OpenSpec.ofChange fixRootsSpec)

/-- ITS FALSE NEIGHBOUR: 'it returns false'. Refute it at one input. -/
def fixRootsWrong : ChangeSpec := { name := "fixRoots", fn := fun _ => fun
  | [d1, d2] => { results := [.lit (.bool false)], args := [d1, d2] }
  | _ => none }
def FixRootsWrongFalsely : Prop := fixRootsRow.holds Try.pinned (OpenSpec.ofChange fixRootsWrong)

/-- 'bivouaclaw02.FixLengths': WHATEVER THE INPUT: true; the input reads as it did. -/
def fixLengthsSpec : ChangeSpec := { name := "fixLengths", fn := fun _ => fun
  | [d1, d2] => { results := [.lit (.bool true)], args := [d1, d2] }
  | _ => none }
def fixLengthsRow : OpenClaim := { program := "ytnneinjmdkoopaa", sum := "29a0905f847c3f08f5dee83ae59800901be207fb2593a99be7cfef4c11efd995", func := "bivouac/bivouaclaw02.FixLengths", spec := "fixLengths", unfollowed := true, recurses := true, apart := false }
def FixLengthsSaid : Prop := fixLengthsRow.holds Try.pinned (OpenSpec.ofChange fixLengthsSpec)

/-- ITS FALSE NEIGHBOUR: 'it returns false'. Refute it at one input. -/
def fixLengthsWrong : ChangeSpec := { name := "fixLengths", fn := fun _ => fun
  | [d1, d2] => { results := [.lit (.bool false)], args := [d1, d2] }
  | _ => none }
def FixLengthsWrongFalsely : Prop := fixLengthsRow.holds Try.pinned (OpenSpec.ofChange fixLengthsWrong)

/- THE SECOND FORM. 'bulk': how many values and letters a reading holds, each counted each time it is reached (what is shared counts as often as it is met; a slice's spare places count too). A statement '..UptoSaid' is the law's where the arguments, and the package variables that the reading takes, are together of bulk at most 1048576: NARROWER than '..Said'. Prove '..Said' where nothing that the law and all that it calls make is longer than what came in: it says more and counts as full. Else prove '..UptoSaid'. A law counts once. -/
mutual
def uptoBulk {H : Type} : DataW H → Nat
  | .lit (.string bytes) => bytes.length + 1
  | .lit _ => 1
  | .nil => 1
  | .ptr d => uptoBulk d + 1
  | .slice elems spare => uptoBulkAll elems + uptoBulkAll spare + 1
  | .agg parts => uptoBulkAll parts + 1
  | .iface _ d => uptoBulk d + 1
  | .map entries => uptoBulkEntries entries + 1
  | .held _ => 1
def uptoBulkAll {H : Type} : List (DataW H) → Nat
  | [] => 0
  | d :: r => uptoBulk d + uptoBulkAll r
def uptoBulkEntries {H : Type} : List (Lit × DataW H) → Nat
  | [] => 0
  | x :: r => uptoBulkEntry x + uptoBulkEntries r
def uptoBulkEntry {H : Type} : Lit × DataW H → Nat
  | (.string bytes, d) => bytes.length + uptoBulk d + 1
  | (_, d) => uptoBulk d + 1
 end
def uptoSmall : (H : Type) → List (DataW H) → Bool := fun _ ds => decide (uptoBulkAll ds ≤ 1048576)
def OpenSpec.upto (s : _root_.Go.ChangeSpec) : _root_.Go.OpenSpec := { _root_.Go.OpenSpec.ofChange s with cond := some uptoSmall }

/-- 'bivouaclaw02.FixMuls', WHERE WHAT IT READS IS OF BULK AT MOST 1048576: true; the input reads as it did. -/
def fixMulsUptoRow : OpenClaim := { program := "ytnneinjmdkoopaa", sum := "29a0905f847c3f08f5dee83ae59800901be207fb2593a99be7cfef4c11efd995", func := "bivouac/bivouaclaw02.FixMuls", spec := "fixMuls", unfollowed := true, recurses := true, apart := false, narrowed := true }
def FixMulsUptoSaid : Prop := fixMulsUptoRow.holds Try.pinned (OpenSpec.upto fixMulsSpec)

/-- 'bivouaclaw02.FixDivs', WHERE WHAT IT READS IS OF BULK AT MOST 1048576: true; the input reads as it did. -/
def fixDivsUptoRow : OpenClaim := { program := "ytnneinjmdkoopaa", sum := "29a0905f847c3f08f5dee83ae59800901be207fb2593a99be7cfef4c11efd995", func := "bivouac/bivouaclaw02.FixDivs", spec := "fixDivs", unfollowed := true, recurses := true, apart := false, narrowed := true }
def FixDivsUptoSaid : Prop := fixDivsUptoRow.holds Try.pinned (OpenSpec.upto fixDivsSpec)

/-- 'bivouaclaw02.FixLerps', WHERE WHAT IT READS IS OF BULK AT MOST 1048576: true; the input reads as it did. -/
def fixLerpsUptoRow : OpenClaim := { program := "ytnneinjmdkoopaa", sum := "29a0905f847c3f08f5dee83ae59800901be207fb2593a99be7cfef4c11efd995", func := "bivouac/bivouaclaw02.FixLerps", spec := "fixLerps", unfollowed := true, recurses := true, apart := false, narrowed := true }
def FixLerpsUptoSaid : Prop := fixLerpsUptoRow.holds Try.pinned (OpenSpec.upto fixLerpsSpec)

/-- 'bivouaclaw02.FixEnds', WHERE WHAT IT READS IS OF BULK AT MOST 1048576: true; the input reads as it did. -/
def fixEndsUptoRow : OpenClaim := { program := "ytnneinjmdkoopaa", sum := "29a0905f847c3f08f5dee83ae59800901be207fb2593a99be7cfef4c11efd995", func := "bivouac/bivouaclaw02.FixEnds", spec := "fixEnds", unfollowed := true, recurses := true, apart := false, narrowed := true }
def FixEndsUptoSaid : Prop := fixEndsUptoRow.holds Try.pinned (OpenSpec.upto fixEndsSpec)

/-- 'bivouaclaw02.FixParts', WHERE WHAT IT READS IS OF BULK AT MOST 1048576: true; the input reads as it did. -/
def fixPartsUptoRow : OpenClaim := { program := "ytnneinjmdkoopaa", sum := "29a0905f847c3f08f5dee83ae59800901be207fb2593a99be7cfef4c11efd995", func := "bivouac/bivouaclaw02.FixParts", spec := "fixParts", unfollowed := true, recurses := true, apart := false, narrowed := true }
def FixPartsUptoSaid : Prop := fixPartsUptoRow.holds Try.pinned (OpenSpec.upto fixPartsSpec)

/-- 'bivouaclaw02.FixRoots', WHERE WHAT IT READS IS OF BULK AT MOST 1048576: true; the input reads as it did. -/
def fixRootsUptoRow : OpenClaim := { program := "ytnneinjmdkoopaa", sum := "29a0905f847c3f08f5dee83ae59800901be207fb2593a99be7cfef4c11efd995", func := "bivouac/bivouaclaw02.FixRoots", spec := "fixRoots", unfollowed := true, recurses := true, apart := false, narrowed := true }
def FixRootsUptoSaid : Prop := fixRootsUptoRow.holds Try.pinned (OpenSpec.upto fixRootsSpec)

/-- 'bivouaclaw02.FixLengths', WHERE WHAT IT READS IS OF BULK AT MOST 1048576: true; the input reads as it did. -/
def fixLengthsUptoRow : OpenClaim := { program := "ytnneinjmdkoopaa", sum := "29a0905f847c3f08f5dee83ae59800901be207fb2593a99be7cfef4c11efd995", func := "bivouac/bivouaclaw02.FixLengths", spec := "fixLengths", unfollowed := true, recurses := true, apart := false, narrowed := true }
def FixLengthsUptoSaid : Prop := fixLengthsUptoRow.holds Try.pinned (OpenSpec.upto fixLengthsSpec)

end Rows
end Go.Proofs.Ytnneinjmdkoopaa
