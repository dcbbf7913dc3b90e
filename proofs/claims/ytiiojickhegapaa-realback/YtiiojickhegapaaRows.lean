/-
  No cell of these rows narrows 'for every input' (looked for: loops, veiled, ifaces, maps, wideKeys, modest, calm, conditions, laid).
  DERIVED. THE GIVEN ROWS OF THIS SEAT. 5 by the template 'for every input the law returns true; each argument reads behind the call as it read before'; 0 by the template 'total and deterministic' (their statements: YtiiojickhegapaaTotals.lean).
  GIVEN WITH THE SEED: the statements are not yours to turn. If you find one false, say at which input.
  Laid BY PROGRAM, IN A SANDBOX (cutbox-rows.mjs): the forced cells as the released guide's own fill.sh prints them over the translation 886cdd9a61be615e… (all of the seat's roots in one cut). By AI agents, Wed Nov 11 2026. No macro, syntax, notation, axiom, sorry.
-/
import Derived.Test.YtiiojickhegapaaChecked
import GoSem.Claim
import GoSem.ClaimJoined
import GoSem.ClaimMapViews
import Derived.JoinedTies
import Derived.KernelRfl
namespace Go.Proofs.Ytiiojickhegapaa
/- THE CELL 'sum', in the pinned program and in every row, IS THE sha256 OF THE DUMP (.gsa) THAT YtiiojickhegapaaProg.lean LOADS. Nothing in Lean hashes anything: it is a label: what it is worth is what the hold of that sum in a sandbox is worth. -/
noncomputable def Try.pinned : Pinned := { name := "ytiiojickhegapaa", sum := "886cdd9a61be615ea16ded857a3869c7d10273960bddaeeadbbd6c98c4a31dfd", checked := Try.checked }
namespace Rows
def none {H : Type} : Left H := { results := [], args := [] }

/-- 'bivouaclaw04.RealFixes': WHATEVER THE INPUT: true; the input reads as it did. -/
def realFixesSpec : ChangeSpec := { name := "realFixes", fn := fun _ => fun
  | [d] => { results := [.lit (.bool true)], args := [d] }
  | _ => none }
def realFixesRow : OpenClaim := { program := "ytiiojickhegapaa", sum := "886cdd9a61be615ea16ded857a3869c7d10273960bddaeeadbbd6c98c4a31dfd", func := "bivouac/bivouaclaw04.RealFixes", spec := "realFixes", inPlace := ["math.Float64frombits", "math.Float64bits"], unfollowed := true, recurses := true, apart := false }
def RealFixesSaid : Prop := realFixesRow.holds Try.pinned (OpenSpec.ofChange realFixesSpec)

/-- ITS FALSE NEIGHBOUR: 'it returns false'. Refute it at one input. -/
def realFixesWrong : ChangeSpec := { name := "realFixes", fn := fun _ => fun
  | [d] => { results := [.lit (.bool false)], args := [d] }
  | _ => none }
def RealFixesWrongFalsely : Prop := realFixesRow.holds Try.pinned (OpenSpec.ofChange realFixesWrong)

/-- 'bivouaclaw04.RealNears': WHATEVER THE INPUT: true; the input reads as it did. -/
def realNearsSpec : ChangeSpec := { name := "realNears", fn := fun _ => fun
  | [d] => { results := [.lit (.bool true)], args := [d] }
  | _ => none }
def realNearsRow : OpenClaim := { program := "ytiiojickhegapaa", sum := "886cdd9a61be615ea16ded857a3869c7d10273960bddaeeadbbd6c98c4a31dfd", func := "bivouac/bivouaclaw04.RealNears", spec := "realNears", inPlace := ["math.Float64frombits", "math.Float64bits"], unfollowed := true, recurses := true, apart := false }
def RealNearsSaid : Prop := realNearsRow.holds Try.pinned (OpenSpec.ofChange realNearsSpec)

/-- ITS FALSE NEIGHBOUR: 'it returns false'. Refute it at one input. -/
def realNearsWrong : ChangeSpec := { name := "realNears", fn := fun _ => fun
  | [d] => { results := [.lit (.bool false)], args := [d] }
  | _ => none }
def RealNearsWrongFalsely : Prop := realNearsRow.holds Try.pinned (OpenSpec.ofChange realNearsWrong)

/-- 'bivouaclaw04.RealBack': WHATEVER THE INPUT: true; the input reads as it did. -/
def realBackSpec : ChangeSpec := { name := "realBack", fn := fun _ => fun
  | [d] => { results := [.lit (.bool true)], args := [d] }
  | _ => none }
def realBackRow : OpenClaim := { program := "ytiiojickhegapaa", sum := "886cdd9a61be615ea16ded857a3869c7d10273960bddaeeadbbd6c98c4a31dfd", func := "bivouac/bivouaclaw04.RealBack", spec := "realBack", inPlace := ["math.Float64bits", "math.Float64frombits"], unfollowed := true, recurses := true, apart := false }
def RealBackSaid : Prop := realBackRow.holds Try.pinned (OpenSpec.ofChange realBackSpec)

/-- ITS FALSE NEIGHBOUR: 'it returns false'. Refute it at one input. -/
def realBackWrong : ChangeSpec := { name := "realBack", fn := fun _ => fun
  | [d] => { results := [.lit (.bool false)], args := [d] }
  | _ => none }
def RealBackWrongFalsely : Prop := realBackRow.holds Try.pinned (OpenSpec.ofChange realBackWrong)

/-- 'bivouaclaw04.RealOrder': WHATEVER THE INPUT: true; the input reads as it did. -/
def realOrderSpec : ChangeSpec := { name := "realOrder", fn := fun _ => fun
  | [d1, d2] => { results := [.lit (.bool true)], args := [d1, d2] }
  | _ => none }
def realOrderRow : OpenClaim := { program := "ytiiojickhegapaa", sum := "886cdd9a61be615ea16ded857a3869c7d10273960bddaeeadbbd6c98c4a31dfd", func := "bivouac/bivouaclaw04.RealOrder", spec := "realOrder", inPlace := ["math.Float64frombits", "math.Float64bits"], unfollowed := true, recurses := true, apart := false }
def RealOrderSaid : Prop := realOrderRow.holds Try.pinned (OpenSpec.ofChange realOrderSpec)

/-- ITS FALSE NEIGHBOUR: 'it returns false'. Refute it at one input. -/
def realOrderWrong : ChangeSpec := { name := "realOrder", fn := fun _ => fun
  | [d1, d2] => { results := [.lit (.bool false)], args := [d1, d2] }
  | _ => none }
def RealOrderWrongFalsely : Prop := realOrderRow.holds Try.pinned (OpenSpec.ofChange realOrderWrong)

/-- 'bivouaclaw04.RealNone': WHATEVER THE INPUT: true; the input reads as it did. -/
def realNoneSpec : ChangeSpec := { name := "realNone", fn := fun _ => fun
  | [d] => { results := [.lit (.bool true)], args := [d] }
  | _ => none }
def realNoneRow : OpenClaim := { program := "ytiiojickhegapaa", sum := "886cdd9a61be615ea16ded857a3869c7d10273960bddaeeadbbd6c98c4a31dfd", func := "bivouac/bivouaclaw04.RealNone", spec := "realNone", inPlace := ["math.Float64frombits", "math.Float64bits"], unfollowed := true, recurses := true, apart := false }
def RealNoneSaid : Prop := realNoneRow.holds Try.pinned (OpenSpec.ofChange realNoneSpec)

/-- ITS FALSE NEIGHBOUR: 'it returns false'. Refute it at one input. -/
def realNoneWrong : ChangeSpec := { name := "realNone", fn := fun _ => fun
  | [d] => { results := [.lit (.bool false)], args := [d] }
  | _ => none }
def RealNoneWrongFalsely : Prop := realNoneRow.holds Try.pinned (OpenSpec.ofChange realNoneWrong)

/- THE SECOND FORM. 'bulk': how many values and letters a reading holds, each counted each time it is reached (what is shared counts as often as it is met; a slice's spare places count too). A statement '..UptoSaid' is the law's where the arguments, and the package variables that the reading takes, are together of bulk at most 1048576: NARROWER than '..Said'. Prove '..Said' where nothing that the law and all that it calls make is longer than what came in: it says more and counts as full. Else prove '..UptoSaid'. A law counts once. -/
mutual
def uptoBulk {H : Type} : DataW H → Nat
  | .lit (.string bytes) => bytes.length + 1
  | .lit _ => 1
  | .nil => 1
  | .ptr d => uptoBulk d + 1
  | .slice elems spare => uptoBulkAll elems + uptoBulkAll spare + 1
  | .agg parts => uptoBulkAll parts + 1
  | .iface _ d => uptoBulk d + 1
  | .map entries => uptoBulkEntries entries + 1
  | .held _ => 1
def uptoBulkAll {H : Type} : List (DataW H) → Nat
  | [] => 0
  | d :: r => uptoBulk d + uptoBulkAll r
def uptoBulkEntries {H : Type} : List (Lit × DataW H) → Nat
  | [] => 0
  | x :: r => uptoBulkEntry x + uptoBulkEntries r
def uptoBulkEntry {H : Type} : Lit × DataW H → Nat
  | (.string bytes, d) => bytes.length + uptoBulk d + 1
  | (_, d) => uptoBulk d + 1
 end
def uptoSmall : (H : Type) → List (DataW H) → Bool := fun _ ds => decide (uptoBulkAll ds ≤ 1048576)
def OpenSpec.upto (s : _root_.Go.ChangeSpec) : _root_.Go.OpenSpec := { _root_.Go.OpenSpec.ofChange s with cond := some uptoSmall }

/-- 'bivouaclaw04.RealFixes', WHERE WHAT IT READS IS OF BULK AT MOST 1048576: true; the input reads as it did. -/
def realFixesUptoRow : OpenClaim := { program := "ytiiojickhegapaa", sum := "886cdd9a61be615ea16ded857a3869c7d10273960bddaeeadbbd6c98c4a31dfd", func := "bivouac/bivouaclaw04.RealFixes", spec := "realFixes", inPlace := ["math.Float64frombits", "math.Float64bits"], unfollowed := true, recurses := true, apart := false, narrowed := true }
def RealFixesUptoSaid : Prop := realFixesUptoRow.holds Try.pinned (OpenSpec.upto realFixesSpec)

/-- 'bivouaclaw04.RealNears', WHERE WHAT IT READS IS OF BULK AT MOST 1048576: true; the input reads as it did. -/
def realNearsUptoRow : OpenClaim := { program := "ytiiojickhegapaa", sum := "886cdd9a61be615ea16ded857a3869c7d10273960bddaeeadbbd6c98c4a31dfd", func := "bivouac/bivouaclaw04.RealNears", spec := "realNears", inPlace := ["math.Float64frombits", "math.Float64bits"], unfollowed := true, recurses := true, apart := false, narrowed := true }
def RealNearsUptoSaid : Prop := realNearsUptoRow.holds Try.pinned (OpenSpec.upto realNearsSpec)

/-- 'bivouaclaw04.RealBack', WHERE WHAT IT READS IS OF BULK AT MOST 1048576: true; the input reads as it did. -/
def realBackUptoRow : OpenClaim := { program := "ytiiojickhegapaa", sum := "886cdd9a61be615ea16ded857a3869c7d10273960bddaeeadbbd6c98c4a31dfd", func := "bivouac/bivouaclaw04.RealBack", spec := "realBack", inPlace := ["math.Float64bits", "math.Float64frombits"], unfollowed := true, recurses := true, apart := false, narrowed := true }
def RealBackUptoSaid : Prop := realBackUptoRow.holds Try.pinned (OpenSpec.upto realBackSpec)

/-- 'bivouaclaw04.RealOrder', WHERE WHAT IT READS IS OF BULK AT MOST 1048576: true; the input reads as it did. -/
def realOrderUptoRow : OpenClaim := { program := "ytiiojickhegapaa", sum := "886cdd9a61be615ea16ded857a3869c7d10273960bddaeeadbbd6c98c4a31dfd", func := "bivouac/bivouaclaw04.RealOrder", spec := "realOrder", inPlace := ["math.Float64frombits", "math.Float64bits"], unfollowed := true, recurses := true, apart := false, narrowed := true }
def RealOrderUptoSaid : Prop := realOrderUptoRow.holds Try.pinned (OpenSpec.upto realOrderSpec)

/-- 'bivouaclaw04.RealNone', WHERE WHAT IT READS IS OF BULK AT MOST 1048576: true; the input reads as it did. -/
def realNoneUptoRow : OpenClaim := { program := "ytiiojickhegapaa", sum := "886cdd9a61be615ea16ded857a3869c7d10273960bddaeeadbbd6c98c4a31dfd", func := "bivouac/bivouaclaw04.RealNone", spec := "realNone", inPlace := ["math.Float64frombits", "math.Float64bits"], unfollowed := true, recurses := true, apart := false, narrowed := true }
def RealNoneUptoSaid : Prop := realNoneUptoRow.holds Try.pinned (OpenSpec.upto realNoneSpec)

end Rows
end Go.Proofs.Ytiiojickhegapaa
