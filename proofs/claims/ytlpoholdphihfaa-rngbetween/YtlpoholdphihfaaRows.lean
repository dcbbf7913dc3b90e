/-
  No cell of these rows narrows 'for every input' (looked for: loops, veiled, ifaces, maps, wideKeys, modest, calm, conditions, laid).
  DERIVED. THE GIVEN ROWS OF THIS SEAT. 6 by the template 'for every input the law returns true; each argument reads behind the call as it read before'; 0 by the template 'total and deterministic' (their statements: YtlpoholdphihfaaTotals.lean).
  GIVEN WITH THE SEED: the statements are not yours to turn. If you find one false, say at which input.
  Laid BY PROGRAM, IN A SANDBOX (cutbox-rows.mjs): the forced cells as the released guide's own fill.sh prints them over the translation 75f369ab57b58e95… (all of the seat's roots in one cut). By AI agents, Wed Nov 11 2026. No macro, syntax, notation, axiom, sorry.
-/
import Derived.Test.YtlpoholdphihfaaChecked
import GoSem.Claim
import GoSem.ClaimJoined
import GoSem.ClaimMapViews
import Derived.JoinedTies
import Derived.KernelRfl
namespace Go.Proofs.Ytlpoholdphihfaa
/- THE CELL 'sum', in the pinned program and in every row, IS THE sha256 OF THE DUMP (.gsa) THAT YtlpoholdphihfaaProg.lean LOADS. Nothing in Lean hashes anything: it is a label: what it is worth is what the hold of that sum in a sandbox is worth. -/
noncomputable def Try.pinned : Pinned := { name := "ytlpoholdphihfaa", sum := "75f369ab57b58e95d350caa8d720fc8ed29088311d291aa860208497e6f24f85", checked := Try.checked }
namespace Rows
def none {H : Type} : Left H := { results := [], args := [] }

/-- 'bivouaclaw05.RngAt': WHATEVER THE INPUT: true; the input reads as it did. -/
def rngAtSpec : ChangeSpec := { name := "rngAt", fn := fun _ => fun
  | [d1, d2] => { results := [.lit (.bool true)], args := [d1, d2] }
  | _ => none }
def rngAtRow : OpenClaim := { program := "ytlpoholdphihfaa", sum := "75f369ab57b58e95d350caa8d720fc8ed29088311d291aa860208497e6f24f85", func := "bivouac/bivouaclaw05.RngAt", spec := "rngAt", apart := false }
def RngAtSaid : Prop := rngAtRow.holds Try.pinned (OpenSpec.ofChange rngAtSpec)

/-- ITS FALSE NEIGHBOUR: 'it returns false'. Refute it at one input. -/
def rngAtWrong : ChangeSpec := { name := "rngAt", fn := fun _ => fun
  | [d1, d2] => { results := [.lit (.bool false)], args := [d1, d2] }
  | _ => none }
def RngAtWrongFalsely : Prop := rngAtRow.holds Try.pinned (OpenSpec.ofChange rngAtWrong)

/-- 'bivouaclaw05.RngApart': WHATEVER THE INPUT: true; the input reads as it did. -/
def rngApartSpec : ChangeSpec := { name := "rngApart", fn := fun _ => fun
  | [d1, d2, d3] => { results := [.lit (.bool true)], args := [d1, d2, d3] }
  | _ => none }
def rngApartRow : OpenClaim := { program := "ytlpoholdphihfaa", sum := "75f369ab57b58e95d350caa8d720fc8ed29088311d291aa860208497e6f24f85", func := "bivouac/bivouaclaw05.RngApart", spec := "rngApart", apart := false }
def RngApartSaid : Prop := rngApartRow.holds Try.pinned (OpenSpec.ofChange rngApartSpec)

/-- ITS FALSE NEIGHBOUR: 'it returns false'. Refute it at one input. -/
def rngApartWrong : ChangeSpec := { name := "rngApart", fn := fun _ => fun
  | [d1, d2, d3] => { results := [.lit (.bool false)], args := [d1, d2, d3] }
  | _ => none }
def RngApartWrongFalsely : Prop := rngApartRow.holds Try.pinned (OpenSpec.ofChange rngApartWrong)

/-- 'bivouaclaw05.RngBelow': WHATEVER THE INPUT: true; the input reads as it did. -/
def rngBelowSpec : ChangeSpec := { name := "rngBelow", fn := fun _ => fun
  | [d1, d2, d3] => { results := [.lit (.bool true)], args := [d1, d2, d3] }
  | _ => none }
def rngBelowRow : OpenClaim := { program := "ytlpoholdphihfaa", sum := "75f369ab57b58e95d350caa8d720fc8ed29088311d291aa860208497e6f24f85", func := "bivouac/bivouaclaw05.RngBelow", spec := "rngBelow", apart := false }
def RngBelowSaid : Prop := rngBelowRow.holds Try.pinned (OpenSpec.ofChange rngBelowSpec)

/-- ITS FALSE NEIGHBOUR: 'it returns false'. Refute it at one input. -/
def rngBelowWrong : ChangeSpec := { name := "rngBelow", fn := fun _ => fun
  | [d1, d2, d3] => { results := [.lit (.bool false)], args := [d1, d2, d3] }
  | _ => none }
def RngBelowWrongFalsely : Prop := rngBelowRow.holds Try.pinned (OpenSpec.ofChange rngBelowWrong)

/-- 'bivouaclaw05.RngBetween': WHATEVER THE INPUT: true; the input reads as it did. -/
def rngBetweenSpec : ChangeSpec := { name := "rngBetween", fn := fun _ => fun
  | [d] => { results := [.lit (.bool true)], args := [d] }
  | _ => none }
def rngBetweenRow : OpenClaim := { program := "ytlpoholdphihfaa", sum := "75f369ab57b58e95d350caa8d720fc8ed29088311d291aa860208497e6f24f85", func := "bivouac/bivouaclaw05.RngBetween", spec := "rngBetween", apart := false }
def RngBetweenSaid : Prop := rngBetweenRow.holds Try.pinned (OpenSpec.ofChange rngBetweenSpec)

/-- ITS FALSE NEIGHBOUR: 'it returns false'. Refute it at one input. -/
def rngBetweenWrong : ChangeSpec := { name := "rngBetween", fn := fun _ => fun
  | [d] => { results := [.lit (.bool false)], args := [d] }
  | _ => none }
def RngBetweenWrongFalsely : Prop := rngBetweenRow.holds Try.pinned (OpenSpec.ofChange rngBetweenWrong)

/-- 'bivouaclaw05.RngOrders': WHATEVER THE INPUT: true; the input reads as it did. -/
def rngOrdersSpec : ChangeSpec := { name := "rngOrders", fn := fun _ => fun
  | [d1, d2, d3] => { results := [.lit (.bool true)], args := [d1, d2, d3] }
  | _ => none }
def rngOrdersRow : OpenClaim := { program := "ytlpoholdphihfaa", sum := "75f369ab57b58e95d350caa8d720fc8ed29088311d291aa860208497e6f24f85", func := "bivouac/bivouaclaw05.RngOrders", spec := "rngOrders", apart := false }
def RngOrdersSaid : Prop := rngOrdersRow.holds Try.pinned (OpenSpec.ofChange rngOrdersSpec)

/-- ITS FALSE NEIGHBOUR: 'it returns false'. Refute it at one input. -/
def rngOrdersWrong : ChangeSpec := { name := "rngOrders", fn := fun _ => fun
  | [d1, d2, d3] => { results := [.lit (.bool false)], args := [d1, d2, d3] }
  | _ => none }
def RngOrdersWrongFalsely : Prop := rngOrdersRow.holds Try.pinned (OpenSpec.ofChange rngOrdersWrong)

/-- 'bivouaclaw05.RngOnce': WHATEVER THE INPUT: true; the input reads as it did. -/
def rngOnceSpec : ChangeSpec := { name := "rngOnce", fn := fun _ => fun
  | [d1, d2, d3] => { results := [.lit (.bool true)], args := [d1, d2, d3] }
  | _ => none }
def rngOnceRow : OpenClaim := { program := "ytlpoholdphihfaa", sum := "75f369ab57b58e95d350caa8d720fc8ed29088311d291aa860208497e6f24f85", func := "bivouac/bivouaclaw05.RngOnce", spec := "rngOnce", apart := false }
def RngOnceSaid : Prop := rngOnceRow.holds Try.pinned (OpenSpec.ofChange rngOnceSpec)

/-- ITS FALSE NEIGHBOUR: 'it returns false'. Refute it at one input. -/
def rngOnceWrong : ChangeSpec := { name := "rngOnce", fn := fun _ => fun
  | [d1, d2, d3] => { results := [.lit (.bool false)], args := [d1, d2, d3] }
  | _ => none }
def RngOnceWrongFalsely : Prop := rngOnceRow.holds Try.pinned (OpenSpec.ofChange rngOnceWrong)

/- THE SECOND FORM. 'bulk': how many values and letters a reading holds, each counted each time it is reached (what is shared counts as often as it is met; a slice's spare places count too). A statement '..UptoSaid' is the law's where the arguments, and the package variables that the reading takes, are together of bulk at most 1048576: NARROWER than '..Said'. Prove '..Said' where nothing that the law and all that it calls make is longer than what came in: it says more and counts as full. Else prove '..UptoSaid'. A law counts once. -/
mutual
def uptoBulk {H : Type} : DataW H → Nat
  | .lit (.string bytes) => bytes.length + 1
  | .lit _ => 1
  | .nil => 1
  | .ptr d => uptoBulk d + 1
  | .slice elems spare => uptoBulkAll elems + uptoBulkAll spare + 1
  | .agg parts => uptoBulkAll parts + 1
  | .iface _ d => uptoBulk d + 1
  | .map entries => uptoBulkEntries entries + 1
  | .held _ => 1
def uptoBulkAll {H : Type} : List (DataW H) → Nat
  | [] => 0
  | d :: r => uptoBulk d + uptoBulkAll r
def uptoBulkEntries {H : Type} : List (Lit × DataW H) → Nat
  | [] => 0
  | x :: r => uptoBulkEntry x + uptoBulkEntries r
def uptoBulkEntry {H : Type} : Lit × DataW H → Nat
  | (.string bytes, d) => bytes.length + uptoBulk d + 1
  | (_, d) => uptoBulk d + 1
 end
def uptoSmall : (H : Type) → List (DataW H) → Bool := fun _ ds => decide (uptoBulkAll ds ≤ 1048576)
def OpenSpec.upto (s : _root_.Go.ChangeSpec) : _root_.Go.OpenSpec := { _root_.Go.OpenSpec.ofChange s with cond := some uptoSmall }

/-- 'bivouaclaw05.RngAt', WHERE WHAT IT READS IS OF BULK AT MOST 1048576: true; the input reads as it did. -/
def rngAtUptoRow : OpenClaim := { program := "ytlpoholdphihfaa", sum := "75f369ab57b58e95d350caa8d720fc8ed29088311d291aa860208497e6f24f85", func := "bivouac/bivouaclaw05.RngAt", spec := "rngAt", apart := false, narrowed := true }
def RngAtUptoSaid : Prop := rngAtUptoRow.holds Try.pinned (OpenSpec.upto rngAtSpec)

/-- 'bivouaclaw05.RngApart', WHERE WHAT IT READS IS OF BULK AT MOST 1048576: true; the input reads as it did. -/
def rngApartUptoRow : OpenClaim := { program := "ytlpoholdphihfaa", sum := "75f369ab57b58e95d350caa8d720fc8ed29088311d291aa860208497e6f24f85", func := "bivouac/bivouaclaw05.RngApart", spec := "rngApart", apart := false, narrowed := true }
def RngApartUptoSaid : Prop := rngApartUptoRow.holds Try.pinned (OpenSpec.upto rngApartSpec)

/-- 'bivouaclaw05.RngBelow', WHERE WHAT IT READS IS OF BULK AT MOST 1048576: true; the input reads as it did. -/
def rngBelowUptoRow : OpenClaim := { program := "ytlpoholdphihfaa", sum := "75f369ab57b58e95d350caa8d720fc8ed29088311d291aa860208497e6f24f85", func := "bivouac/bivouaclaw05.RngBelow", spec := "rngBelow", apart := false, narrowed := true }
def RngBelowUptoSaid : Prop := rngBelowUptoRow.holds Try.pinned (OpenSpec.upto rngBelowSpec)

/-- 'bivouaclaw05.RngBetween', WHERE WHAT IT READS IS OF BULK AT MOST 1048576: true; the input reads as it did. -/
def rngBetweenUptoRow : OpenClaim := { program := "ytlpoholdphihfaa", sum := "75f369ab57b58e95d350caa8d720fc8ed29088311d291aa860208497e6f24f85", func := "bivouac/bivouaclaw05.RngBetween", spec := "rngBetween", apart := false, narrowed := true }
def RngBetweenUptoSaid : Prop := rngBetweenUptoRow.holds Try.pinned (OpenSpec.upto rngBetweenSpec)

/-- 'bivouaclaw05.RngOrders', WHERE WHAT IT READS IS OF BULK AT MOST 1048576: true; the input reads as it did. -/
def rngOrdersUptoRow : OpenClaim := { program := "ytlpoholdphihfaa", sum := "75f369ab57b58e95d350caa8d720fc8ed29088311d291aa860208497e6f24f85", func := "bivouac/bivouaclaw05.RngOrders", spec := "rngOrders", apart := false, narrowed := true }
def RngOrdersUptoSaid : Prop := rngOrdersUptoRow.holds Try.pinned (OpenSpec.upto rngOrdersSpec)

/-- 'bivouaclaw05.RngOnce', WHERE WHAT IT READS IS OF BULK AT MOST 1048576: true; the input reads as it did. -/
def rngOnceUptoRow : OpenClaim := { program := "ytlpoholdphihfaa", sum := "75f369ab57b58e95d350caa8d720fc8ed29088311d291aa860208497e6f24f85", func := "bivouac/bivouaclaw05.RngOnce", spec := "rngOnce", apart := false, narrowed := true }
def RngOnceUptoSaid : Prop := rngOnceUptoRow.holds Try.pinned (OpenSpec.upto rngOnceSpec)

end Rows
end Go.Proofs.Ytlpoholdphihfaa
