/- What each law of stage 15 begins with. -/
import Derived.Test.YtoibbnkpfplmbaaCw12
import Derived.Test.YtoibbnkpfplmbaaCwOpen
import Derived.Deep.Cut
namespace Go.Proofs.Ytoibbnkpfplmbaa
open Go.RowKit Go.Sort Go.Lib
set_option linter.unusedVariables false
set_option linter.unusedSimpArgs false

theorem Cin.keep {w X : World} {no oc n wc m ic : Nat} {oA wA iA : Option Addr} {O : Nat → Bool} {P Wi : Nat → Int} (h : Cin w no oc n wc m ic oA wA iA O P Wi) (hb : RowKit.Below w.heap.size w X) : Cin X no oc n wc m ic oA wA iA O P Wi :=
  ⟨h.o.keep hb, h.p.keep hb, h.i.keep hb, h.ol, h.om, h.pl, h.pm, h.pn, h.il, h.im⟩
theorem Cin.cut {w : World} {no oc n wc m ic : Nat} {oA wA iA : Option Addr} {O : Nat → Bool} {P Wi : Nat → Int} (h : Cin w no oc n wc m ic oA wA iA O P Wi) : Cin w (cut15 4100 no) oc (cut15 66 n) wc (cut15 66 m) ic oA wA iA O P Wi :=
  ⟨h.o.take (cut15_le _ _).1, h.p.take (cut15_le _ _).1, h.i.take (cut15_le _ _).1, Nat.le_trans (cut15_le _ _).1 h.ol, h.om, Nat.le_trans (cut15_le _ _).1 h.pl, h.pm, h.pn, Nat.le_trans (cut15_le _ _).1 h.il, h.im⟩
end Go.Proofs.Ytoibbnkpfplmbaa
