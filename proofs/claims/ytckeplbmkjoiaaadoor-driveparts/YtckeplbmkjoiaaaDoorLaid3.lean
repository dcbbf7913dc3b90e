/- What the rows' lists of variables give: the tables' cells; and a world in which both tables lie as the text lays them. -/
import Derived.Test.YtckeplbmkjoiaaaDoorRefTrig
import Derived.Lib.LaidTab
import Derived.Stop.LaidErr
namespace Go.Proofs.YtckeplbmkjoiaaaDoor
open Go.RowKit
set_option linter.unusedVariables false

theorem gS : Tryd.prog.globalNamed "bivouac/trig.sines" = some 1 := by kernel_rfl
theorem gST : (Tryd.prog.globals[1]?).map (·.type) = some 76 := by kernel_rfl
theorem gQ : Tryd.prog.globalNamed "bivouac/bivouacref03.quarter" = some 0 := by kernel_rfl
theorem gQT : (Tryd.prog.globals[0]?).map (·.type) = some 70 := by kernel_rfl
theorem cellsS : Tryd.prog.cellsOf 76 = 65 := by kernel_rfl
theorem cellsQ : Tryd.prog.cellsOf 70 = 65 := by kernel_rfl
theorem cellsI64 : Tryd.prog.cellsOf 2 = 1 := by kernel_rfl
theorem cellsInt : Tryd.prog.cellsOf 3 = 1 := by kernel_rfl

theorem tab_length : tab.length = 65 := by decide +kernel
theorem tab_get (i : Nat) : tab.getD i 0 = tb i := by unfold tb; simp

/-- The one table. -/
theorem tab_of {W : World} (h : laidMet Tryd.prog [("bivouac/trig.sines", Rows.laid_bivouac_trig_sines)] W) : Tab W := by
  have t : Lib.TabIs Tryd.prog W "bivouac/trig.sines" .i64 tab := Lib.tabIs_of_head (rest := []) gS gST Tryd.underlying76 Tryd.underlying2 cellsI64 cellsS h
  intro i hi
  rw [t.cell gS i (by rw [tab_length]; exact hi), tab_get]
/-- Both tables. -/
theorem tabs_of {W : World} (h : laidMet Tryd.prog [("bivouac/bivouacref03.quarter", Rows.laid_bivouac_bivouacref03_quarter), ("bivouac/trig.sines", Rows.laid_bivouac_trig_sines)] W) : Tab W ∧ RTab W := by
  refine ⟨tab_of h.tail, ?_⟩
  have t : Lib.TabIs Tryd.prog W "bivouac/bivouacref03.quarter" .i64 tab := Lib.tabIs_of_head gQ gQT Tryd.underlying70 Tryd.underlying3 cellsInt cellsQ h
  intro i hi
  rw [t.cell gQ i (by rw [tab_length]; exact hi), tab_get]

/-- A block that holds the table. -/
def layTab : Obj → Obj
  | .cells _ t frozen => .cells (tab.map fun z => Value.int .i64 z).toArray t frozen
  | o => o
/-- A world for the witness: the settled one, both tables holding what their initialisers lay. -/
noncomputable def laidWorld (os : Os) : World :=
  { World.holding Tryd.prog os ⟨#[], #[], []⟩ with heap := ((World.holding Tryd.prog os ⟨#[], #[], []⟩).heap.modify 0 layTab).modify 1 layTab }

end Go.Proofs.YtckeplbmkjoiaaaDoor
