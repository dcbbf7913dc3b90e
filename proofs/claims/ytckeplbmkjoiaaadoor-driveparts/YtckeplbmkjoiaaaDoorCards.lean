/-
  DERIVED. GIVEN WITH THE SEED: THE CARDS: each row of YtckeplbmkjoiaaaDoorRows.lean that lists a variable, with what it lists TIED to the program's text (the seventh form; the later family's looks); each row that meets fmt, with fmt's text TOLD by the authors' own Lean function (tested against real Go, not proved from fmt's source: count such statements apart). THE CARD IS WHAT COUNTS. Prove the row's statement (the work); the ties are given (YtckeplbmkjoiaaaDoorTie.lean); close each card by the builder's one call (the guide's Derived/Test/ToyasCard.lean, 'card_holds'). Laid BY PROGRAM, IN A SANDBOX (cutbox-door.mjs). By AI agents, Wed Nov 11 2026. No macro, syntax, notation, axiom, sorry.
-/
import Derived.Test.YtckeplbmkjoiaaaDoorRows
import GoSem.ClaimSeven
namespace Go.Proofs.YtckeplbmkjoiaaaDoor
namespace Rows

/-- THE TIED CARD OF 'bivouaclaw14.DriveOff'. -/
def driveOffCard : Claim7 := { stood := { row := driveOffRow, standIns := [], harness := (true, "a5ad31e356358f425e2cb5ee91fc31f5a24ac3be07b95148a847ed981ca69ad8"), looks := false }, kinds := [], alts := [], laidByText := true, laidKinds := [.data], laidTests := true, laidLooks := .later }
def DriveOffCardSaid : Prop := Claim7.holds Tryd.pinned (.plain (OpenSpec.ofChange driveOffSpec)) driveOffCard

/-- THE TIED CARD OF 'bivouaclaw14.DriveSteps'. -/
def driveStepsCard : Claim7 := { stood := { row := driveStepsRow, standIns := [], harness := (true, "a5ad31e356358f425e2cb5ee91fc31f5a24ac3be07b95148a847ed981ca69ad8"), looks := false }, kinds := [], alts := [], laidByText := true, laidKinds := [.data, .data], laidTests := true, laidLooks := .later }
def DriveStepsCardSaid : Prop := Claim7.holds Tryd.pinned (.plain (OpenSpec.ofChange driveStepsSpec)) driveStepsCard

/-- THE TIED CARD OF 'bivouaclaw14.DriveGoes'. -/
def driveGoesCard : Claim7 := { stood := { row := driveGoesRow, standIns := [], harness := (true, "a5ad31e356358f425e2cb5ee91fc31f5a24ac3be07b95148a847ed981ca69ad8"), looks := false }, kinds := [], alts := [], laidByText := true, laidKinds := [.data, .data], laidTests := true, laidLooks := .later }
def DriveGoesCardSaid : Prop := Claim7.holds Tryd.pinned (.plain (OpenSpec.ofChange driveGoesSpec)) driveGoesCard

/-- THE TIED CARD OF 'bivouaclaw14.DriveStays'. -/
def driveStaysCard : Claim7 := { stood := { row := driveStaysRow, standIns := [], harness := (true, "a5ad31e356358f425e2cb5ee91fc31f5a24ac3be07b95148a847ed981ca69ad8"), looks := false }, kinds := [], alts := [], laidByText := true, laidKinds := [.data], laidTests := true, laidLooks := .later }
def DriveStaysCardSaid : Prop := Claim7.holds Tryd.pinned (.plain (OpenSpec.ofChange driveStaysSpec)) driveStaysCard

/-- THE TIED CARD OF 'bivouaclaw14.DriveParts'. -/
def drivePartsCard : Claim7 := { stood := { row := drivePartsRow, standIns := [], harness := (true, "a5ad31e356358f425e2cb5ee91fc31f5a24ac3be07b95148a847ed981ca69ad8"), looks := false }, kinds := [], alts := [], laidByText := true, laidKinds := [.data], laidTests := true, laidLooks := .later }
def DrivePartsCardSaid : Prop := Claim7.holds Tryd.pinned (.plain (OpenSpec.ofChange drivePartsSpec)) drivePartsCard

/-- THE SECOND FORM's CARD OF 'bivouaclaw14.DriveOff'. -/
def driveOffUptoCard : Claim7 := { stood := { row := driveOffUptoRow, standIns := [], harness := (true, "a5ad31e356358f425e2cb5ee91fc31f5a24ac3be07b95148a847ed981ca69ad8"), looks := false }, kinds := [], alts := [], laidByText := true, laidKinds := [.data], laidTests := true, laidLooks := .later }
def DriveOffUptoCardSaid : Prop := Claim7.holds Tryd.pinned (.plain (OpenSpec.upto driveOffSpec)) driveOffUptoCard

/-- THE SECOND FORM's CARD OF 'bivouaclaw14.DriveSteps'. -/
def driveStepsUptoCard : Claim7 := { stood := { row := driveStepsUptoRow, standIns := [], harness := (true, "a5ad31e356358f425e2cb5ee91fc31f5a24ac3be07b95148a847ed981ca69ad8"), looks := false }, kinds := [], alts := [], laidByText := true, laidKinds := [.data, .data], laidTests := true, laidLooks := .later }
def DriveStepsUptoCardSaid : Prop := Claim7.holds Tryd.pinned (.plain (OpenSpec.upto driveStepsSpec)) driveStepsUptoCard

/-- THE SECOND FORM's CARD OF 'bivouaclaw14.DriveGoes'. -/
def driveGoesUptoCard : Claim7 := { stood := { row := driveGoesUptoRow, standIns := [], harness := (true, "a5ad31e356358f425e2cb5ee91fc31f5a24ac3be07b95148a847ed981ca69ad8"), looks := false }, kinds := [], alts := [], laidByText := true, laidKinds := [.data, .data], laidTests := true, laidLooks := .later }
def DriveGoesUptoCardSaid : Prop := Claim7.holds Tryd.pinned (.plain (OpenSpec.upto driveGoesSpec)) driveGoesUptoCard

/-- THE SECOND FORM's CARD OF 'bivouaclaw14.DriveStays'. -/
def driveStaysUptoCard : Claim7 := { stood := { row := driveStaysUptoRow, standIns := [], harness := (true, "a5ad31e356358f425e2cb5ee91fc31f5a24ac3be07b95148a847ed981ca69ad8"), looks := false }, kinds := [], alts := [], laidByText := true, laidKinds := [.data], laidTests := true, laidLooks := .later }
def DriveStaysUptoCardSaid : Prop := Claim7.holds Tryd.pinned (.plain (OpenSpec.upto driveStaysSpec)) driveStaysUptoCard

/-- THE SECOND FORM's CARD OF 'bivouaclaw14.DriveParts'. -/
def drivePartsUptoCard : Claim7 := { stood := { row := drivePartsUptoRow, standIns := [], harness := (true, "a5ad31e356358f425e2cb5ee91fc31f5a24ac3be07b95148a847ed981ca69ad8"), looks := false }, kinds := [], alts := [], laidByText := true, laidKinds := [.data], laidTests := true, laidLooks := .later }
def DrivePartsUptoCardSaid : Prop := Claim7.holds Tryd.pinned (.plain (OpenSpec.upto drivePartsSpec)) drivePartsUptoCard
end Rows
end Go.Proofs.YtckeplbmkjoiaaaDoor
