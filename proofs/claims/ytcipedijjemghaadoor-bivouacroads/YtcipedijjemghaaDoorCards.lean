/-
  DERIVED. GIVEN WITH THE SEED: THE CARDS: each row of YtcipedijjemghaaDoorRows.lean that lists a variable, with what it lists TIED to the program's text (the seventh form; the later family's looks); each row that meets fmt, with fmt's text TOLD by the authors' own Lean function (tested against real Go, not proved from fmt's source: count such statements apart). THE CARD IS WHAT COUNTS. Prove the row's statement (the work); the ties are given (YtcipedijjemghaaDoorTie.lean); close each card by the builder's one call (the guide's Derived/Test/ToyasCard.lean, 'card_holds'). Laid BY PROGRAM, IN A SANDBOX (cutbox-door.mjs). By AI agents, Wed Nov 11 2026. No macro, syntax, notation, axiom, sorry.
-/
import Derived.Test.YtcipedijjemghaaDoorRows
import GoSem.ClaimSeven
namespace Go.Proofs.YtcipedijjemghaaDoor
namespace Rows

/-- THE TIED CARD OF 'bivouaclaw13.RouteCosts'. -/
def routeCostsCard : Claim7 := { stood := { row := routeCostsRow, standIns := [], harness := (true, "a6f754780944d94eadfa0c5e32360120df8b3148ab6e18de524391cec25653b7"), looks := false }, kinds := [], alts := [], laidByText := true, laidKinds := [.data], laidTests := true, laidLooks := .later }
def RouteCostsCardSaid : Prop := Claim7.holds Tryd.pinned (.plain (OpenSpec.ofChange routeCostsSpec)) routeCostsCard

/-- THE TIED CARD OF 'bivouaclaw13.RouteWays'. -/
def routeWaysCard : Claim7 := { stood := { row := routeWaysRow, standIns := [], harness := (true, "a6f754780944d94eadfa0c5e32360120df8b3148ab6e18de524391cec25653b7"), looks := false }, kinds := [], alts := [], laidByText := true, laidKinds := [.data], laidTests := true, laidLooks := .later }
def RouteWaysCardSaid : Prop := Claim7.holds Tryd.pinned (.plain (OpenSpec.ofChange routeWaysSpec)) routeWaysCard

/-- THE TIED CARD OF 'bivouaclaw13.RouteBack'. -/
def routeBackCard : Claim7 := { stood := { row := routeBackRow, standIns := [], harness := (true, "a6f754780944d94eadfa0c5e32360120df8b3148ab6e18de524391cec25653b7"), looks := false }, kinds := [], alts := [], laidByText := true, laidKinds := [.data], laidTests := true, laidLooks := .later }
def RouteBackCardSaid : Prop := Claim7.holds Tryd.pinned (.plain (OpenSpec.ofChange routeBackSpec)) routeBackCard

/-- THE TIED CARD OF 'bivouaclaw13.RouteGoes'. -/
def routeGoesCard : Claim7 := { stood := { row := routeGoesRow, standIns := [], harness := (true, "a6f754780944d94eadfa0c5e32360120df8b3148ab6e18de524391cec25653b7"), looks := false }, kinds := [], alts := [], laidByText := true, laidKinds := [.data], laidTests := true, laidLooks := .later }
def RouteGoesCardSaid : Prop := Claim7.holds Tryd.pinned (.plain (OpenSpec.ofChange routeGoesSpec)) routeGoesCard

/-- THE TIED CARD OF 'bivouaclaw13.RouteOpens'. -/
def routeOpensCard : Claim7 := { stood := { row := routeOpensRow, standIns := [], harness := (true, "a6f754780944d94eadfa0c5e32360120df8b3148ab6e18de524391cec25653b7"), looks := false }, kinds := [], alts := [], laidByText := true, laidKinds := [.data], laidTests := true, laidLooks := .later }
def RouteOpensCardSaid : Prop := Claim7.holds Tryd.pinned (.plain (OpenSpec.ofChange routeOpensSpec)) routeOpensCard

/-- THE TIED CARD OF 'bivouactop.BivouacRoads'. -/
def bivouacRoadsCard : Claim7 := { stood := { row := bivouacRoadsRow, standIns := [], harness := (true, "a6f754780944d94eadfa0c5e32360120df8b3148ab6e18de524391cec25653b7"), looks := false }, kinds := [], alts := [], laidByText := true, laidKinds := [.data], laidTests := true, laidLooks := .later }
def BivouacRoadsCardSaid : Prop := Claim7.holds Tryd.pinned (.plain (OpenSpec.ofChange bivouacRoadsSpec)) bivouacRoadsCard

/-- THE SECOND FORM's CARD OF 'bivouaclaw13.RouteCosts'. -/
def routeCostsUptoCard : Claim7 := { stood := { row := routeCostsUptoRow, standIns := [], harness := (true, "a6f754780944d94eadfa0c5e32360120df8b3148ab6e18de524391cec25653b7"), looks := false }, kinds := [], alts := [], laidByText := true, laidKinds := [.data], laidTests := true, laidLooks := .later }
def RouteCostsUptoCardSaid : Prop := Claim7.holds Tryd.pinned (.plain (OpenSpec.upto routeCostsSpec)) routeCostsUptoCard

/-- THE SECOND FORM's CARD OF 'bivouaclaw13.RouteWays'. -/
def routeWaysUptoCard : Claim7 := { stood := { row := routeWaysUptoRow, standIns := [], harness := (true, "a6f754780944d94eadfa0c5e32360120df8b3148ab6e18de524391cec25653b7"), looks := false }, kinds := [], alts := [], laidByText := true, laidKinds := [.data], laidTests := true, laidLooks := .later }
def RouteWaysUptoCardSaid : Prop := Claim7.holds Tryd.pinned (.plain (OpenSpec.upto routeWaysSpec)) routeWaysUptoCard

/-- THE SECOND FORM's CARD OF 'bivouaclaw13.RouteBack'. -/
def routeBackUptoCard : Claim7 := { stood := { row := routeBackUptoRow, standIns := [], harness := (true, "a6f754780944d94eadfa0c5e32360120df8b3148ab6e18de524391cec25653b7"), looks := false }, kinds := [], alts := [], laidByText := true, laidKinds := [.data], laidTests := true, laidLooks := .later }
def RouteBackUptoCardSaid : Prop := Claim7.holds Tryd.pinned (.plain (OpenSpec.upto routeBackSpec)) routeBackUptoCard

/-- THE SECOND FORM's CARD OF 'bivouaclaw13.RouteGoes'. -/
def routeGoesUptoCard : Claim7 := { stood := { row := routeGoesUptoRow, standIns := [], harness := (true, "a6f754780944d94eadfa0c5e32360120df8b3148ab6e18de524391cec25653b7"), looks := false }, kinds := [], alts := [], laidByText := true, laidKinds := [.data], laidTests := true, laidLooks := .later }
def RouteGoesUptoCardSaid : Prop := Claim7.holds Tryd.pinned (.plain (OpenSpec.upto routeGoesSpec)) routeGoesUptoCard

/-- THE SECOND FORM's CARD OF 'bivouaclaw13.RouteOpens'. -/
def routeOpensUptoCard : Claim7 := { stood := { row := routeOpensUptoRow, standIns := [], harness := (true, "a6f754780944d94eadfa0c5e32360120df8b3148ab6e18de524391cec25653b7"), looks := false }, kinds := [], alts := [], laidByText := true, laidKinds := [.data], laidTests := true, laidLooks := .later }
def RouteOpensUptoCardSaid : Prop := Claim7.holds Tryd.pinned (.plain (OpenSpec.upto routeOpensSpec)) routeOpensUptoCard

/-- THE SECOND FORM's CARD OF 'bivouactop.BivouacRoads'. -/
def bivouacRoadsUptoCard : Claim7 := { stood := { row := bivouacRoadsUptoRow, standIns := [], harness := (true, "a6f754780944d94eadfa0c5e32360120df8b3148ab6e18de524391cec25653b7"), looks := false }, kinds := [], alts := [], laidByText := true, laidKinds := [.data], laidTests := true, laidLooks := .later }
def BivouacRoadsUptoCardSaid : Prop := Claim7.holds Tryd.pinned (.plain (OpenSpec.upto bivouacRoadsSpec)) bivouacRoadsUptoCard
end Rows
end Go.Proofs.YtcipedijjemghaaDoor
