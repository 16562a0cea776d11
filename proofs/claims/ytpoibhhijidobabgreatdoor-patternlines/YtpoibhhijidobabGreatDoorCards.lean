/-
  DERIVED. GIVEN WITH THE SEED: THE CARDS: each row of YtpoibhhijidobabGreatDoorRows.lean that lists a variable, with what it lists TIED to the program's text (the seventh form; the later family's looks); each row that meets fmt, with fmt's text TOLD by the authors' own Lean function (tested against real Go, not proved from fmt's source: count such statements apart). THE CARD IS WHAT COUNTS. Prove the row's statement (the work); the ties are given (YtpoibhhijidobabGreatDoorTie.lean); close each card by the builder's one call (the guide's Derived/Test/ToyasCard.lean, 'card_holds'). Laid BY PROGRAM, IN A SANDBOX (cutbox-door.mjs). By AI agents, Wed Nov 11 2026. No macro, syntax, notation, axiom, sorry.
-/
import Derived.Test.YtpoibhhijidobabGreatDoorRows
import GoSem.ClaimSeven
namespace Go.Proofs.YtpoibhhijidobabGreatDoor
namespace Rows

/-- THE TIED CARD OF 'redanlaw15.PatternBack'. -/
def patternBackCard : Claim7 := { stood := { row := patternBackRow, standIns := [], harness := (true, "5b45d23cf7c29805b6dd55f36f2e59c3644e39d3bd1111309b2f07d89bd5250f"), looks := false }, kinds := [], alts := [], laidByText := true, laidKinds := [.data, .data, .data, .pinned], laidTests := true, laidLooks := .later }
def PatternBackCardSaid : Prop := Claim7.holds Tryz.pinned (.plain (OpenSpec.ofChange patternBackSpec)) patternBackCard

/-- THE TIED CARD OF 'redanlaw15.PatternHides'. -/
def patternHidesCard : Claim7 := { stood := { row := patternHidesRow, standIns := [], harness := (true, "5b45d23cf7c29805b6dd55f36f2e59c3644e39d3bd1111309b2f07d89bd5250f"), looks := false }, kinds := [], alts := [], laidByText := true, laidKinds := [.data, .data, .data, .pinned], laidTests := true, laidLooks := .later }
def PatternHidesCardSaid : Prop := Claim7.holds Tryz.pinned (.plain (OpenSpec.ofChange patternHidesSpec)) patternHidesCard

/-- THE TIED CARD OF 'redanlaw15.PatternLines'. -/
def patternLinesCard : Claim7 := { stood := { row := patternLinesRow, standIns := [], harness := (true, "5b45d23cf7c29805b6dd55f36f2e59c3644e39d3bd1111309b2f07d89bd5250f"), looks := false }, kinds := [], alts := [], laidByText := true, laidKinds := [.data, .data, .data, .pinned], laidTests := true, laidLooks := .later }
def PatternLinesCardSaid : Prop := Claim7.holds Tryz.pinned (.plain (OpenSpec.ofChange patternLinesSpec)) patternLinesCard

/-- THE TIED CARD OF 'redanlaw15.PatternOrders'. -/
def patternOrdersCard : Claim7 := { stood := { row := patternOrdersRow, standIns := [], harness := (true, "5b45d23cf7c29805b6dd55f36f2e59c3644e39d3bd1111309b2f07d89bd5250f"), looks := false }, kinds := [], alts := [], laidByText := true, laidKinds := [.data, .data, .data, .pinned], laidTests := true, laidLooks := .later }
def PatternOrdersCardSaid : Prop := Claim7.holds Tryz.pinned (.plain (OpenSpec.ofChange patternOrdersSpec)) patternOrdersCard

/-- THE SECOND FORM's CARD OF 'redanlaw15.PatternBack'. -/
def patternBackUptoCard : Claim7 := { stood := { row := patternBackUptoRow, standIns := [], harness := (true, "5b45d23cf7c29805b6dd55f36f2e59c3644e39d3bd1111309b2f07d89bd5250f"), looks := false }, kinds := [], alts := [], laidByText := true, laidKinds := [.data, .data, .data, .pinned], laidTests := true, laidLooks := .later }
def PatternBackUptoCardSaid : Prop := Claim7.holds Tryz.pinned (.plain (OpenSpec.upto patternBackSpec)) patternBackUptoCard

/-- THE SECOND FORM's CARD OF 'redanlaw15.PatternHides'. -/
def patternHidesUptoCard : Claim7 := { stood := { row := patternHidesUptoRow, standIns := [], harness := (true, "5b45d23cf7c29805b6dd55f36f2e59c3644e39d3bd1111309b2f07d89bd5250f"), looks := false }, kinds := [], alts := [], laidByText := true, laidKinds := [.data, .data, .data, .pinned], laidTests := true, laidLooks := .later }
def PatternHidesUptoCardSaid : Prop := Claim7.holds Tryz.pinned (.plain (OpenSpec.upto patternHidesSpec)) patternHidesUptoCard

/-- THE SECOND FORM's CARD OF 'redanlaw15.PatternLines'. -/
def patternLinesUptoCard : Claim7 := { stood := { row := patternLinesUptoRow, standIns := [], harness := (true, "5b45d23cf7c29805b6dd55f36f2e59c3644e39d3bd1111309b2f07d89bd5250f"), looks := false }, kinds := [], alts := [], laidByText := true, laidKinds := [.data, .data, .data, .pinned], laidTests := true, laidLooks := .later }
def PatternLinesUptoCardSaid : Prop := Claim7.holds Tryz.pinned (.plain (OpenSpec.upto patternLinesSpec)) patternLinesUptoCard

/-- THE SECOND FORM's CARD OF 'redanlaw15.PatternOrders'. -/
def patternOrdersUptoCard : Claim7 := { stood := { row := patternOrdersUptoRow, standIns := [], harness := (true, "5b45d23cf7c29805b6dd55f36f2e59c3644e39d3bd1111309b2f07d89bd5250f"), looks := false }, kinds := [], alts := [], laidByText := true, laidKinds := [.data, .data, .data, .pinned], laidTests := true, laidLooks := .later }
def PatternOrdersUptoCardSaid : Prop := Claim7.holds Tryz.pinned (.plain (OpenSpec.upto patternOrdersSpec)) patternOrdersUptoCard
end Rows
end Go.Proofs.YtpoibhhijidobabGreatDoor
