/-
  DERIVED. GIVEN WITH THE SEED: THE CARDS: each row of YtpoibhhijidobaaGreatDoorRows.lean that lists a variable, with what it lists TIED to the program's text (the seventh form; the later family's looks); each row that meets fmt, with fmt's text TOLD by the authors' own Lean function (tested against real Go, not proved from fmt's source: count such statements apart). THE CARD IS WHAT COUNTS. Prove the row's statement (the work); the ties are given (YtpoibhhijidobaaGreatDoorTie.lean); close each card by the builder's one call (the guide's Derived/Test/ToyasCard.lean, 'card_holds'). Laid BY PROGRAM, IN A SANDBOX (cutbox-door.mjs). By AI agents, Wed Nov 11 2026. No macro, syntax, notation, axiom, sorry.
-/
import Derived.Test.YtpoibhhijidobaaGreatDoorRows
import GoSem.ClaimSeven
namespace Go.Proofs.YtpoibhhijidobaaGreatDoor
namespace Rows

/-- THE TIED CARD OF 'redanlaw15.PatternParses'. -/
def patternParsesCard : Claim7 := { stood := { row := patternParsesRow, standIns := [], harness := (true, "10299169b29aef2cb96d4b0be0bd6512cc92213082bf02e8881eebbfc1b23c49"), looks := false }, kinds := [], alts := [], laidByText := true, laidKinds := [.data, .data, .data, .pinned], laidTests := true, laidLooks := .later }
def PatternParsesCardSaid : Prop := Claim7.holds Tryz.pinned (.plain (OpenSpec.ofChange patternParsesSpec)) patternParsesCard

/-- THE TIED CARD OF 'redanlaw15.PatternTells'. -/
def patternTellsCard : Claim7 := { stood := { row := patternTellsRow, standIns := [], harness := (true, "10299169b29aef2cb96d4b0be0bd6512cc92213082bf02e8881eebbfc1b23c49"), looks := false }, kinds := [], alts := [], laidByText := true, laidKinds := [.data, .data, .data, .pinned], laidTests := true, laidLooks := .later }
def PatternTellsCardSaid : Prop := Claim7.holds Tryz.pinned (.plain (OpenSpec.ofChange patternTellsSpec)) patternTellsCard

/-- THE TIED CARD OF 'redanlaw15.PatternChecks'. -/
def patternChecksCard : Claim7 := { stood := { row := patternChecksRow, standIns := [], harness := (true, "10299169b29aef2cb96d4b0be0bd6512cc92213082bf02e8881eebbfc1b23c49"), looks := false }, kinds := [], alts := [], laidByText := true, laidKinds := [.data, .data, .data, .pinned], laidTests := true, laidLooks := .later }
def PatternChecksCardSaid : Prop := Claim7.holds Tryz.pinned (.plain (OpenSpec.ofChange patternChecksSpec)) patternChecksCard

/-- THE TIED CARD OF 'redanlaw15.PatternGuards'. -/
def patternGuardsCard : Claim7 := { stood := { row := patternGuardsRow, standIns := [], harness := (true, "10299169b29aef2cb96d4b0be0bd6512cc92213082bf02e8881eebbfc1b23c49"), looks := false }, kinds := [], alts := [], laidByText := true, laidKinds := [.data, .data, .data, .pinned], laidTests := true, laidLooks := .later }
def PatternGuardsCardSaid : Prop := Claim7.holds Tryz.pinned (.plain (OpenSpec.ofChange patternGuardsSpec)) patternGuardsCard

/-- THE TIED CARD OF 'redanlaw15.PatternDerives'. -/
def patternDerivesCard : Claim7 := { stood := { row := patternDerivesRow, standIns := [], harness := (true, "10299169b29aef2cb96d4b0be0bd6512cc92213082bf02e8881eebbfc1b23c49"), looks := false }, kinds := [], alts := [], laidByText := true, laidKinds := [.data, .data, .data, .pinned], laidTests := true, laidLooks := .later }
def PatternDerivesCardSaid : Prop := Claim7.holds Tryz.pinned (.plain (OpenSpec.ofChange patternDerivesSpec)) patternDerivesCard

/-- THE TIED CARD OF 'redanlaw15.PatternGiven'. -/
def patternGivenCard : Claim7 := { stood := { row := patternGivenRow, standIns := [], harness := (true, "10299169b29aef2cb96d4b0be0bd6512cc92213082bf02e8881eebbfc1b23c49"), looks := false }, kinds := [], alts := [], laidByText := true, laidKinds := [.data, .data, .data, .pinned], laidTests := true, laidLooks := .later }
def PatternGivenCardSaid : Prop := Claim7.holds Tryz.pinned (.plain (OpenSpec.ofChange patternGivenSpec)) patternGivenCard

/-- THE SECOND FORM's CARD OF 'redanlaw15.PatternParses'. -/
def patternParsesUptoCard : Claim7 := { stood := { row := patternParsesUptoRow, standIns := [], harness := (true, "10299169b29aef2cb96d4b0be0bd6512cc92213082bf02e8881eebbfc1b23c49"), looks := false }, kinds := [], alts := [], laidByText := true, laidKinds := [.data, .data, .data, .pinned], laidTests := true, laidLooks := .later }
def PatternParsesUptoCardSaid : Prop := Claim7.holds Tryz.pinned (.plain (OpenSpec.upto patternParsesSpec)) patternParsesUptoCard

/-- THE SECOND FORM's CARD OF 'redanlaw15.PatternTells'. -/
def patternTellsUptoCard : Claim7 := { stood := { row := patternTellsUptoRow, standIns := [], harness := (true, "10299169b29aef2cb96d4b0be0bd6512cc92213082bf02e8881eebbfc1b23c49"), looks := false }, kinds := [], alts := [], laidByText := true, laidKinds := [.data, .data, .data, .pinned], laidTests := true, laidLooks := .later }
def PatternTellsUptoCardSaid : Prop := Claim7.holds Tryz.pinned (.plain (OpenSpec.upto patternTellsSpec)) patternTellsUptoCard

/-- THE SECOND FORM's CARD OF 'redanlaw15.PatternChecks'. -/
def patternChecksUptoCard : Claim7 := { stood := { row := patternChecksUptoRow, standIns := [], harness := (true, "10299169b29aef2cb96d4b0be0bd6512cc92213082bf02e8881eebbfc1b23c49"), looks := false }, kinds := [], alts := [], laidByText := true, laidKinds := [.data, .data, .data, .pinned], laidTests := true, laidLooks := .later }
def PatternChecksUptoCardSaid : Prop := Claim7.holds Tryz.pinned (.plain (OpenSpec.upto patternChecksSpec)) patternChecksUptoCard

/-- THE SECOND FORM's CARD OF 'redanlaw15.PatternGuards'. -/
def patternGuardsUptoCard : Claim7 := { stood := { row := patternGuardsUptoRow, standIns := [], harness := (true, "10299169b29aef2cb96d4b0be0bd6512cc92213082bf02e8881eebbfc1b23c49"), looks := false }, kinds := [], alts := [], laidByText := true, laidKinds := [.data, .data, .data, .pinned], laidTests := true, laidLooks := .later }
def PatternGuardsUptoCardSaid : Prop := Claim7.holds Tryz.pinned (.plain (OpenSpec.upto patternGuardsSpec)) patternGuardsUptoCard

/-- THE SECOND FORM's CARD OF 'redanlaw15.PatternDerives'. -/
def patternDerivesUptoCard : Claim7 := { stood := { row := patternDerivesUptoRow, standIns := [], harness := (true, "10299169b29aef2cb96d4b0be0bd6512cc92213082bf02e8881eebbfc1b23c49"), looks := false }, kinds := [], alts := [], laidByText := true, laidKinds := [.data, .data, .data, .pinned], laidTests := true, laidLooks := .later }
def PatternDerivesUptoCardSaid : Prop := Claim7.holds Tryz.pinned (.plain (OpenSpec.upto patternDerivesSpec)) patternDerivesUptoCard

/-- THE SECOND FORM's CARD OF 'redanlaw15.PatternGiven'. -/
def patternGivenUptoCard : Claim7 := { stood := { row := patternGivenUptoRow, standIns := [], harness := (true, "10299169b29aef2cb96d4b0be0bd6512cc92213082bf02e8881eebbfc1b23c49"), looks := false }, kinds := [], alts := [], laidByText := true, laidKinds := [.data, .data, .data, .pinned], laidTests := true, laidLooks := .later }
def PatternGivenUptoCardSaid : Prop := Claim7.holds Tryz.pinned (.plain (OpenSpec.upto patternGivenSpec)) patternGivenUptoCard
end Rows
end Go.Proofs.YtpoibhhijidobaaGreatDoor
