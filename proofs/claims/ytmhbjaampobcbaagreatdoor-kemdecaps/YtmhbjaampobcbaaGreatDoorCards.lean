/-
  DERIVED. GIVEN WITH THE SEED: THE CARDS: each row of YtmhbjaampobcbaaGreatDoorRows.lean that lists a variable, with what it lists TIED to the program's text (the seventh form; the later family's looks); each row that meets fmt, with fmt's text TOLD by the authors' own Lean function (tested against real Go, not proved from fmt's source: count such statements apart). THE CARD IS WHAT COUNTS. Prove the row's statement (the work); the ties are given (YtmhbjaampobcbaaGreatDoorTie.lean); close each card by the builder's one call (the guide's Derived/Test/ToyasCard.lean, 'card_holds'). Laid BY PROGRAM, IN A SANDBOX (cutbox-door.mjs). By AI agents, Wed Nov 11 2026. No macro, syntax, notation, axiom, sorry.
-/
import Derived.Test.YtmhbjaampobcbaaGreatDoorRows
import GoSem.ClaimSeven
namespace Go.Proofs.YtmhbjaampobcbaaGreatDoor
namespace Rows

/-- THE TIED CARD OF 'redanlaw14.KemGens'. -/
def kemGensCard : Claim7 := { stood := { row := kemGensRow, standIns := [], harness := (true, "30a37791cc2b1ab552fbdcda61e07586592b3d815f50d685379f00db1b2d2d5f"), looks := false }, kinds := [], alts := [], laidByText := true, laidKinds := [.data, .data, .data], laidTests := true, laidLooks := .later }
def KemGensCardSaid : Prop := Claim7.holds Tryz.pinned (.plain (OpenSpec.ofChange kemGensSpec)) kemGensCard

/-- THE TIED CARD OF 'redanlaw14.KemChecks'. -/
def kemChecksCard : Claim7 := { stood := { row := kemChecksRow, standIns := [], harness := (true, "30a37791cc2b1ab552fbdcda61e07586592b3d815f50d685379f00db1b2d2d5f"), looks := false }, kinds := [], alts := [], laidByText := true, laidKinds := [.data, .data, .data], laidTests := true, laidLooks := .later }
def KemChecksCardSaid : Prop := Claim7.holds Tryz.pinned (.plain (OpenSpec.ofChange kemChecksSpec)) kemChecksCard

/-- THE TIED CARD OF 'redanlaw14.KemEncaps'. -/
def kemEncapsCard : Claim7 := { stood := { row := kemEncapsRow, standIns := [], harness := (true, "30a37791cc2b1ab552fbdcda61e07586592b3d815f50d685379f00db1b2d2d5f"), looks := false }, kinds := [], alts := [], laidByText := true, laidKinds := [.data, .data, .data], laidTests := true, laidLooks := .later }
def KemEncapsCardSaid : Prop := Claim7.holds Tryz.pinned (.plain (OpenSpec.ofChange kemEncapsSpec)) kemEncapsCard

/-- THE TIED CARD OF 'redanlaw14.KemDecaps'. -/
def kemDecapsCard : Claim7 := { stood := { row := kemDecapsRow, standIns := [], harness := (true, "30a37791cc2b1ab552fbdcda61e07586592b3d815f50d685379f00db1b2d2d5f"), looks := false }, kinds := [], alts := [], laidByText := true, laidKinds := [.data, .data, .data], laidTests := true, laidLooks := .later }
def KemDecapsCardSaid : Prop := Claim7.holds Tryz.pinned (.plain (OpenSpec.ofChange kemDecapsSpec)) kemDecapsCard

/-- THE TIED CARD OF 'redanlaw14.KemRejects'. -/
def kemRejectsCard : Claim7 := { stood := { row := kemRejectsRow, standIns := [], harness := (true, "30a37791cc2b1ab552fbdcda61e07586592b3d815f50d685379f00db1b2d2d5f"), looks := false }, kinds := [], alts := [], laidByText := true, laidKinds := [.data, .data, .data], laidTests := true, laidLooks := .later }
def KemRejectsCardSaid : Prop := Claim7.holds Tryz.pinned (.plain (OpenSpec.ofChange kemRejectsSpec)) kemRejectsCard

/-- THE SECOND FORM's CARD OF 'redanlaw14.KemGens'. -/
def kemGensUptoCard : Claim7 := { stood := { row := kemGensUptoRow, standIns := [], harness := (true, "30a37791cc2b1ab552fbdcda61e07586592b3d815f50d685379f00db1b2d2d5f"), looks := false }, kinds := [], alts := [], laidByText := true, laidKinds := [.data, .data, .data], laidTests := true, laidLooks := .later }
def KemGensUptoCardSaid : Prop := Claim7.holds Tryz.pinned (.plain (OpenSpec.upto kemGensSpec)) kemGensUptoCard

/-- THE SECOND FORM's CARD OF 'redanlaw14.KemChecks'. -/
def kemChecksUptoCard : Claim7 := { stood := { row := kemChecksUptoRow, standIns := [], harness := (true, "30a37791cc2b1ab552fbdcda61e07586592b3d815f50d685379f00db1b2d2d5f"), looks := false }, kinds := [], alts := [], laidByText := true, laidKinds := [.data, .data, .data], laidTests := true, laidLooks := .later }
def KemChecksUptoCardSaid : Prop := Claim7.holds Tryz.pinned (.plain (OpenSpec.upto kemChecksSpec)) kemChecksUptoCard

/-- THE SECOND FORM's CARD OF 'redanlaw14.KemEncaps'. -/
def kemEncapsUptoCard : Claim7 := { stood := { row := kemEncapsUptoRow, standIns := [], harness := (true, "30a37791cc2b1ab552fbdcda61e07586592b3d815f50d685379f00db1b2d2d5f"), looks := false }, kinds := [], alts := [], laidByText := true, laidKinds := [.data, .data, .data], laidTests := true, laidLooks := .later }
def KemEncapsUptoCardSaid : Prop := Claim7.holds Tryz.pinned (.plain (OpenSpec.upto kemEncapsSpec)) kemEncapsUptoCard

/-- THE SECOND FORM's CARD OF 'redanlaw14.KemDecaps'. -/
def kemDecapsUptoCard : Claim7 := { stood := { row := kemDecapsUptoRow, standIns := [], harness := (true, "30a37791cc2b1ab552fbdcda61e07586592b3d815f50d685379f00db1b2d2d5f"), looks := false }, kinds := [], alts := [], laidByText := true, laidKinds := [.data, .data, .data], laidTests := true, laidLooks := .later }
def KemDecapsUptoCardSaid : Prop := Claim7.holds Tryz.pinned (.plain (OpenSpec.upto kemDecapsSpec)) kemDecapsUptoCard

/-- THE SECOND FORM's CARD OF 'redanlaw14.KemRejects'. -/
def kemRejectsUptoCard : Claim7 := { stood := { row := kemRejectsUptoRow, standIns := [], harness := (true, "30a37791cc2b1ab552fbdcda61e07586592b3d815f50d685379f00db1b2d2d5f"), looks := false }, kinds := [], alts := [], laidByText := true, laidKinds := [.data, .data, .data], laidTests := true, laidLooks := .later }
def KemRejectsUptoCardSaid : Prop := Claim7.holds Tryz.pinned (.plain (OpenSpec.upto kemRejectsSpec)) kemRejectsUptoCard
end Rows
end Go.Proofs.YtmhbjaampobcbaaGreatDoor
