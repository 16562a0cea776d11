/-
  DERIVED. GIVEN WITH THE SEED: THE CARDS: each row of YtliiofjcghdjoaaDoorRows.lean that lists a variable, with what it lists TIED to the program's text (the seventh form; the later family's looks); each row that meets fmt, with fmt's text TOLD by the authors' own Lean function (tested against real Go, not proved from fmt's source: count such statements apart). THE CARD IS WHAT COUNTS. Prove the row's statement (the work); the ties are given (YtliiofjcghdjoaaDoorTie.lean); close each card by the builder's one call (the guide's Derived/Test/ToyasCard.lean, 'card_holds'). Laid BY PROGRAM, IN A SANDBOX (cutbox-door.mjs). By AI agents, Wed Nov 11 2026. No macro, syntax, notation, axiom, sorry.
-/
import Derived.Test.YtliiofjcghdjoaaDoorRows
import GoSem.ClaimSeven
namespace Go.Proofs.YtliiofjcghdjoaaDoor
namespace Rows

/-- THE TIED CARD OF 'redanlaw22.SessionWaits'. -/
def sessionWaitsCard : Claim7 := { stood := { row := sessionWaitsRow, standIns := [], harness := (true, "4cbf04f5636f7a71c20dcbf8a4474e24c34ebcf9cd8b9b7e63cd473c3aa3073a"), looks := false }, kinds := [], alts := [], laidByText := true, laidKinds := [.data, .data], laidTests := true, laidLooks := .later }
def SessionWaitsCardSaid : Prop := Claim7.holds Tryd.pinned (.plain (OpenSpec.ofChange sessionWaitsSpec)) sessionWaitsCard

/-- THE TIED CARD OF 'redanlaw22.SessionPlays'. -/
def sessionPlaysCard : Claim7 := { stood := { row := sessionPlaysRow, standIns := [], harness := (true, "4cbf04f5636f7a71c20dcbf8a4474e24c34ebcf9cd8b9b7e63cd473c3aa3073a"), looks := false }, kinds := [], alts := [], laidByText := true, laidKinds := [.data, .data], laidTests := true, laidLooks := .later }
def SessionPlaysCardSaid : Prop := Claim7.holds Tryd.pinned (.plain (OpenSpec.ofChange sessionPlaysSpec)) sessionPlaysCard

/-- THE TIED CARD OF 'redanlaw22.SessionBounds'. -/
def sessionBoundsCard : Claim7 := { stood := { row := sessionBoundsRow, standIns := [], harness := (true, "4cbf04f5636f7a71c20dcbf8a4474e24c34ebcf9cd8b9b7e63cd473c3aa3073a"), looks := false }, kinds := [], alts := [], laidByText := true, laidKinds := [.data, .data], laidTests := true, laidLooks := .later }
def SessionBoundsCardSaid : Prop := Claim7.holds Tryd.pinned (.plain (OpenSpec.ofChange sessionBoundsSpec)) sessionBoundsCard

/-- THE TIED CARD OF 'redanlaw22.SessionDoubles'. -/
def sessionDoublesCard : Claim7 := { stood := { row := sessionDoublesRow, standIns := [], harness := (true, "4cbf04f5636f7a71c20dcbf8a4474e24c34ebcf9cd8b9b7e63cd473c3aa3073a"), looks := false }, kinds := [], alts := [], laidByText := true, laidKinds := [.data, .data], laidTests := true, laidLooks := .later }
def SessionDoublesCardSaid : Prop := Claim7.holds Tryd.pinned (.plain (OpenSpec.ofChange sessionDoublesSpec)) sessionDoublesCard

/-- THE SECOND FORM's CARD OF 'redanlaw22.SessionWaits'. -/
def sessionWaitsUptoCard : Claim7 := { stood := { row := sessionWaitsUptoRow, standIns := [], harness := (true, "4cbf04f5636f7a71c20dcbf8a4474e24c34ebcf9cd8b9b7e63cd473c3aa3073a"), looks := false }, kinds := [], alts := [], laidByText := true, laidKinds := [.data, .data], laidTests := true, laidLooks := .later }
def SessionWaitsUptoCardSaid : Prop := Claim7.holds Tryd.pinned (.plain (OpenSpec.upto sessionWaitsSpec)) sessionWaitsUptoCard

/-- THE SECOND FORM's CARD OF 'redanlaw22.SessionPlays'. -/
def sessionPlaysUptoCard : Claim7 := { stood := { row := sessionPlaysUptoRow, standIns := [], harness := (true, "4cbf04f5636f7a71c20dcbf8a4474e24c34ebcf9cd8b9b7e63cd473c3aa3073a"), looks := false }, kinds := [], alts := [], laidByText := true, laidKinds := [.data, .data], laidTests := true, laidLooks := .later }
def SessionPlaysUptoCardSaid : Prop := Claim7.holds Tryd.pinned (.plain (OpenSpec.upto sessionPlaysSpec)) sessionPlaysUptoCard

/-- THE SECOND FORM's CARD OF 'redanlaw22.SessionBounds'. -/
def sessionBoundsUptoCard : Claim7 := { stood := { row := sessionBoundsUptoRow, standIns := [], harness := (true, "4cbf04f5636f7a71c20dcbf8a4474e24c34ebcf9cd8b9b7e63cd473c3aa3073a"), looks := false }, kinds := [], alts := [], laidByText := true, laidKinds := [.data, .data], laidTests := true, laidLooks := .later }
def SessionBoundsUptoCardSaid : Prop := Claim7.holds Tryd.pinned (.plain (OpenSpec.upto sessionBoundsSpec)) sessionBoundsUptoCard

/-- THE SECOND FORM's CARD OF 'redanlaw22.SessionDoubles'. -/
def sessionDoublesUptoCard : Claim7 := { stood := { row := sessionDoublesUptoRow, standIns := [], harness := (true, "4cbf04f5636f7a71c20dcbf8a4474e24c34ebcf9cd8b9b7e63cd473c3aa3073a"), looks := false }, kinds := [], alts := [], laidByText := true, laidKinds := [.data, .data], laidTests := true, laidLooks := .later }
def SessionDoublesUptoCardSaid : Prop := Claim7.holds Tryd.pinned (.plain (OpenSpec.upto sessionDoublesSpec)) sessionDoublesUptoCard
end Rows
end Go.Proofs.YtliiofjcghdjoaaDoor
