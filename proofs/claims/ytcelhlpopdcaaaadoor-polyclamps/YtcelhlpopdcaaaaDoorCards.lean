/-
  DERIVED. GIVEN WITH THE SEED: THE CARDS: each row of YtcelhlpopdcaaaaDoorRows.lean that lists a variable, with what it lists TIED to the program's text (the seventh form; the later family's looks); each row that meets fmt, with fmt's text TOLD by the authors' own Lean function (tested against real Go, not proved from fmt's source: count such statements apart). THE CARD IS WHAT COUNTS. Prove the row's statement (the work); the ties are given (YtcelhlpopdcaaaaDoorTie.lean); close each card by the builder's one call (the guide's Derived/Test/ToyasCard.lean, 'card_holds'). Laid BY PROGRAM, IN A SANDBOX (cutbox-door.mjs). By AI agents, Wed Nov 11 2026. No macro, syntax, notation, axiom, sorry.
-/
import Derived.Test.YtcelhlpopdcaaaaDoorRows
import GoSem.ClaimSeven
namespace Go.Proofs.YtcelhlpopdcaaaaDoor
namespace Rows

/-- THE TIED CARD OF 'redanlaw08.PolyMacs'. -/
def polyMacsCard : Claim7 := { stood := { row := polyMacsRow, standIns := [], harness := (true, "53dcdd1c016a07fa99621bbd3b10bfe727521dce627868f4ac6bcbd5577eb36a"), looks := false }, kinds := [], alts := [], laidByText := true, laidKinds := [.data], laidTests := true, laidLooks := .later }
def PolyMacsCardSaid : Prop := Claim7.holds Tryd.pinned (.plain (OpenSpec.ofChange polyMacsSpec)) polyMacsCard

/-- THE TIED CARD OF 'redanlaw08.PolyClamps'. -/
def polyClampsCard : Claim7 := { stood := { row := polyClampsRow, standIns := [], harness := (true, "53dcdd1c016a07fa99621bbd3b10bfe727521dce627868f4ac6bcbd5577eb36a"), looks := false }, kinds := [], alts := [], laidByText := true, laidKinds := [.data], laidTests := true, laidLooks := .later }
def PolyClampsCardSaid : Prop := Claim7.holds Tryd.pinned (.plain (OpenSpec.ofChange polyClampsSpec)) polyClampsCard

/-- THE TIED CARD OF 'redanlaw08.PolyOpen'. -/
def polyOpenCard : Claim7 := { stood := { row := polyOpenRow, standIns := [], harness := (true, "53dcdd1c016a07fa99621bbd3b10bfe727521dce627868f4ac6bcbd5577eb36a"), looks := false }, kinds := [], alts := [], laidByText := true, laidKinds := [.data], laidTests := true, laidLooks := .later }
def PolyOpenCardSaid : Prop := Claim7.holds Tryd.pinned (.plain (OpenSpec.ofChange polyOpenSpec)) polyOpenCard

/-- THE TIED CARD OF 'redanlaw08.PolyShort'. -/
def polyShortCard : Claim7 := { stood := { row := polyShortRow, standIns := [], harness := (true, "53dcdd1c016a07fa99621bbd3b10bfe727521dce627868f4ac6bcbd5577eb36a"), looks := false }, kinds := [], alts := [], laidByText := true, laidKinds := [.data], laidTests := true, laidLooks := .later }
def PolyShortCardSaid : Prop := Claim7.holds Tryd.pinned (.plain (OpenSpec.ofChange polyShortSpec)) polyShortCard

/-- THE TIED CARD OF 'redanlaw08.PolyFull'. -/
def polyFullCard : Claim7 := { stood := { row := polyFullRow, standIns := [], harness := (true, "53dcdd1c016a07fa99621bbd3b10bfe727521dce627868f4ac6bcbd5577eb36a"), looks := false }, kinds := [], alts := [], laidByText := true, laidKinds := [.data], laidTests := true, laidLooks := .later }
def PolyFullCardSaid : Prop := Claim7.holds Tryd.pinned (.plain (OpenSpec.ofChange polyFullSpec)) polyFullCard

/-- THE SECOND FORM's CARD OF 'redanlaw08.PolyMacs'. -/
def polyMacsUptoCard : Claim7 := { stood := { row := polyMacsUptoRow, standIns := [], harness := (true, "53dcdd1c016a07fa99621bbd3b10bfe727521dce627868f4ac6bcbd5577eb36a"), looks := false }, kinds := [], alts := [], laidByText := true, laidKinds := [.data], laidTests := true, laidLooks := .later }
def PolyMacsUptoCardSaid : Prop := Claim7.holds Tryd.pinned (.plain (OpenSpec.upto polyMacsSpec)) polyMacsUptoCard

/-- THE SECOND FORM's CARD OF 'redanlaw08.PolyClamps'. -/
def polyClampsUptoCard : Claim7 := { stood := { row := polyClampsUptoRow, standIns := [], harness := (true, "53dcdd1c016a07fa99621bbd3b10bfe727521dce627868f4ac6bcbd5577eb36a"), looks := false }, kinds := [], alts := [], laidByText := true, laidKinds := [.data], laidTests := true, laidLooks := .later }
def PolyClampsUptoCardSaid : Prop := Claim7.holds Tryd.pinned (.plain (OpenSpec.upto polyClampsSpec)) polyClampsUptoCard

/-- THE SECOND FORM's CARD OF 'redanlaw08.PolyOpen'. -/
def polyOpenUptoCard : Claim7 := { stood := { row := polyOpenUptoRow, standIns := [], harness := (true, "53dcdd1c016a07fa99621bbd3b10bfe727521dce627868f4ac6bcbd5577eb36a"), looks := false }, kinds := [], alts := [], laidByText := true, laidKinds := [.data], laidTests := true, laidLooks := .later }
def PolyOpenUptoCardSaid : Prop := Claim7.holds Tryd.pinned (.plain (OpenSpec.upto polyOpenSpec)) polyOpenUptoCard

/-- THE SECOND FORM's CARD OF 'redanlaw08.PolyShort'. -/
def polyShortUptoCard : Claim7 := { stood := { row := polyShortUptoRow, standIns := [], harness := (true, "53dcdd1c016a07fa99621bbd3b10bfe727521dce627868f4ac6bcbd5577eb36a"), looks := false }, kinds := [], alts := [], laidByText := true, laidKinds := [.data], laidTests := true, laidLooks := .later }
def PolyShortUptoCardSaid : Prop := Claim7.holds Tryd.pinned (.plain (OpenSpec.upto polyShortSpec)) polyShortUptoCard

/-- THE SECOND FORM's CARD OF 'redanlaw08.PolyFull'. -/
def polyFullUptoCard : Claim7 := { stood := { row := polyFullUptoRow, standIns := [], harness := (true, "53dcdd1c016a07fa99621bbd3b10bfe727521dce627868f4ac6bcbd5577eb36a"), looks := false }, kinds := [], alts := [], laidByText := true, laidKinds := [.data], laidTests := true, laidLooks := .later }
def PolyFullUptoCardSaid : Prop := Claim7.holds Tryd.pinned (.plain (OpenSpec.upto polyFullSpec)) polyFullUptoCard
end Rows
end Go.Proofs.YtcelhlpopdcaaaaDoor
