/-
  DERIVED. GIVEN WITH THE SEED: THE CARDS: each row of YtbladcgdbhogcabDoorRows.lean that lists a variable, with what it lists TIED to the program's text (the seventh form; the later family's looks); each row that meets fmt, with fmt's text TOLD by the authors' own Lean function (tested against real Go, not proved from fmt's source: count such statements apart). THE CARD IS WHAT COUNTS. Prove the row's statement (the work); the ties are given (YtbladcgdbhogcabDoorTie.lean); close each card by the builder's one call (the guide's Derived/Test/ToyasCard.lean, 'card_holds'). Laid BY PROGRAM, IN A SANDBOX (cutbox-door.mjs). By AI agents, Wed Nov 11 2026. No macro, syntax, notation, axiom, sorry.
-/
import Derived.Test.YtbladcgdbhogcabDoorRows
import GoSem.ClaimSeven
namespace Go.Proofs.YtbladcgdbhogcabDoor
namespace Rows

/-- THE TIED CARD OF 'redanlaw11.NttPowers'. -/
def nttPowersCard : Claim7 := { stood := { row := nttPowersRow, standIns := [], harness := (true, "9d1f02baf76ce4f4a029c9289b742009993bb78f9dba6e3ef43b20e9dc141522"), looks := false }, kinds := [], alts := [], laidByText := true, laidKinds := [.data], laidTests := true, laidLooks := .later }
def NttPowersCardSaid : Prop := Claim7.holds Tryd.pinned (.plain (OpenSpec.ofChange nttPowersSpec)) nttPowersCard

/-- THE SECOND FORM's CARD OF 'redanlaw11.NttPowers'. -/
def nttPowersUptoCard : Claim7 := { stood := { row := nttPowersUptoRow, standIns := [], harness := (true, "9d1f02baf76ce4f4a029c9289b742009993bb78f9dba6e3ef43b20e9dc141522"), looks := false }, kinds := [], alts := [], laidByText := true, laidKinds := [.data], laidTests := true, laidLooks := .later }
def NttPowersUptoCardSaid : Prop := Claim7.holds Tryd.pinned (.plain (OpenSpec.upto nttPowersSpec)) nttPowersUptoCard
end Rows
end Go.Proofs.YtbladcgdbhogcabDoor
