/-
  DERIVED. GIVEN WITH THE SEED: THE CARDS: each row of YtlcnepnappfjeabDoorRows.lean that lists a variable, with what it lists TIED to the program's text (the seventh form; the later family's looks); each row that meets fmt, with fmt's text TOLD by the authors' own Lean function (tested against real Go, not proved from fmt's source: count such statements apart). THE CARD IS WHAT COUNTS. Prove the row's statement (the work); the ties are given (YtlcnepnappfjeabDoorTie.lean); close each card by the builder's one call (the guide's Derived/Test/ToyasCard.lean, 'card_holds'). Laid BY PROGRAM, IN A SANDBOX (cutbox-door.mjs). By AI agents, Wed Nov 11 2026. No macro, syntax, notation, axiom, sorry.
-/
import Derived.Test.YtlcnepnappfjeabDoorRows
import GoSem.ClaimSeven
namespace Go.Proofs.YtlcnepnappfjeabDoor
namespace Rows

/-- THE TIED CARD OF 'redanlaw12.SampleSmall'. -/
def sampleSmallCard : Claim7 := { stood := { row := sampleSmallRow, standIns := [], harness := (true, "4209ab557890085a387fd21f79a75822f299b290fd2db8e2970b37cb02a51a6f"), looks := false }, kinds := [], alts := [], laidByText := true, laidKinds := [.data, .data], laidTests := true, laidLooks := .later }
def SampleSmallCardSaid : Prop := Claim7.holds Tryd.pinned (.plain (OpenSpec.ofChange sampleSmallSpec)) sampleSmallCard

/-- THE SECOND FORM's CARD OF 'redanlaw12.SampleSmall'. -/
def sampleSmallUptoCard : Claim7 := { stood := { row := sampleSmallUptoRow, standIns := [], harness := (true, "4209ab557890085a387fd21f79a75822f299b290fd2db8e2970b37cb02a51a6f"), looks := false }, kinds := [], alts := [], laidByText := true, laidKinds := [.data, .data], laidTests := true, laidLooks := .later }
def SampleSmallUptoCardSaid : Prop := Claim7.holds Tryd.pinned (.plain (OpenSpec.upto sampleSmallSpec)) sampleSmallUptoCard
end Rows
end Go.Proofs.YtlcnepnappfjeabDoor
