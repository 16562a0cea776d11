/-
  DERIVED. GIVEN WITH THE SEED: THE CARDS: each row of YtdlmmcilembjgaaGreatDoorRows.lean that lists a variable, with what it lists TIED to the program's text (the seventh form; the later family's looks); each row that meets fmt, with fmt's text TOLD by the authors' own Lean function (tested against real Go, not proved from fmt's source: count such statements apart). THE CARD IS WHAT COUNTS. Prove the row's statement (the work); the ties are given (YtdlmmcilembjgaaGreatDoorTie.lean); close each card by the builder's one call (the guide's Derived/Test/ToyasCard.lean, 'card_holds'). Laid BY PROGRAM, IN A SANDBOX (cutbox-door.mjs). By AI agents, Wed Nov 11 2026. No macro, syntax, notation, axiom, sorry.
-/
import Derived.Test.YtdlmmcilembjgaaGreatDoorRows
import GoSem.ClaimSeven
namespace Go.Proofs.YtdlmmcilembjgaaGreatDoor
namespace Rows

/-- THE TIED CARD OF 'redanlaw16.SymPlays'. -/
def symPlaysCard : Claim7 := { stood := { row := symPlaysRow, standIns := [], harness := (true, "2ca55184a06e37ae8a8b1b830f3550619dd8a298c49a5cd5f4abd00854f304a5"), looks := false }, kinds := [], alts := [], laidByText := true, laidKinds := [.data, .data, .data, .data], laidTests := true, laidLooks := .later }
def SymPlaysCardSaid : Prop := Claim7.holds Tryz.pinned (.plain (OpenSpec.ofChange symPlaysSpec)) symPlaysCard

/-- THE TIED CARD OF 'redanlaw16.SymSeals'. -/
def symSealsCard : Claim7 := { stood := { row := symSealsRow, standIns := [], harness := (true, "2ca55184a06e37ae8a8b1b830f3550619dd8a298c49a5cd5f4abd00854f304a5"), looks := false }, kinds := [], alts := [], laidByText := true, laidKinds := [.data, .data, .data, .data], laidTests := true, laidLooks := .later }
def SymSealsCardSaid : Prop := Claim7.holds Tryz.pinned (.plain (OpenSpec.ofChange symSealsSpec)) symSealsCard

/-- THE SECOND FORM's CARD OF 'redanlaw16.SymPlays'. -/
def symPlaysUptoCard : Claim7 := { stood := { row := symPlaysUptoRow, standIns := [], harness := (true, "2ca55184a06e37ae8a8b1b830f3550619dd8a298c49a5cd5f4abd00854f304a5"), looks := false }, kinds := [], alts := [], laidByText := true, laidKinds := [.data, .data, .data, .data], laidTests := true, laidLooks := .later }
def SymPlaysUptoCardSaid : Prop := Claim7.holds Tryz.pinned (.plain (OpenSpec.upto symPlaysSpec)) symPlaysUptoCard

/-- THE SECOND FORM's CARD OF 'redanlaw16.SymSeals'. -/
def symSealsUptoCard : Claim7 := { stood := { row := symSealsUptoRow, standIns := [], harness := (true, "2ca55184a06e37ae8a8b1b830f3550619dd8a298c49a5cd5f4abd00854f304a5"), looks := false }, kinds := [], alts := [], laidByText := true, laidKinds := [.data, .data, .data, .data], laidTests := true, laidLooks := .later }
def SymSealsUptoCardSaid : Prop := Claim7.holds Tryz.pinned (.plain (OpenSpec.upto symSealsSpec)) symSealsUptoCard
end Rows
end Go.Proofs.YtdlmmcilembjgaaGreatDoor
