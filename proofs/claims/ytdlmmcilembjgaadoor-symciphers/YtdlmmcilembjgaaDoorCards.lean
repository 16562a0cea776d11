/-
  DERIVED. GIVEN WITH THE SEED: THE CARDS: each row of YtdlmmcilembjgaaDoorRows.lean that lists a variable, with what it lists TIED to the program's text (the seventh form; the later family's looks); each row that meets fmt, with fmt's text TOLD by the authors' own Lean function (tested against real Go, not proved from fmt's source: count such statements apart). THE CARD IS WHAT COUNTS. Prove the row's statement (the work); the ties are given (YtdlmmcilembjgaaDoorTie.lean); close each card by the builder's one call (the guide's Derived/Test/ToyasCard.lean, 'card_holds'). Laid BY PROGRAM, IN A SANDBOX (cutbox-door.mjs). By AI agents, Wed Nov 11 2026. No macro, syntax, notation, axiom, sorry.
-/
import Derived.Test.YtdlmmcilembjgaaDoorRows
import GoSem.ClaimSeven
namespace Go.Proofs.YtdlmmcilembjgaaDoor
namespace Rows

/-- THE TIED CARD OF 'redanlaw16.SymCiphers'. -/
def symCiphersCard : Claim7 := { stood := { row := symCiphersRow, standIns := [], harness := (true, "3797b96d54e33805c8f31b08ea89f080185e63fbd43cb3bf456ccf07e71663c2"), looks := false }, kinds := [], alts := [], laidByText := true, laidKinds := [.data, .data, .data, .data], laidTests := true, laidLooks := .later }
def SymCiphersCardSaid : Prop := Claim7.holds Tryd.pinned (.plain (OpenSpec.ofChange symCiphersSpec)) symCiphersCard

/-- THE TIED CARD OF 'redanlaw16.SymNone'. -/
def symNoneCard : Claim7 := { stood := { row := symNoneRow, standIns := [], harness := (true, "3797b96d54e33805c8f31b08ea89f080185e63fbd43cb3bf456ccf07e71663c2"), looks := false }, kinds := [], alts := [], laidByText := true, laidKinds := [.data, .data, .data, .data], laidTests := true, laidLooks := .later }
def SymNoneCardSaid : Prop := Claim7.holds Tryd.pinned (.plain (OpenSpec.ofChange symNoneSpec)) symNoneCard

/-- THE TIED CARD OF 'redanlaw16.SymAgrees'. -/
def symAgreesCard : Claim7 := { stood := { row := symAgreesRow, standIns := [], harness := (true, "3797b96d54e33805c8f31b08ea89f080185e63fbd43cb3bf456ccf07e71663c2"), looks := false }, kinds := [], alts := [], laidByText := true, laidKinds := [.data, .data, .data, .data], laidTests := true, laidLooks := .later }
def SymAgreesCardSaid : Prop := Claim7.holds Tryd.pinned (.plain (OpenSpec.ofChange symAgreesSpec)) symAgreesCard

/-- THE SECOND FORM's CARD OF 'redanlaw16.SymCiphers'. -/
def symCiphersUptoCard : Claim7 := { stood := { row := symCiphersUptoRow, standIns := [], harness := (true, "3797b96d54e33805c8f31b08ea89f080185e63fbd43cb3bf456ccf07e71663c2"), looks := false }, kinds := [], alts := [], laidByText := true, laidKinds := [.data, .data, .data, .data], laidTests := true, laidLooks := .later }
def SymCiphersUptoCardSaid : Prop := Claim7.holds Tryd.pinned (.plain (OpenSpec.upto symCiphersSpec)) symCiphersUptoCard

/-- THE SECOND FORM's CARD OF 'redanlaw16.SymNone'. -/
def symNoneUptoCard : Claim7 := { stood := { row := symNoneUptoRow, standIns := [], harness := (true, "3797b96d54e33805c8f31b08ea89f080185e63fbd43cb3bf456ccf07e71663c2"), looks := false }, kinds := [], alts := [], laidByText := true, laidKinds := [.data, .data, .data, .data], laidTests := true, laidLooks := .later }
def SymNoneUptoCardSaid : Prop := Claim7.holds Tryd.pinned (.plain (OpenSpec.upto symNoneSpec)) symNoneUptoCard

/-- THE SECOND FORM's CARD OF 'redanlaw16.SymAgrees'. -/
def symAgreesUptoCard : Claim7 := { stood := { row := symAgreesUptoRow, standIns := [], harness := (true, "3797b96d54e33805c8f31b08ea89f080185e63fbd43cb3bf456ccf07e71663c2"), looks := false }, kinds := [], alts := [], laidByText := true, laidKinds := [.data, .data, .data, .data], laidTests := true, laidLooks := .later }
def SymAgreesUptoCardSaid : Prop := Claim7.holds Tryd.pinned (.plain (OpenSpec.upto symAgreesSpec)) symAgreesUptoCard
end Rows
end Go.Proofs.YtdlmmcilembjgaaDoor
