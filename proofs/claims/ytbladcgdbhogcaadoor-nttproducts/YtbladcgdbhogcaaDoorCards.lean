/-
  DERIVED. GIVEN WITH THE SEED: THE CARDS: each row of YtbladcgdbhogcaaDoorRows.lean that lists a variable, with what it lists TIED to the program's text (the seventh form; the later family's looks); each row that meets fmt, with fmt's text TOLD by the authors' own Lean function (tested against real Go, not proved from fmt's source: count such statements apart). THE CARD IS WHAT COUNTS. Prove the row's statement (the work); the ties are given (YtbladcgdbhogcaaDoorTie.lean); close each card by the builder's one call (the guide's Derived/Test/ToyasCard.lean, 'card_holds'). Laid BY PROGRAM, IN A SANDBOX (cutbox-door.mjs). By AI agents, Wed Nov 11 2026. No macro, syntax, notation, axiom, sorry.
-/
import Derived.Test.YtbladcgdbhogcaaDoorRows
import GoSem.ClaimSeven
namespace Go.Proofs.YtbladcgdbhogcaaDoor
namespace Rows

/-- THE TIED CARD OF 'redanlaw11.NttSums'. -/
def nttSumsCard : Claim7 := { stood := { row := nttSumsRow, standIns := [], harness := (true, "5c03010fd8ceae72b04f2c7689fbcf67c8ae14ea0bdd609b98720db1205bc9b3"), looks := false }, kinds := [], alts := [], laidByText := true, laidKinds := [.data], laidTests := true, laidLooks := .later }
def NttSumsCardSaid : Prop := Claim7.holds Tryd.pinned (.plain (OpenSpec.ofChange nttSumsSpec)) nttSumsCard

/-- THE TIED CARD OF 'redanlaw11.NttForward'. -/
def nttForwardCard : Claim7 := { stood := { row := nttForwardRow, standIns := [], harness := (true, "5c03010fd8ceae72b04f2c7689fbcf67c8ae14ea0bdd609b98720db1205bc9b3"), looks := false }, kinds := [], alts := [], laidByText := true, laidKinds := [.data], laidTests := true, laidLooks := .later }
def NttForwardCardSaid : Prop := Claim7.holds Tryd.pinned (.plain (OpenSpec.ofChange nttForwardSpec)) nttForwardCard

/-- THE TIED CARD OF 'redanlaw11.NttInverse'. -/
def nttInverseCard : Claim7 := { stood := { row := nttInverseRow, standIns := [], harness := (true, "5c03010fd8ceae72b04f2c7689fbcf67c8ae14ea0bdd609b98720db1205bc9b3"), looks := false }, kinds := [], alts := [], laidByText := true, laidKinds := [.data], laidTests := true, laidLooks := .later }
def NttInverseCardSaid : Prop := Claim7.holds Tryd.pinned (.plain (OpenSpec.ofChange nttInverseSpec)) nttInverseCard

/-- THE TIED CARD OF 'redanlaw11.NttTimes'. -/
def nttTimesCard : Claim7 := { stood := { row := nttTimesRow, standIns := [], harness := (true, "5c03010fd8ceae72b04f2c7689fbcf67c8ae14ea0bdd609b98720db1205bc9b3"), looks := false }, kinds := [], alts := [], laidByText := true, laidKinds := [.data], laidTests := true, laidLooks := .later }
def NttTimesCardSaid : Prop := Claim7.holds Tryd.pinned (.plain (OpenSpec.ofChange nttTimesSpec)) nttTimesCard

/-- THE TIED CARD OF 'redanlaw11.NttProducts'. -/
def nttProductsCard : Claim7 := { stood := { row := nttProductsRow, standIns := [], harness := (true, "5c03010fd8ceae72b04f2c7689fbcf67c8ae14ea0bdd609b98720db1205bc9b3"), looks := false }, kinds := [], alts := [], laidByText := true, laidKinds := [.data], laidTests := true, laidLooks := .later }
def NttProductsCardSaid : Prop := Claim7.holds Tryd.pinned (.plain (OpenSpec.ofChange nttProductsSpec)) nttProductsCard

/-- THE TIED CARD OF 'redanlaw11.NttLaws'. -/
def nttLawsCard : Claim7 := { stood := { row := nttLawsRow, standIns := [], harness := (true, "5c03010fd8ceae72b04f2c7689fbcf67c8ae14ea0bdd609b98720db1205bc9b3"), looks := false }, kinds := [], alts := [], laidByText := true, laidKinds := [.data], laidTests := true, laidLooks := .later }
def NttLawsCardSaid : Prop := Claim7.holds Tryd.pinned (.plain (OpenSpec.ofChange nttLawsSpec)) nttLawsCard

/-- THE SECOND FORM's CARD OF 'redanlaw11.NttSums'. -/
def nttSumsUptoCard : Claim7 := { stood := { row := nttSumsUptoRow, standIns := [], harness := (true, "5c03010fd8ceae72b04f2c7689fbcf67c8ae14ea0bdd609b98720db1205bc9b3"), looks := false }, kinds := [], alts := [], laidByText := true, laidKinds := [.data], laidTests := true, laidLooks := .later }
def NttSumsUptoCardSaid : Prop := Claim7.holds Tryd.pinned (.plain (OpenSpec.upto nttSumsSpec)) nttSumsUptoCard

/-- THE SECOND FORM's CARD OF 'redanlaw11.NttForward'. -/
def nttForwardUptoCard : Claim7 := { stood := { row := nttForwardUptoRow, standIns := [], harness := (true, "5c03010fd8ceae72b04f2c7689fbcf67c8ae14ea0bdd609b98720db1205bc9b3"), looks := false }, kinds := [], alts := [], laidByText := true, laidKinds := [.data], laidTests := true, laidLooks := .later }
def NttForwardUptoCardSaid : Prop := Claim7.holds Tryd.pinned (.plain (OpenSpec.upto nttForwardSpec)) nttForwardUptoCard

/-- THE SECOND FORM's CARD OF 'redanlaw11.NttInverse'. -/
def nttInverseUptoCard : Claim7 := { stood := { row := nttInverseUptoRow, standIns := [], harness := (true, "5c03010fd8ceae72b04f2c7689fbcf67c8ae14ea0bdd609b98720db1205bc9b3"), looks := false }, kinds := [], alts := [], laidByText := true, laidKinds := [.data], laidTests := true, laidLooks := .later }
def NttInverseUptoCardSaid : Prop := Claim7.holds Tryd.pinned (.plain (OpenSpec.upto nttInverseSpec)) nttInverseUptoCard

/-- THE SECOND FORM's CARD OF 'redanlaw11.NttTimes'. -/
def nttTimesUptoCard : Claim7 := { stood := { row := nttTimesUptoRow, standIns := [], harness := (true, "5c03010fd8ceae72b04f2c7689fbcf67c8ae14ea0bdd609b98720db1205bc9b3"), looks := false }, kinds := [], alts := [], laidByText := true, laidKinds := [.data], laidTests := true, laidLooks := .later }
def NttTimesUptoCardSaid : Prop := Claim7.holds Tryd.pinned (.plain (OpenSpec.upto nttTimesSpec)) nttTimesUptoCard

/-- THE SECOND FORM's CARD OF 'redanlaw11.NttProducts'. -/
def nttProductsUptoCard : Claim7 := { stood := { row := nttProductsUptoRow, standIns := [], harness := (true, "5c03010fd8ceae72b04f2c7689fbcf67c8ae14ea0bdd609b98720db1205bc9b3"), looks := false }, kinds := [], alts := [], laidByText := true, laidKinds := [.data], laidTests := true, laidLooks := .later }
def NttProductsUptoCardSaid : Prop := Claim7.holds Tryd.pinned (.plain (OpenSpec.upto nttProductsSpec)) nttProductsUptoCard

/-- THE SECOND FORM's CARD OF 'redanlaw11.NttLaws'. -/
def nttLawsUptoCard : Claim7 := { stood := { row := nttLawsUptoRow, standIns := [], harness := (true, "5c03010fd8ceae72b04f2c7689fbcf67c8ae14ea0bdd609b98720db1205bc9b3"), looks := false }, kinds := [], alts := [], laidByText := true, laidKinds := [.data], laidTests := true, laidLooks := .later }
def NttLawsUptoCardSaid : Prop := Claim7.holds Tryd.pinned (.plain (OpenSpec.upto nttLawsSpec)) nttLawsUptoCard
end Rows
end Go.Proofs.YtbladcgdbhogcaaDoor
