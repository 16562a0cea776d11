/-
  DERIVED. GIVEN WITH THE SEED: THE CARDS: each row of YtfloppipcahmkaaDoorRows.lean that lists a variable, with what it lists TIED to the program's text (the seventh form; the later family's looks); each row that meets fmt, with fmt's text TOLD by the authors' own Lean function (tested against real Go, not proved from fmt's source: count such statements apart). THE CARD IS WHAT COUNTS. Prove the row's statement (the work); the ties are given (YtfloppipcahmkaaDoorTie.lean); close each card by the builder's one call (the guide's Derived/Test/ToyasCard.lean, 'card_holds'). Laid BY PROGRAM, IN A SANDBOX (cutbox-door.mjs). By AI agents, Wed Nov 11 2026. No macro, syntax, notation, axiom, sorry.
-/
import Derived.Test.YtfloppipcahmkaaDoorRows
import GoSem.ClaimSeven
namespace Go.Proofs.YtfloppipcahmkaaDoor
namespace Rows

/-- THE TIED CARD OF 'redanlaw10.ZqRests'. -/
def zqRestsCard : Claim7 := { stood := { row := zqRestsRow, standIns := [], harness := (true, "bc1b29e724a7dc6f0c8d684485d0cc1d7435ed02317c5ebf2c236d099b3823ad"), looks := false }, kinds := [], alts := [], laidByText := true, laidKinds := [.data], laidTests := true, laidLooks := .later }
def ZqRestsCardSaid : Prop := Claim7.holds Tryd.pinned (.plain (OpenSpec.ofChange zqRestsSpec)) zqRestsCard

/-- THE TIED CARD OF 'redanlaw10.ZqPowers'. -/
def zqPowersCard : Claim7 := { stood := { row := zqPowersRow, standIns := [], harness := (true, "bc1b29e724a7dc6f0c8d684485d0cc1d7435ed02317c5ebf2c236d099b3823ad"), looks := false }, kinds := [], alts := [], laidByText := true, laidKinds := [.data], laidTests := true, laidLooks := .later }
def ZqPowersCardSaid : Prop := Claim7.holds Tryd.pinned (.plain (OpenSpec.ofChange zqPowersSpec)) zqPowersCard

/-- THE TIED CARD OF 'redanlaw10.ZqBarrett'. -/
def zqBarrettCard : Claim7 := { stood := { row := zqBarrettRow, standIns := [], harness := (true, "bc1b29e724a7dc6f0c8d684485d0cc1d7435ed02317c5ebf2c236d099b3823ad"), looks := false }, kinds := [], alts := [], laidByText := true, laidKinds := [.data], laidTests := true, laidLooks := .later }
def ZqBarrettCardSaid : Prop := Claim7.holds Tryd.pinned (.plain (OpenSpec.ofChange zqBarrettSpec)) zqBarrettCard

/-- THE TIED CARD OF 'redanlaw10.ZqMontgomery'. -/
def zqMontgomeryCard : Claim7 := { stood := { row := zqMontgomeryRow, standIns := [], harness := (true, "bc1b29e724a7dc6f0c8d684485d0cc1d7435ed02317c5ebf2c236d099b3823ad"), looks := false }, kinds := [], alts := [], laidByText := true, laidKinds := [.data], laidTests := true, laidLooks := .later }
def ZqMontgomeryCardSaid : Prop := Claim7.holds Tryd.pinned (.plain (OpenSpec.ofChange zqMontgomerySpec)) zqMontgomeryCard

/-- THE TIED CARD OF 'redanlaw10.ZqCompresses'. -/
def zqCompressesCard : Claim7 := { stood := { row := zqCompressesRow, standIns := [], harness := (true, "bc1b29e724a7dc6f0c8d684485d0cc1d7435ed02317c5ebf2c236d099b3823ad"), looks := false }, kinds := [], alts := [], laidByText := true, laidKinds := [.data], laidTests := true, laidLooks := .later }
def ZqCompressesCardSaid : Prop := Claim7.holds Tryd.pinned (.plain (OpenSpec.ofChange zqCompressesSpec)) zqCompressesCard

/-- THE TIED CARD OF 'redanlaw10.ZqSpreads'. -/
def zqSpreadsCard : Claim7 := { stood := { row := zqSpreadsRow, standIns := [], harness := (true, "bc1b29e724a7dc6f0c8d684485d0cc1d7435ed02317c5ebf2c236d099b3823ad"), looks := false }, kinds := [], alts := [], laidByText := true, laidKinds := [.data], laidTests := true, laidLooks := .later }
def ZqSpreadsCardSaid : Prop := Claim7.holds Tryd.pinned (.plain (OpenSpec.ofChange zqSpreadsSpec)) zqSpreadsCard

/-- THE SECOND FORM's CARD OF 'redanlaw10.ZqRests'. -/
def zqRestsUptoCard : Claim7 := { stood := { row := zqRestsUptoRow, standIns := [], harness := (true, "bc1b29e724a7dc6f0c8d684485d0cc1d7435ed02317c5ebf2c236d099b3823ad"), looks := false }, kinds := [], alts := [], laidByText := true, laidKinds := [.data], laidTests := true, laidLooks := .later }
def ZqRestsUptoCardSaid : Prop := Claim7.holds Tryd.pinned (.plain (OpenSpec.upto zqRestsSpec)) zqRestsUptoCard

/-- THE SECOND FORM's CARD OF 'redanlaw10.ZqPowers'. -/
def zqPowersUptoCard : Claim7 := { stood := { row := zqPowersUptoRow, standIns := [], harness := (true, "bc1b29e724a7dc6f0c8d684485d0cc1d7435ed02317c5ebf2c236d099b3823ad"), looks := false }, kinds := [], alts := [], laidByText := true, laidKinds := [.data], laidTests := true, laidLooks := .later }
def ZqPowersUptoCardSaid : Prop := Claim7.holds Tryd.pinned (.plain (OpenSpec.upto zqPowersSpec)) zqPowersUptoCard

/-- THE SECOND FORM's CARD OF 'redanlaw10.ZqBarrett'. -/
def zqBarrettUptoCard : Claim7 := { stood := { row := zqBarrettUptoRow, standIns := [], harness := (true, "bc1b29e724a7dc6f0c8d684485d0cc1d7435ed02317c5ebf2c236d099b3823ad"), looks := false }, kinds := [], alts := [], laidByText := true, laidKinds := [.data], laidTests := true, laidLooks := .later }
def ZqBarrettUptoCardSaid : Prop := Claim7.holds Tryd.pinned (.plain (OpenSpec.upto zqBarrettSpec)) zqBarrettUptoCard

/-- THE SECOND FORM's CARD OF 'redanlaw10.ZqMontgomery'. -/
def zqMontgomeryUptoCard : Claim7 := { stood := { row := zqMontgomeryUptoRow, standIns := [], harness := (true, "bc1b29e724a7dc6f0c8d684485d0cc1d7435ed02317c5ebf2c236d099b3823ad"), looks := false }, kinds := [], alts := [], laidByText := true, laidKinds := [.data], laidTests := true, laidLooks := .later }
def ZqMontgomeryUptoCardSaid : Prop := Claim7.holds Tryd.pinned (.plain (OpenSpec.upto zqMontgomerySpec)) zqMontgomeryUptoCard

/-- THE SECOND FORM's CARD OF 'redanlaw10.ZqCompresses'. -/
def zqCompressesUptoCard : Claim7 := { stood := { row := zqCompressesUptoRow, standIns := [], harness := (true, "bc1b29e724a7dc6f0c8d684485d0cc1d7435ed02317c5ebf2c236d099b3823ad"), looks := false }, kinds := [], alts := [], laidByText := true, laidKinds := [.data], laidTests := true, laidLooks := .later }
def ZqCompressesUptoCardSaid : Prop := Claim7.holds Tryd.pinned (.plain (OpenSpec.upto zqCompressesSpec)) zqCompressesUptoCard

/-- THE SECOND FORM's CARD OF 'redanlaw10.ZqSpreads'. -/
def zqSpreadsUptoCard : Claim7 := { stood := { row := zqSpreadsUptoRow, standIns := [], harness := (true, "bc1b29e724a7dc6f0c8d684485d0cc1d7435ed02317c5ebf2c236d099b3823ad"), looks := false }, kinds := [], alts := [], laidByText := true, laidKinds := [.data], laidTests := true, laidLooks := .later }
def ZqSpreadsUptoCardSaid : Prop := Claim7.holds Tryd.pinned (.plain (OpenSpec.upto zqSpreadsSpec)) zqSpreadsUptoCard
end Rows
end Go.Proofs.YtfloppipcahmkaaDoor
