/-
  DERIVED. GIVEN WITH THE SEED: THE CARDS: each row of YtnjdpnhkphfnbaaGreatDoorRows.lean that lists a variable, with what it lists TIED to the program's text (the seventh form; the later family's looks); each row that meets fmt, with fmt's text TOLD by the authors' own Lean function (tested against real Go, not proved from fmt's source: count such statements apart). THE CARD IS WHAT COUNTS. Prove the row's statement (the work); the ties are given (YtnjdpnhkphfnbaaGreatDoorTie.lean); close each card by the builder's one call (the guide's Derived/Test/ToyasCard.lean, 'card_holds'). Laid BY PROGRAM, IN A SANDBOX (cutbox-door.mjs). By AI agents, Wed Nov 11 2026. No macro, syntax, notation, axiom, sorry.
-/
import Derived.Test.YtnjdpnhkphfnbaaGreatDoorRows
import GoSem.ClaimSeven
namespace Go.Proofs.YtnjdpnhkphfnbaaGreatDoor
namespace Rows

/-- THE TIED CARD OF 'redanlaw13.KpkeGens'. -/
def kpkeGensCard : Claim7 := { stood := { row := kpkeGensRow, standIns := [], harness := (true, "5f1677bb01c3bd78cd2c1d79902c1cc8da10aadc7e76774fca2b2fb71b83c94c"), looks := false }, kinds := [], alts := [], laidByText := true, laidKinds := [.data, .data, .data], laidTests := true, laidLooks := .later }
def KpkeGensCardSaid : Prop := Claim7.holds Tryz.pinned (.plain (OpenSpec.ofChange kpkeGensSpec)) kpkeGensCard

/-- THE TIED CARD OF 'redanlaw13.KpkeEncs'. -/
def kpkeEncsCard : Claim7 := { stood := { row := kpkeEncsRow, standIns := [], harness := (true, "5f1677bb01c3bd78cd2c1d79902c1cc8da10aadc7e76774fca2b2fb71b83c94c"), looks := false }, kinds := [], alts := [], laidByText := true, laidKinds := [.data, .data, .data], laidTests := true, laidLooks := .later }
def KpkeEncsCardSaid : Prop := Claim7.holds Tryz.pinned (.plain (OpenSpec.ofChange kpkeEncsSpec)) kpkeEncsCard

/-- THE TIED CARD OF 'redanlaw13.KpkeDecs'. -/
def kpkeDecsCard : Claim7 := { stood := { row := kpkeDecsRow, standIns := [], harness := (true, "5f1677bb01c3bd78cd2c1d79902c1cc8da10aadc7e76774fca2b2fb71b83c94c"), looks := false }, kinds := [], alts := [], laidByText := true, laidKinds := [.data, .data, .data], laidTests := true, laidLooks := .later }
def KpkeDecsCardSaid : Prop := Claim7.holds Tryz.pinned (.plain (OpenSpec.ofChange kpkeDecsSpec)) kpkeDecsCard

/-- THE TIED CARD OF 'redanlaw13.KpkeBytes'. -/
def kpkeBytesCard : Claim7 := { stood := { row := kpkeBytesRow, standIns := [], harness := (true, "5f1677bb01c3bd78cd2c1d79902c1cc8da10aadc7e76774fca2b2fb71b83c94c"), looks := false }, kinds := [], alts := [], laidByText := true, laidKinds := [.data, .data, .data], laidTests := true, laidLooks := .later }
def KpkeBytesCardSaid : Prop := Claim7.holds Tryz.pinned (.plain (OpenSpec.ofChange kpkeBytesSpec)) kpkeBytesCard

/-- THE SECOND FORM's CARD OF 'redanlaw13.KpkeGens'. -/
def kpkeGensUptoCard : Claim7 := { stood := { row := kpkeGensUptoRow, standIns := [], harness := (true, "5f1677bb01c3bd78cd2c1d79902c1cc8da10aadc7e76774fca2b2fb71b83c94c"), looks := false }, kinds := [], alts := [], laidByText := true, laidKinds := [.data, .data, .data], laidTests := true, laidLooks := .later }
def KpkeGensUptoCardSaid : Prop := Claim7.holds Tryz.pinned (.plain (OpenSpec.upto kpkeGensSpec)) kpkeGensUptoCard

/-- THE SECOND FORM's CARD OF 'redanlaw13.KpkeEncs'. -/
def kpkeEncsUptoCard : Claim7 := { stood := { row := kpkeEncsUptoRow, standIns := [], harness := (true, "5f1677bb01c3bd78cd2c1d79902c1cc8da10aadc7e76774fca2b2fb71b83c94c"), looks := false }, kinds := [], alts := [], laidByText := true, laidKinds := [.data, .data, .data], laidTests := true, laidLooks := .later }
def KpkeEncsUptoCardSaid : Prop := Claim7.holds Tryz.pinned (.plain (OpenSpec.upto kpkeEncsSpec)) kpkeEncsUptoCard

/-- THE SECOND FORM's CARD OF 'redanlaw13.KpkeDecs'. -/
def kpkeDecsUptoCard : Claim7 := { stood := { row := kpkeDecsUptoRow, standIns := [], harness := (true, "5f1677bb01c3bd78cd2c1d79902c1cc8da10aadc7e76774fca2b2fb71b83c94c"), looks := false }, kinds := [], alts := [], laidByText := true, laidKinds := [.data, .data, .data], laidTests := true, laidLooks := .later }
def KpkeDecsUptoCardSaid : Prop := Claim7.holds Tryz.pinned (.plain (OpenSpec.upto kpkeDecsSpec)) kpkeDecsUptoCard

/-- THE SECOND FORM's CARD OF 'redanlaw13.KpkeBytes'. -/
def kpkeBytesUptoCard : Claim7 := { stood := { row := kpkeBytesUptoRow, standIns := [], harness := (true, "5f1677bb01c3bd78cd2c1d79902c1cc8da10aadc7e76774fca2b2fb71b83c94c"), looks := false }, kinds := [], alts := [], laidByText := true, laidKinds := [.data, .data, .data], laidTests := true, laidLooks := .later }
def KpkeBytesUptoCardSaid : Prop := Claim7.holds Tryz.pinned (.plain (OpenSpec.upto kpkeBytesSpec)) kpkeBytesUptoCard
end Rows
end Go.Proofs.YtnjdpnhkphfnbaaGreatDoor
