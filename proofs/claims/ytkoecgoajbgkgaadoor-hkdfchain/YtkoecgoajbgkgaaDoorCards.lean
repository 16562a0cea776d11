/-
  DERIVED. GIVEN WITH THE SEED: THE CARDS: each row of YtkoecgoajbgkgaaDoorRows.lean that lists a variable, with what it lists TIED to the program's text (the seventh form; the later family's looks); each row that meets fmt, with fmt's text TOLD by the authors' own Lean function (tested against real Go, not proved from fmt's source: count such statements apart). THE CARD IS WHAT COUNTS. Prove the row's statement (the work); the ties are given (YtkoecgoajbgkgaaDoorTie.lean); close each card by the builder's one call (the guide's Derived/Test/ToyasCard.lean, 'card_holds'). Laid BY PROGRAM, IN A SANDBOX (cutbox-door.mjs). By AI agents, Wed Nov 11 2026. No macro, syntax, notation, axiom, sorry.
-/
import Derived.Test.YtkoecgoajbgkgaaDoorRows
import GoSem.ClaimSeven
namespace Go.Proofs.YtkoecgoajbgkgaaDoor
namespace Rows

/-- THE TIED CARD OF 'redanlaw04.HkdfMac'. -/
def hkdfMacCard : Claim7 := { stood := { row := hkdfMacRow, standIns := [], harness := (true, "47182aa03a7861a98f91f97beef976bf7ded98b1da8c61991e0365c308b10c02"), looks := false }, kinds := [], alts := [], laidByText := true, laidKinds := [.data, .data], laidTests := true, laidLooks := .later }
def HkdfMacCardSaid : Prop := Claim7.holds Tryd.pinned (.plain (OpenSpec.ofChange hkdfMacSpec)) hkdfMacCard

/-- THE TIED CARD OF 'redanlaw04.HkdfKeys'. -/
def hkdfKeysCard : Claim7 := { stood := { row := hkdfKeysRow, standIns := [], harness := (true, "47182aa03a7861a98f91f97beef976bf7ded98b1da8c61991e0365c308b10c02"), looks := false }, kinds := [], alts := [], laidByText := true, laidKinds := [.data, .data], laidTests := true, laidLooks := .later }
def HkdfKeysCardSaid : Prop := Claim7.holds Tryd.pinned (.plain (OpenSpec.ofChange hkdfKeysSpec)) hkdfKeysCard

/-- THE TIED CARD OF 'redanlaw04.HkdfNoughts'. -/
def hkdfNoughtsCard : Claim7 := { stood := { row := hkdfNoughtsRow, standIns := [], harness := (true, "47182aa03a7861a98f91f97beef976bf7ded98b1da8c61991e0365c308b10c02"), looks := false }, kinds := [], alts := [], laidByText := true, laidKinds := [.data, .data], laidTests := true, laidLooks := .later }
def HkdfNoughtsCardSaid : Prop := Claim7.holds Tryd.pinned (.plain (OpenSpec.ofChange hkdfNoughtsSpec)) hkdfNoughtsCard

/-- THE TIED CARD OF 'redanlaw04.HkdfLong'. -/
def hkdfLongCard : Claim7 := { stood := { row := hkdfLongRow, standIns := [], harness := (true, "47182aa03a7861a98f91f97beef976bf7ded98b1da8c61991e0365c308b10c02"), looks := false }, kinds := [], alts := [], laidByText := true, laidKinds := [.data, .data], laidTests := true, laidLooks := .later }
def HkdfLongCardSaid : Prop := Claim7.holds Tryd.pinned (.plain (OpenSpec.ofChange hkdfLongSpec)) hkdfLongCard

/-- THE TIED CARD OF 'redanlaw04.HkdfChain'. -/
def hkdfChainCard : Claim7 := { stood := { row := hkdfChainRow, standIns := [], harness := (true, "47182aa03a7861a98f91f97beef976bf7ded98b1da8c61991e0365c308b10c02"), looks := false }, kinds := [], alts := [], laidByText := true, laidKinds := [.data, .data], laidTests := true, laidLooks := .later }
def HkdfChainCardSaid : Prop := Claim7.holds Tryd.pinned (.plain (OpenSpec.ofChange hkdfChainSpec)) hkdfChainCard

/-- THE SECOND FORM's CARD OF 'redanlaw04.HkdfMac'. -/
def hkdfMacUptoCard : Claim7 := { stood := { row := hkdfMacUptoRow, standIns := [], harness := (true, "47182aa03a7861a98f91f97beef976bf7ded98b1da8c61991e0365c308b10c02"), looks := false }, kinds := [], alts := [], laidByText := true, laidKinds := [.data, .data], laidTests := true, laidLooks := .later }
def HkdfMacUptoCardSaid : Prop := Claim7.holds Tryd.pinned (.plain (OpenSpec.upto hkdfMacSpec)) hkdfMacUptoCard

/-- THE SECOND FORM's CARD OF 'redanlaw04.HkdfKeys'. -/
def hkdfKeysUptoCard : Claim7 := { stood := { row := hkdfKeysUptoRow, standIns := [], harness := (true, "47182aa03a7861a98f91f97beef976bf7ded98b1da8c61991e0365c308b10c02"), looks := false }, kinds := [], alts := [], laidByText := true, laidKinds := [.data, .data], laidTests := true, laidLooks := .later }
def HkdfKeysUptoCardSaid : Prop := Claim7.holds Tryd.pinned (.plain (OpenSpec.upto hkdfKeysSpec)) hkdfKeysUptoCard

/-- THE SECOND FORM's CARD OF 'redanlaw04.HkdfNoughts'. -/
def hkdfNoughtsUptoCard : Claim7 := { stood := { row := hkdfNoughtsUptoRow, standIns := [], harness := (true, "47182aa03a7861a98f91f97beef976bf7ded98b1da8c61991e0365c308b10c02"), looks := false }, kinds := [], alts := [], laidByText := true, laidKinds := [.data, .data], laidTests := true, laidLooks := .later }
def HkdfNoughtsUptoCardSaid : Prop := Claim7.holds Tryd.pinned (.plain (OpenSpec.upto hkdfNoughtsSpec)) hkdfNoughtsUptoCard

/-- THE SECOND FORM's CARD OF 'redanlaw04.HkdfLong'. -/
def hkdfLongUptoCard : Claim7 := { stood := { row := hkdfLongUptoRow, standIns := [], harness := (true, "47182aa03a7861a98f91f97beef976bf7ded98b1da8c61991e0365c308b10c02"), looks := false }, kinds := [], alts := [], laidByText := true, laidKinds := [.data, .data], laidTests := true, laidLooks := .later }
def HkdfLongUptoCardSaid : Prop := Claim7.holds Tryd.pinned (.plain (OpenSpec.upto hkdfLongSpec)) hkdfLongUptoCard

/-- THE SECOND FORM's CARD OF 'redanlaw04.HkdfChain'. -/
def hkdfChainUptoCard : Claim7 := { stood := { row := hkdfChainUptoRow, standIns := [], harness := (true, "47182aa03a7861a98f91f97beef976bf7ded98b1da8c61991e0365c308b10c02"), looks := false }, kinds := [], alts := [], laidByText := true, laidKinds := [.data, .data], laidTests := true, laidLooks := .later }
def HkdfChainUptoCardSaid : Prop := Claim7.holds Tryd.pinned (.plain (OpenSpec.upto hkdfChainSpec)) hkdfChainUptoCard
end Rows
end Go.Proofs.YtkoecgoajbgkgaaDoor
