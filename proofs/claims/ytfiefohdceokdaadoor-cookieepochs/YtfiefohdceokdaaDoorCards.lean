/-
  DERIVED. GIVEN WITH THE SEED: THE CARDS: each row of YtfiefohdceokdaaDoorRows.lean that lists a variable, with what it lists TIED to the program's text (the seventh form; the later family's looks); each row that meets fmt, with fmt's text TOLD by the authors' own Lean function (tested against real Go, not proved from fmt's source: count such statements apart). THE CARD IS WHAT COUNTS. Prove the row's statement (the work); the ties are given (YtfiefohdceokdaaDoorTie.lean); close each card by the builder's one call (the guide's Derived/Test/ToyasCard.lean, 'card_holds'). Laid BY PROGRAM, IN A SANDBOX (cutbox-door.mjs). By AI agents, Wed Nov 11 2026. No macro, syntax, notation, axiom, sorry.
-/
import Derived.Test.YtfiefohdceokdaaDoorRows
import GoSem.ClaimSeven
namespace Go.Proofs.YtfiefohdceokdaaDoor
namespace Rows

/-- THE TIED CARD OF 'redanlaw21.CookieMakes'. -/
def cookieMakesCard : Claim7 := { stood := { row := cookieMakesRow, standIns := [], harness := (true, "07f1b83641e7de388051050ca0fd4bd70d201d93898285dc8ae3cdc8efb42f02"), looks := false }, kinds := [], alts := [], laidByText := true, laidKinds := [.data, .data], laidTests := true, laidLooks := .later }
def CookieMakesCardSaid : Prop := Claim7.holds Tryd.pinned (.plain (OpenSpec.ofChange cookieMakesSpec)) cookieMakesCard

/-- THE TIED CARD OF 'redanlaw21.CookieValid'. -/
def cookieValidCard : Claim7 := { stood := { row := cookieValidRow, standIns := [], harness := (true, "07f1b83641e7de388051050ca0fd4bd70d201d93898285dc8ae3cdc8efb42f02"), looks := false }, kinds := [], alts := [], laidByText := true, laidKinds := [.data, .data], laidTests := true, laidLooks := .later }
def CookieValidCardSaid : Prop := Claim7.holds Tryd.pinned (.plain (OpenSpec.ofChange cookieValidSpec)) cookieValidCard

/-- THE TIED CARD OF 'redanlaw21.CookieLasts'. -/
def cookieLastsCard : Claim7 := { stood := { row := cookieLastsRow, standIns := [], harness := (true, "07f1b83641e7de388051050ca0fd4bd70d201d93898285dc8ae3cdc8efb42f02"), looks := false }, kinds := [], alts := [], laidByText := true, laidKinds := [.data, .data], laidTests := true, laidLooks := .later }
def CookieLastsCardSaid : Prop := Claim7.holds Tryd.pinned (.plain (OpenSpec.ofChange cookieLastsSpec)) cookieLastsCard

/-- THE TIED CARD OF 'redanlaw21.CookieEpochs'. -/
def cookieEpochsCard : Claim7 := { stood := { row := cookieEpochsRow, standIns := [], harness := (true, "07f1b83641e7de388051050ca0fd4bd70d201d93898285dc8ae3cdc8efb42f02"), looks := false }, kinds := [], alts := [], laidByText := true, laidKinds := [.data, .data], laidTests := true, laidLooks := .later }
def CookieEpochsCardSaid : Prop := Claim7.holds Tryd.pinned (.plain (OpenSpec.ofChange cookieEpochsSpec)) cookieEpochsCard

/-- THE SECOND FORM's CARD OF 'redanlaw21.CookieMakes'. -/
def cookieMakesUptoCard : Claim7 := { stood := { row := cookieMakesUptoRow, standIns := [], harness := (true, "07f1b83641e7de388051050ca0fd4bd70d201d93898285dc8ae3cdc8efb42f02"), looks := false }, kinds := [], alts := [], laidByText := true, laidKinds := [.data, .data], laidTests := true, laidLooks := .later }
def CookieMakesUptoCardSaid : Prop := Claim7.holds Tryd.pinned (.plain (OpenSpec.upto cookieMakesSpec)) cookieMakesUptoCard

/-- THE SECOND FORM's CARD OF 'redanlaw21.CookieValid'. -/
def cookieValidUptoCard : Claim7 := { stood := { row := cookieValidUptoRow, standIns := [], harness := (true, "07f1b83641e7de388051050ca0fd4bd70d201d93898285dc8ae3cdc8efb42f02"), looks := false }, kinds := [], alts := [], laidByText := true, laidKinds := [.data, .data], laidTests := true, laidLooks := .later }
def CookieValidUptoCardSaid : Prop := Claim7.holds Tryd.pinned (.plain (OpenSpec.upto cookieValidSpec)) cookieValidUptoCard

/-- THE SECOND FORM's CARD OF 'redanlaw21.CookieLasts'. -/
def cookieLastsUptoCard : Claim7 := { stood := { row := cookieLastsUptoRow, standIns := [], harness := (true, "07f1b83641e7de388051050ca0fd4bd70d201d93898285dc8ae3cdc8efb42f02"), looks := false }, kinds := [], alts := [], laidByText := true, laidKinds := [.data, .data], laidTests := true, laidLooks := .later }
def CookieLastsUptoCardSaid : Prop := Claim7.holds Tryd.pinned (.plain (OpenSpec.upto cookieLastsSpec)) cookieLastsUptoCard

/-- THE SECOND FORM's CARD OF 'redanlaw21.CookieEpochs'. -/
def cookieEpochsUptoCard : Claim7 := { stood := { row := cookieEpochsUptoRow, standIns := [], harness := (true, "07f1b83641e7de388051050ca0fd4bd70d201d93898285dc8ae3cdc8efb42f02"), looks := false }, kinds := [], alts := [], laidByText := true, laidKinds := [.data, .data], laidTests := true, laidLooks := .later }
def CookieEpochsUptoCardSaid : Prop := Claim7.holds Tryd.pinned (.plain (OpenSpec.upto cookieEpochsSpec)) cookieEpochsUptoCard
end Rows
end Go.Proofs.YtfiefohdceokdaaDoor
