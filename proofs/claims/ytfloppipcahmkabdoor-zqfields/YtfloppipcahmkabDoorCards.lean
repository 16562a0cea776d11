/-
  DERIVED. GIVEN WITH THE SEED: THE CARDS: each row of YtfloppipcahmkabDoorRows.lean that lists a variable, with what it lists TIED to the program's text (the seventh form; the later family's looks); each row that meets fmt, with fmt's text TOLD by the authors' own Lean function (tested against real Go, not proved from fmt's source: count such statements apart). THE CARD IS WHAT COUNTS. Prove the row's statement (the work); the ties are given (YtfloppipcahmkabDoorTie.lean); close each card by the builder's one call (the guide's Derived/Test/ToyasCard.lean, 'card_holds'). Laid BY PROGRAM, IN A SANDBOX (cutbox-door.mjs). By AI agents, Wed Nov 11 2026. No macro, syntax, notation, axiom, sorry.
-/
import Derived.Test.YtfloppipcahmkabDoorRows
import GoSem.ClaimSeven
namespace Go.Proofs.YtfloppipcahmkabDoor
namespace Rows

/-- THE TIED CARD OF 'redanlaw10.ZqZetas'. -/
def zqZetasCard : Claim7 := { stood := { row := zqZetasRow, standIns := [], harness := (true, "9181d1bee998e238772196027e392d0fb3d1f8ca78fe35ed21a72bb93b554cb7"), looks := false }, kinds := [], alts := [], laidByText := true, laidKinds := [.data], laidTests := true, laidLooks := .later }
def ZqZetasCardSaid : Prop := Claim7.holds Tryd.pinned (.plain (OpenSpec.ofChange zqZetasSpec)) zqZetasCard

/-- THE TIED CARD OF 'redanlaw10.ZqFields'. -/
def zqFieldsCard : Claim7 := { stood := { row := zqFieldsRow, standIns := [], harness := (true, "9181d1bee998e238772196027e392d0fb3d1f8ca78fe35ed21a72bb93b554cb7"), looks := false }, kinds := [], alts := [], laidByText := true, laidKinds := [.data], laidTests := true, laidLooks := .later }
def ZqFieldsCardSaid : Prop := Claim7.holds Tryd.pinned (.plain (OpenSpec.ofChange zqFieldsSpec)) zqFieldsCard

/-- THE SECOND FORM's CARD OF 'redanlaw10.ZqZetas'. -/
def zqZetasUptoCard : Claim7 := { stood := { row := zqZetasUptoRow, standIns := [], harness := (true, "9181d1bee998e238772196027e392d0fb3d1f8ca78fe35ed21a72bb93b554cb7"), looks := false }, kinds := [], alts := [], laidByText := true, laidKinds := [.data], laidTests := true, laidLooks := .later }
def ZqZetasUptoCardSaid : Prop := Claim7.holds Tryd.pinned (.plain (OpenSpec.upto zqZetasSpec)) zqZetasUptoCard

/-- THE SECOND FORM's CARD OF 'redanlaw10.ZqFields'. -/
def zqFieldsUptoCard : Claim7 := { stood := { row := zqFieldsUptoRow, standIns := [], harness := (true, "9181d1bee998e238772196027e392d0fb3d1f8ca78fe35ed21a72bb93b554cb7"), looks := false }, kinds := [], alts := [], laidByText := true, laidKinds := [.data], laidTests := true, laidLooks := .later }
def ZqFieldsUptoCardSaid : Prop := Claim7.holds Tryd.pinned (.plain (OpenSpec.upto zqFieldsSpec)) zqFieldsUptoCard
end Rows
end Go.Proofs.YtfloppipcahmkabDoor
