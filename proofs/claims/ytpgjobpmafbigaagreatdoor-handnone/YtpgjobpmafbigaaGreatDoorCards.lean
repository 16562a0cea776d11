/-
  DERIVED. GIVEN WITH THE SEED: THE CARDS: each row of YtpgjobpmafbigaaGreatDoorRows.lean that lists a variable, with what it lists TIED to the program's text (the seventh form; the later family's looks); each row that meets fmt, with fmt's text TOLD by the authors' own Lean function (tested against real Go, not proved from fmt's source: count such statements apart). THE CARD IS WHAT COUNTS. Prove the row's statement (the work); the ties are given (YtpgjobpmafbigaaGreatDoorTie.lean); close each card by the builder's one call (the guide's Derived/Test/ToyasCard.lean, 'card_holds'). Laid BY PROGRAM, IN A SANDBOX (cutbox-door.mjs). By AI agents, Wed Nov 11 2026. No macro, syntax, notation, axiom, sorry.
-/
import Derived.Test.YtpgjobpmafbigaaGreatDoorRows
import GoSem.ClaimSeven
namespace Go.Proofs.YtpgjobpmafbigaaGreatDoor
namespace Rows

/-- THE TIED CARD OF 'redanlaw17.HandBegins'. -/
def handBeginsCard : Claim7 := { stood := { row := handBeginsRow, standIns := [], harness := (true, "082817b08dce7129f0e99b3df4196da587f41abe1cda1252cc1deacc71ec9b95"), looks := false }, kinds := [], alts := [], laidByText := true, laidKinds := [.data, .data, .data, .data, .data, .data, .data, .data, .pinned], laidTests := true, laidLooks := .later }
def HandBeginsCardSaid : Prop := Claim7.holds Tryz.pinned (.plain (OpenSpec.ofChange handBeginsSpec)) handBeginsCard

/-- THE TIED CARD OF 'redanlaw17.HandNone'. -/
def handNoneCard : Claim7 := { stood := { row := handNoneRow, standIns := [], harness := (true, "082817b08dce7129f0e99b3df4196da587f41abe1cda1252cc1deacc71ec9b95"), looks := false }, kinds := [], alts := [], laidByText := true, laidKinds := [.data, .data, .data, .data, .data, .data, .data, .data, .pinned], laidTests := true, laidLooks := .later }
def HandNoneCardSaid : Prop := Claim7.holds Tryz.pinned (.plain (OpenSpec.ofChange handNoneSpec)) handNoneCard

/-- THE SECOND FORM's CARD OF 'redanlaw17.HandBegins'. -/
def handBeginsUptoCard : Claim7 := { stood := { row := handBeginsUptoRow, standIns := [], harness := (true, "082817b08dce7129f0e99b3df4196da587f41abe1cda1252cc1deacc71ec9b95"), looks := false }, kinds := [], alts := [], laidByText := true, laidKinds := [.data, .data, .data, .data, .data, .data, .data, .data, .pinned], laidTests := true, laidLooks := .later }
def HandBeginsUptoCardSaid : Prop := Claim7.holds Tryz.pinned (.plain (OpenSpec.upto handBeginsSpec)) handBeginsUptoCard

/-- THE SECOND FORM's CARD OF 'redanlaw17.HandNone'. -/
def handNoneUptoCard : Claim7 := { stood := { row := handNoneUptoRow, standIns := [], harness := (true, "082817b08dce7129f0e99b3df4196da587f41abe1cda1252cc1deacc71ec9b95"), looks := false }, kinds := [], alts := [], laidByText := true, laidKinds := [.data, .data, .data, .data, .data, .data, .data, .data, .pinned], laidTests := true, laidLooks := .later }
def HandNoneUptoCardSaid : Prop := Claim7.holds Tryz.pinned (.plain (OpenSpec.upto handNoneSpec)) handNoneUptoCard
end Rows
end Go.Proofs.YtpgjobpmafbigaaGreatDoor
