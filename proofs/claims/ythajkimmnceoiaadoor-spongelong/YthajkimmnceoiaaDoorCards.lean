/-
  DERIVED. GIVEN WITH THE SEED: THE CARDS: each row of YthajkimmnceoiaaDoorRows.lean that lists a variable, with what it lists TIED to the program's text (the seventh form; the later family's looks); each row that meets fmt, with fmt's text TOLD by the authors' own Lean function (tested against real Go, not proved from fmt's source: count such statements apart). THE CARD IS WHAT COUNTS. Prove the row's statement (the work); the ties are given (YthajkimmnceoiaaDoorTie.lean); close each card by the builder's one call (the guide's Derived/Test/ToyasCard.lean, 'card_holds'). Laid BY PROGRAM, IN A SANDBOX (cutbox-door.mjs). By AI agents, Wed Nov 11 2026. No macro, syntax, notation, axiom, sorry.
-/
import Derived.Test.YthajkimmnceoiaaDoorRows
import GoSem.ClaimSeven
namespace Go.Proofs.YthajkimmnceoiaaDoor
namespace Rows

/-- THE TIED CARD OF 'redanlaw03.SpongeAbsorbs'. -/
def spongeAbsorbsCard : Claim7 := { stood := { row := spongeAbsorbsRow, standIns := [], harness := (true, "d3db7ba820e8738e82e4b8a8fddfa9452462e4f158ab1999d97fdf337f62f4cd"), looks := false }, kinds := [], alts := [], laidByText := true, laidKinds := [.data, .data], laidTests := true, laidLooks := .later }
def SpongeAbsorbsCardSaid : Prop := Claim7.holds Tryd.pinned (.plain (OpenSpec.ofChange spongeAbsorbsSpec)) spongeAbsorbsCard

/-- THE TIED CARD OF 'redanlaw03.SpongeSums'. -/
def spongeSumsCard : Claim7 := { stood := { row := spongeSumsRow, standIns := [], harness := (true, "d3db7ba820e8738e82e4b8a8fddfa9452462e4f158ab1999d97fdf337f62f4cd"), looks := false }, kinds := [], alts := [], laidByText := true, laidKinds := [.data, .data], laidTests := true, laidLooks := .later }
def SpongeSumsCardSaid : Prop := Claim7.holds Tryd.pinned (.plain (OpenSpec.ofChange spongeSumsSpec)) spongeSumsCard

/-- THE TIED CARD OF 'redanlaw03.SpongeReads'. -/
def spongeReadsCard : Claim7 := { stood := { row := spongeReadsRow, standIns := [], harness := (true, "d3db7ba820e8738e82e4b8a8fddfa9452462e4f158ab1999d97fdf337f62f4cd"), looks := false }, kinds := [], alts := [], laidByText := true, laidKinds := [.data, .data], laidTests := true, laidLooks := .later }
def SpongeReadsCardSaid : Prop := Claim7.holds Tryd.pinned (.plain (OpenSpec.ofChange spongeReadsSpec)) spongeReadsCard

/-- THE TIED CARD OF 'redanlaw03.SpongeNone'. -/
def spongeNoneCard : Claim7 := { stood := { row := spongeNoneRow, standIns := [], harness := (true, "d3db7ba820e8738e82e4b8a8fddfa9452462e4f158ab1999d97fdf337f62f4cd"), looks := false }, kinds := [], alts := [], laidByText := true, laidKinds := [.data, .data], laidTests := true, laidLooks := .later }
def SpongeNoneCardSaid : Prop := Claim7.holds Tryd.pinned (.plain (OpenSpec.ofChange spongeNoneSpec)) spongeNoneCard

/-- THE TIED CARD OF 'redanlaw03.SpongeLong'. -/
def spongeLongCard : Claim7 := { stood := { row := spongeLongRow, standIns := [], harness := (true, "d3db7ba820e8738e82e4b8a8fddfa9452462e4f158ab1999d97fdf337f62f4cd"), looks := false }, kinds := [], alts := [], laidByText := true, laidKinds := [.data, .data], laidTests := true, laidLooks := .later }
def SpongeLongCardSaid : Prop := Claim7.holds Tryd.pinned (.plain (OpenSpec.ofChange spongeLongSpec)) spongeLongCard

/-- THE SECOND FORM's CARD OF 'redanlaw03.SpongeAbsorbs'. -/
def spongeAbsorbsUptoCard : Claim7 := { stood := { row := spongeAbsorbsUptoRow, standIns := [], harness := (true, "d3db7ba820e8738e82e4b8a8fddfa9452462e4f158ab1999d97fdf337f62f4cd"), looks := false }, kinds := [], alts := [], laidByText := true, laidKinds := [.data, .data], laidTests := true, laidLooks := .later }
def SpongeAbsorbsUptoCardSaid : Prop := Claim7.holds Tryd.pinned (.plain (OpenSpec.upto spongeAbsorbsSpec)) spongeAbsorbsUptoCard

/-- THE SECOND FORM's CARD OF 'redanlaw03.SpongeSums'. -/
def spongeSumsUptoCard : Claim7 := { stood := { row := spongeSumsUptoRow, standIns := [], harness := (true, "d3db7ba820e8738e82e4b8a8fddfa9452462e4f158ab1999d97fdf337f62f4cd"), looks := false }, kinds := [], alts := [], laidByText := true, laidKinds := [.data, .data], laidTests := true, laidLooks := .later }
def SpongeSumsUptoCardSaid : Prop := Claim7.holds Tryd.pinned (.plain (OpenSpec.upto spongeSumsSpec)) spongeSumsUptoCard

/-- THE SECOND FORM's CARD OF 'redanlaw03.SpongeReads'. -/
def spongeReadsUptoCard : Claim7 := { stood := { row := spongeReadsUptoRow, standIns := [], harness := (true, "d3db7ba820e8738e82e4b8a8fddfa9452462e4f158ab1999d97fdf337f62f4cd"), looks := false }, kinds := [], alts := [], laidByText := true, laidKinds := [.data, .data], laidTests := true, laidLooks := .later }
def SpongeReadsUptoCardSaid : Prop := Claim7.holds Tryd.pinned (.plain (OpenSpec.upto spongeReadsSpec)) spongeReadsUptoCard

/-- THE SECOND FORM's CARD OF 'redanlaw03.SpongeNone'. -/
def spongeNoneUptoCard : Claim7 := { stood := { row := spongeNoneUptoRow, standIns := [], harness := (true, "d3db7ba820e8738e82e4b8a8fddfa9452462e4f158ab1999d97fdf337f62f4cd"), looks := false }, kinds := [], alts := [], laidByText := true, laidKinds := [.data, .data], laidTests := true, laidLooks := .later }
def SpongeNoneUptoCardSaid : Prop := Claim7.holds Tryd.pinned (.plain (OpenSpec.upto spongeNoneSpec)) spongeNoneUptoCard

/-- THE SECOND FORM's CARD OF 'redanlaw03.SpongeLong'. -/
def spongeLongUptoCard : Claim7 := { stood := { row := spongeLongUptoRow, standIns := [], harness := (true, "d3db7ba820e8738e82e4b8a8fddfa9452462e4f158ab1999d97fdf337f62f4cd"), looks := false }, kinds := [], alts := [], laidByText := true, laidKinds := [.data, .data], laidTests := true, laidLooks := .later }
def SpongeLongUptoCardSaid : Prop := Claim7.holds Tryd.pinned (.plain (OpenSpec.upto spongeLongSpec)) spongeLongUptoCard
end Rows
end Go.Proofs.YthajkimmnceoiaaDoor
