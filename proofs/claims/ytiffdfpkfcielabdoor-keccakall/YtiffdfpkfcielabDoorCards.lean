/-
  DERIVED. GIVEN WITH THE SEED: THE CARDS: each row of YtiffdfpkfcielabDoorRows.lean that lists a variable, with what it lists TIED to the program's text (the seventh form; the later family's looks); each row that meets fmt, with fmt's text TOLD by the authors' own Lean function (tested against real Go, not proved from fmt's source: count such statements apart). THE CARD IS WHAT COUNTS. Prove the row's statement (the work); the ties are given (YtiffdfpkfcielabDoorTie.lean); close each card by the builder's one call (the guide's Derived/Test/ToyasCard.lean, 'card_holds'). Laid BY PROGRAM, IN A SANDBOX (cutbox-door.mjs). By AI agents, Wed Nov 11 2026. No macro, syntax, notation, axiom, sorry.
-/
import Derived.Test.YtiffdfpkfcielabDoorRows
import GoSem.ClaimSeven
namespace Go.Proofs.YtiffdfpkfcielabDoor
namespace Rows

/-- THE TIED CARD OF 'redanlaw02.KeccakAll'. -/
def keccakAllCard : Claim7 := { stood := { row := keccakAllRow, standIns := [], harness := (true, "4962d3a0dc0a2dea20560258b7d78de07769ee5b0417d5f5cf367150bed0639b"), looks := false }, kinds := [], alts := [], laidByText := true, laidKinds := [.data, .data], laidTests := true, laidLooks := .later }
def KeccakAllCardSaid : Prop := Claim7.holds Tryd.pinned (.plain (OpenSpec.ofChange keccakAllSpec)) keccakAllCard

/-- THE TIED CARD OF 'redanlaw02.KeccakAdds'. -/
def keccakAddsCard : Claim7 := { stood := { row := keccakAddsRow, standIns := [], harness := (true, "4962d3a0dc0a2dea20560258b7d78de07769ee5b0417d5f5cf367150bed0639b"), looks := false }, kinds := [], alts := [], laidByText := true, laidKinds := [.data, .data], laidTests := true, laidLooks := .later }
def KeccakAddsCardSaid : Prop := Claim7.holds Tryd.pinned (.plain (OpenSpec.ofChange keccakAddsSpec)) keccakAddsCard

/-- THE TIED CARD OF 'redanlaw02.KeccakMany'. -/
def keccakManyCard : Claim7 := { stood := { row := keccakManyRow, standIns := [], harness := (true, "4962d3a0dc0a2dea20560258b7d78de07769ee5b0417d5f5cf367150bed0639b"), looks := false }, kinds := [], alts := [], laidByText := true, laidKinds := [.data, .data], laidTests := true, laidLooks := .later }
def KeccakManyCardSaid : Prop := Claim7.holds Tryd.pinned (.plain (OpenSpec.ofChange keccakManySpec)) keccakManyCard

/-- THE TIED CARD OF 'redanlaw02.KeccakOnes'. -/
def keccakOnesCard : Claim7 := { stood := { row := keccakOnesRow, standIns := [], harness := (true, "4962d3a0dc0a2dea20560258b7d78de07769ee5b0417d5f5cf367150bed0639b"), looks := false }, kinds := [], alts := [], laidByText := true, laidKinds := [.data, .data], laidTests := true, laidLooks := .later }
def KeccakOnesCardSaid : Prop := Claim7.holds Tryd.pinned (.plain (OpenSpec.ofChange keccakOnesSpec)) keccakOnesCard

/-- THE SECOND FORM's CARD OF 'redanlaw02.KeccakAll'. -/
def keccakAllUptoCard : Claim7 := { stood := { row := keccakAllUptoRow, standIns := [], harness := (true, "4962d3a0dc0a2dea20560258b7d78de07769ee5b0417d5f5cf367150bed0639b"), looks := false }, kinds := [], alts := [], laidByText := true, laidKinds := [.data, .data], laidTests := true, laidLooks := .later }
def KeccakAllUptoCardSaid : Prop := Claim7.holds Tryd.pinned (.plain (OpenSpec.upto keccakAllSpec)) keccakAllUptoCard

/-- THE SECOND FORM's CARD OF 'redanlaw02.KeccakAdds'. -/
def keccakAddsUptoCard : Claim7 := { stood := { row := keccakAddsUptoRow, standIns := [], harness := (true, "4962d3a0dc0a2dea20560258b7d78de07769ee5b0417d5f5cf367150bed0639b"), looks := false }, kinds := [], alts := [], laidByText := true, laidKinds := [.data, .data], laidTests := true, laidLooks := .later }
def KeccakAddsUptoCardSaid : Prop := Claim7.holds Tryd.pinned (.plain (OpenSpec.upto keccakAddsSpec)) keccakAddsUptoCard

/-- THE SECOND FORM's CARD OF 'redanlaw02.KeccakMany'. -/
def keccakManyUptoCard : Claim7 := { stood := { row := keccakManyUptoRow, standIns := [], harness := (true, "4962d3a0dc0a2dea20560258b7d78de07769ee5b0417d5f5cf367150bed0639b"), looks := false }, kinds := [], alts := [], laidByText := true, laidKinds := [.data, .data], laidTests := true, laidLooks := .later }
def KeccakManyUptoCardSaid : Prop := Claim7.holds Tryd.pinned (.plain (OpenSpec.upto keccakManySpec)) keccakManyUptoCard

/-- THE SECOND FORM's CARD OF 'redanlaw02.KeccakOnes'. -/
def keccakOnesUptoCard : Claim7 := { stood := { row := keccakOnesUptoRow, standIns := [], harness := (true, "4962d3a0dc0a2dea20560258b7d78de07769ee5b0417d5f5cf367150bed0639b"), looks := false }, kinds := [], alts := [], laidByText := true, laidKinds := [.data, .data], laidTests := true, laidLooks := .later }
def KeccakOnesUptoCardSaid : Prop := Claim7.holds Tryd.pinned (.plain (OpenSpec.upto keccakOnesSpec)) keccakOnesUptoCard
end Rows
end Go.Proofs.YtiffdfpkfcielabDoor
