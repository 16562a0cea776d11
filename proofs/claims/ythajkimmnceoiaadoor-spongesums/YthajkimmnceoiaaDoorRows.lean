/-
  NARROWER THAN 'FOR EVERY INPUT', by the rows' own cells (each row's printed sentence says how): SpongeAbsorbs: laid · SpongeSums: laid · SpongeReads: laid · SpongeNone: laid · SpongeLong: laid.
  DERIVED. THE GIVEN ROWS OF THIS SEAT. 5 by the template 'for every input the law returns true; each argument reads behind the call as it read before'; 0 by the template 'total and deterministic' (their statements: YthajkimmnceoiaaDoorTotals.lean).
  GIVEN WITH THE SEED: the statements are not yours to turn. If you find one false, say at which input.
  Laid BY PROGRAM, IN A SANDBOX (cutbox-rows.mjs): the forced cells as the released guide's own fill.sh prints them over the translation 5b53978217e5e77a… (all of the seat's roots in one cut). By AI agents, Wed Nov 11 2026. No macro, syntax, notation, axiom, sorry.
-/
import Derived.Test.YthajkimmnceoiaaDoorChecked
import GoSem.Claim
import GoSem.ClaimJoined
import GoSem.ClaimMapViews
import Derived.JoinedTies
import Derived.KernelRfl
namespace Go.Proofs.YthajkimmnceoiaaDoor
/- THE CELL 'sum', in the pinned program and in every row, IS THE sha256 OF THE DUMP (.gsa) THAT YthajkimmnceoiaaDoorProg.lean LOADS. Nothing in Lean hashes anything: it is a label: what it is worth is what the hold of that sum in a sandbox is worth. -/
noncomputable def Tryd.pinned : Pinned := { name := "ythajkimmnceoiaadoor", sum := "5b53978217e5e77a2f6436a19298bb6bc1898f2e5df4ec289752e093ef329e5e", checked := Tryd.checked }
namespace Rows
def none {H : Type} : Left H := { results := [], args := [] }

/- WHAT THE LISTED PACKAGE-LEVEL VARIABLES READ AS WHEN THE CALL BEGINS. Each datum BY PROGRAM (the guide's laid-datum.mjs) off the statement by which the dump's own 'gosem.cut.vars' lays the variable. In a bare row this is a premise. The card (YthajkimmnceoiaaDoorCards.lean) ties it to the program's text. -/
def laid_redan_keccak_turns {H : Type} : DataW H := .agg [.lit (.int .i64 0), .lit (.int .i64 1), .lit (.int .i64 62), .lit (.int .i64 28), .lit (.int .i64 27), .lit (.int .i64 36), .lit (.int .i64 44), .lit (.int .i64 6), .lit (.int .i64 55), .lit (.int .i64 20), .lit (.int .i64 3), .lit (.int .i64 10), .lit (.int .i64 43), .lit (.int .i64 25), .lit (.int .i64 39), .lit (.int .i64 41), .lit (.int .i64 45), .lit (.int .i64 15), .lit (.int .i64 21), .lit (.int .i64 8), .lit (.int .i64 18), .lit (.int .i64 2), .lit (.int .i64 61), .lit (.int .i64 56), .lit (.int .i64 14)]
def laid_redan_keccak_constants {H : Type} : DataW H := .agg [.lit (.int .u64 1), .lit (.int .u64 32898), .lit (.int .u64 9223372036854808714), .lit (.int .u64 9223372039002292224), .lit (.int .u64 32907), .lit (.int .u64 2147483649), .lit (.int .u64 9223372039002292353), .lit (.int .u64 9223372036854808585), .lit (.int .u64 138), .lit (.int .u64 136), .lit (.int .u64 2147516425), .lit (.int .u64 2147483658), .lit (.int .u64 2147516555), .lit (.int .u64 9223372036854775947), .lit (.int .u64 9223372036854808713), .lit (.int .u64 9223372036854808579), .lit (.int .u64 9223372036854808578), .lit (.int .u64 9223372036854775936), .lit (.int .u64 32778), .lit (.int .u64 9223372039002259466), .lit (.int .u64 9223372039002292353), .lit (.int .u64 9223372036854808704), .lit (.int .u64 2147483649), .lit (.int .u64 9223372039002292232)]

/-- 'redanlaw03.SpongeAbsorbs': WHATEVER THE INPUT: true; the input reads as it did. -/
def spongeAbsorbsSpec : ChangeSpec := { name := "spongeAbsorbs", fn := fun _ => fun
  | [d1, d2, d3] => { results := [.lit (.bool true)], args := [d1, d2, d3] }
  | _ => none }
def spongeAbsorbsRow : OpenClaim := { program := "ythajkimmnceoiaadoor", sum := "5b53978217e5e77a2f6436a19298bb6bc1898f2e5df4ec289752e093ef329e5e", func := "redan/redanlaw03.SpongeAbsorbs", spec := "spongeAbsorbs", named := ["redan/keccak.constants", "redan/keccak.turns"], apart := false, laid := [("redan/keccak.turns", laid_redan_keccak_turns), ("redan/keccak.constants", laid_redan_keccak_constants)] }
def SpongeAbsorbsSaid : Prop := spongeAbsorbsRow.holds Tryd.pinned (OpenSpec.ofChange spongeAbsorbsSpec)

/-- ITS FALSE NEIGHBOUR: 'it returns false'. Refute it at one input. -/
def spongeAbsorbsWrong : ChangeSpec := { name := "spongeAbsorbs", fn := fun _ => fun
  | [d1, d2, d3] => { results := [.lit (.bool false)], args := [d1, d2, d3] }
  | _ => none }
def SpongeAbsorbsWrongFalsely : Prop := spongeAbsorbsRow.holds Tryd.pinned (OpenSpec.ofChange spongeAbsorbsWrong)

/-- 'redanlaw03.SpongeSums': WHATEVER THE INPUT: true; the input reads as it did. -/
def spongeSumsSpec : ChangeSpec := { name := "spongeSums", fn := fun _ => fun
  | [d] => { results := [.lit (.bool true)], args := [d] }
  | _ => none }
def spongeSumsRow : OpenClaim := { program := "ythajkimmnceoiaadoor", sum := "5b53978217e5e77a2f6436a19298bb6bc1898f2e5df4ec289752e093ef329e5e", func := "redan/redanlaw03.SpongeSums", spec := "spongeSums", named := ["redan/keccak.constants", "redan/keccak.turns"], apart := false, laid := [("redan/keccak.turns", laid_redan_keccak_turns), ("redan/keccak.constants", laid_redan_keccak_constants)] }
def SpongeSumsSaid : Prop := spongeSumsRow.holds Tryd.pinned (OpenSpec.ofChange spongeSumsSpec)

/-- ITS FALSE NEIGHBOUR: 'it returns false'. Refute it at one input. -/
def spongeSumsWrong : ChangeSpec := { name := "spongeSums", fn := fun _ => fun
  | [d] => { results := [.lit (.bool false)], args := [d] }
  | _ => none }
def SpongeSumsWrongFalsely : Prop := spongeSumsRow.holds Tryd.pinned (OpenSpec.ofChange spongeSumsWrong)

/-- 'redanlaw03.SpongeReads': WHATEVER THE INPUT: true; the input reads as it did. -/
def spongeReadsSpec : ChangeSpec := { name := "spongeReads", fn := fun _ => fun
  | [d1, d2] => { results := [.lit (.bool true)], args := [d1, d2] }
  | _ => none }
def spongeReadsRow : OpenClaim := { program := "ythajkimmnceoiaadoor", sum := "5b53978217e5e77a2f6436a19298bb6bc1898f2e5df4ec289752e093ef329e5e", func := "redan/redanlaw03.SpongeReads", spec := "spongeReads", named := ["redan/keccak.constants", "redan/keccak.turns"], apart := false, laid := [("redan/keccak.turns", laid_redan_keccak_turns), ("redan/keccak.constants", laid_redan_keccak_constants)] }
def SpongeReadsSaid : Prop := spongeReadsRow.holds Tryd.pinned (OpenSpec.ofChange spongeReadsSpec)

/-- ITS FALSE NEIGHBOUR: 'it returns false'. Refute it at one input. -/
def spongeReadsWrong : ChangeSpec := { name := "spongeReads", fn := fun _ => fun
  | [d1, d2] => { results := [.lit (.bool false)], args := [d1, d2] }
  | _ => none }
def SpongeReadsWrongFalsely : Prop := spongeReadsRow.holds Tryd.pinned (OpenSpec.ofChange spongeReadsWrong)

/-- 'redanlaw03.SpongeNone': WHATEVER THE INPUT: true; the input reads as it did. -/
def spongeNoneSpec : ChangeSpec := { name := "spongeNone", fn := fun _ => fun
  | [d1, d2] => { results := [.lit (.bool true)], args := [d1, d2] }
  | _ => none }
def spongeNoneRow : OpenClaim := { program := "ythajkimmnceoiaadoor", sum := "5b53978217e5e77a2f6436a19298bb6bc1898f2e5df4ec289752e093ef329e5e", func := "redan/redanlaw03.SpongeNone", spec := "spongeNone", named := ["redan/keccak.constants", "redan/keccak.turns"], apart := false, laid := [("redan/keccak.turns", laid_redan_keccak_turns), ("redan/keccak.constants", laid_redan_keccak_constants)] }
def SpongeNoneSaid : Prop := spongeNoneRow.holds Tryd.pinned (OpenSpec.ofChange spongeNoneSpec)

/-- ITS FALSE NEIGHBOUR: 'it returns false'. Refute it at one input. -/
def spongeNoneWrong : ChangeSpec := { name := "spongeNone", fn := fun _ => fun
  | [d1, d2] => { results := [.lit (.bool false)], args := [d1, d2] }
  | _ => none }
def SpongeNoneWrongFalsely : Prop := spongeNoneRow.holds Tryd.pinned (OpenSpec.ofChange spongeNoneWrong)

/-- 'redanlaw03.SpongeLong': WHATEVER THE INPUT: true; the input reads as it did. -/
def spongeLongSpec : ChangeSpec := { name := "spongeLong", fn := fun _ => fun
  | [d1, d2, d3] => { results := [.lit (.bool true)], args := [d1, d2, d3] }
  | _ => none }
def spongeLongRow : OpenClaim := { program := "ythajkimmnceoiaadoor", sum := "5b53978217e5e77a2f6436a19298bb6bc1898f2e5df4ec289752e093ef329e5e", func := "redan/redanlaw03.SpongeLong", spec := "spongeLong", named := ["redan/keccak.constants", "redan/keccak.turns"], apart := false, laid := [("redan/keccak.turns", laid_redan_keccak_turns), ("redan/keccak.constants", laid_redan_keccak_constants)] }
def SpongeLongSaid : Prop := spongeLongRow.holds Tryd.pinned (OpenSpec.ofChange spongeLongSpec)

/-- ITS FALSE NEIGHBOUR: 'it returns false'. Refute it at one input. -/
def spongeLongWrong : ChangeSpec := { name := "spongeLong", fn := fun _ => fun
  | [d1, d2, d3] => { results := [.lit (.bool false)], args := [d1, d2, d3] }
  | _ => none }
def SpongeLongWrongFalsely : Prop := spongeLongRow.holds Tryd.pinned (OpenSpec.ofChange spongeLongWrong)

/- THE SECOND FORM. 'bulk': how many values and letters a reading holds, each counted each time it is reached (what is shared counts as often as it is met; a slice's spare places count too). A statement '..UptoSaid' is the law's where the arguments, and the package variables that the reading takes, are together of bulk at most 1048576: NARROWER than '..Said'. Prove '..Said' where nothing that the law and all that it calls make is longer than what came in: it says more and counts as full. Else prove '..UptoSaid'. A law counts once. -/
mutual
def uptoBulk {H : Type} : DataW H → Nat
  | .lit (.string bytes) => bytes.length + 1
  | .lit _ => 1
  | .nil => 1
  | .ptr d => uptoBulk d + 1
  | .slice elems spare => uptoBulkAll elems + uptoBulkAll spare + 1
  | .agg parts => uptoBulkAll parts + 1
  | .iface _ d => uptoBulk d + 1
  | .map entries => uptoBulkEntries entries + 1
  | .held _ => 1
def uptoBulkAll {H : Type} : List (DataW H) → Nat
  | [] => 0
  | d :: r => uptoBulk d + uptoBulkAll r
def uptoBulkEntries {H : Type} : List (Lit × DataW H) → Nat
  | [] => 0
  | x :: r => uptoBulkEntry x + uptoBulkEntries r
def uptoBulkEntry {H : Type} : Lit × DataW H → Nat
  | (.string bytes, d) => bytes.length + uptoBulk d + 1
  | (_, d) => uptoBulk d + 1
 end
def uptoSmall : (H : Type) → List (DataW H) → Bool := fun _ ds => decide (uptoBulkAll ds ≤ 1048576)
def OpenSpec.upto (s : _root_.Go.ChangeSpec) : _root_.Go.OpenSpec := { _root_.Go.OpenSpec.ofChange s with cond := some uptoSmall }

/-- 'redanlaw03.SpongeAbsorbs', WHERE WHAT IT READS IS OF BULK AT MOST 1048576: true; the input reads as it did. -/
def spongeAbsorbsUptoRow : OpenClaim := { program := "ythajkimmnceoiaadoor", sum := "5b53978217e5e77a2f6436a19298bb6bc1898f2e5df4ec289752e093ef329e5e", func := "redan/redanlaw03.SpongeAbsorbs", spec := "spongeAbsorbs", named := ["redan/keccak.constants", "redan/keccak.turns"], apart := false, laid := [("redan/keccak.turns", laid_redan_keccak_turns), ("redan/keccak.constants", laid_redan_keccak_constants)], narrowed := true }
def SpongeAbsorbsUptoSaid : Prop := spongeAbsorbsUptoRow.holds Tryd.pinned (OpenSpec.upto spongeAbsorbsSpec)

/-- 'redanlaw03.SpongeSums', WHERE WHAT IT READS IS OF BULK AT MOST 1048576: true; the input reads as it did. -/
def spongeSumsUptoRow : OpenClaim := { program := "ythajkimmnceoiaadoor", sum := "5b53978217e5e77a2f6436a19298bb6bc1898f2e5df4ec289752e093ef329e5e", func := "redan/redanlaw03.SpongeSums", spec := "spongeSums", named := ["redan/keccak.constants", "redan/keccak.turns"], apart := false, laid := [("redan/keccak.turns", laid_redan_keccak_turns), ("redan/keccak.constants", laid_redan_keccak_constants)], narrowed := true }
def SpongeSumsUptoSaid : Prop := spongeSumsUptoRow.holds Tryd.pinned (OpenSpec.upto spongeSumsSpec)

/-- 'redanlaw03.SpongeReads', WHERE WHAT IT READS IS OF BULK AT MOST 1048576: true; the input reads as it did. -/
def spongeReadsUptoRow : OpenClaim := { program := "ythajkimmnceoiaadoor", sum := "5b53978217e5e77a2f6436a19298bb6bc1898f2e5df4ec289752e093ef329e5e", func := "redan/redanlaw03.SpongeReads", spec := "spongeReads", named := ["redan/keccak.constants", "redan/keccak.turns"], apart := false, laid := [("redan/keccak.turns", laid_redan_keccak_turns), ("redan/keccak.constants", laid_redan_keccak_constants)], narrowed := true }
def SpongeReadsUptoSaid : Prop := spongeReadsUptoRow.holds Tryd.pinned (OpenSpec.upto spongeReadsSpec)

/-- 'redanlaw03.SpongeNone', WHERE WHAT IT READS IS OF BULK AT MOST 1048576: true; the input reads as it did. -/
def spongeNoneUptoRow : OpenClaim := { program := "ythajkimmnceoiaadoor", sum := "5b53978217e5e77a2f6436a19298bb6bc1898f2e5df4ec289752e093ef329e5e", func := "redan/redanlaw03.SpongeNone", spec := "spongeNone", named := ["redan/keccak.constants", "redan/keccak.turns"], apart := false, laid := [("redan/keccak.turns", laid_redan_keccak_turns), ("redan/keccak.constants", laid_redan_keccak_constants)], narrowed := true }
def SpongeNoneUptoSaid : Prop := spongeNoneUptoRow.holds Tryd.pinned (OpenSpec.upto spongeNoneSpec)

/-- 'redanlaw03.SpongeLong', WHERE WHAT IT READS IS OF BULK AT MOST 1048576: true; the input reads as it did. -/
def spongeLongUptoRow : OpenClaim := { program := "ythajkimmnceoiaadoor", sum := "5b53978217e5e77a2f6436a19298bb6bc1898f2e5df4ec289752e093ef329e5e", func := "redan/redanlaw03.SpongeLong", spec := "spongeLong", named := ["redan/keccak.constants", "redan/keccak.turns"], apart := false, laid := [("redan/keccak.turns", laid_redan_keccak_turns), ("redan/keccak.constants", laid_redan_keccak_constants)], narrowed := true }
def SpongeLongUptoSaid : Prop := spongeLongUptoRow.holds Tryd.pinned (OpenSpec.upto spongeLongSpec)

end Rows
end Go.Proofs.YthajkimmnceoiaaDoor
