/-
  NARROWER THAN 'FOR EVERY INPUT', by the rows' own cells (each row's printed sentence says how): SessionWaits: laid · SessionPlays: laid · SessionBounds: laid · SessionDoubles: laid.
  DERIVED. THE GIVEN ROWS OF THIS SEAT. 4 by the template 'for every input the law returns true; each argument reads behind the call as it read before'; 0 by the template 'total and deterministic' (their statements: YtliiofjcghdjoaaDoorTotals.lean).
  GIVEN WITH THE SEED: the statements are not yours to turn. If you find one false, say at which input.
  Laid BY PROGRAM, IN A SANDBOX (cutbox-rows.mjs): the forced cells as the released guide's own fill.sh prints them over the translation fd5e3965b851ca15… (all of the seat's roots in one cut). By AI agents, Wed Nov 11 2026. No macro, syntax, notation, axiom, sorry.
-/
import Derived.Test.YtliiofjcghdjoaaDoorChecked
import GoSem.Claim
import GoSem.ClaimJoined
import GoSem.ClaimMapViews
import Derived.JoinedTies
import Derived.KernelRfl
namespace Go.Proofs.YtliiofjcghdjoaaDoor
/- THE CELL 'sum', in the pinned program and in every row, IS THE sha256 OF THE DUMP (.gsa) THAT YtliiofjcghdjoaaDoorProg.lean LOADS. Nothing in Lean hashes anything: it is a label: what it is worth is what the hold of that sum in a sandbox is worth. -/
noncomputable def Tryd.pinned : Pinned := { name := "ytliiofjcghdjoaadoor", sum := "fd5e3965b851ca15c8f5e0f4e8570b004e6f797833d8fbeb710479d81961d2b5", checked := Tryd.checked }
namespace Rows
def none {H : Type} : Left H := { results := [], args := [] }

/- WHAT THE LISTED PACKAGE-LEVEL VARIABLES READ AS WHEN THE CALL BEGINS. Each datum BY PROGRAM (the guide's laid-datum.mjs) off the statement by which the dump's own 'gosem.cut.vars' lays the variable. In a bare row this is a premise. The card (YtliiofjcghdjoaaDoorCards.lean) ties it to the program's text. -/
def laid_redan_chacha_places {H : Type} : DataW H := .agg [.agg [.lit (.int .i64 0), .lit (.int .i64 4), .lit (.int .i64 8), .lit (.int .i64 12)], .agg [.lit (.int .i64 1), .lit (.int .i64 5), .lit (.int .i64 9), .lit (.int .i64 13)], .agg [.lit (.int .i64 2), .lit (.int .i64 6), .lit (.int .i64 10), .lit (.int .i64 14)], .agg [.lit (.int .i64 3), .lit (.int .i64 7), .lit (.int .i64 11), .lit (.int .i64 15)], .agg [.lit (.int .i64 0), .lit (.int .i64 5), .lit (.int .i64 10), .lit (.int .i64 15)], .agg [.lit (.int .i64 1), .lit (.int .i64 6), .lit (.int .i64 11), .lit (.int .i64 12)], .agg [.lit (.int .i64 2), .lit (.int .i64 7), .lit (.int .i64 8), .lit (.int .i64 13)], .agg [.lit (.int .i64 3), .lit (.int .i64 4), .lit (.int .i64 9), .lit (.int .i64 14)]]
def laid_redan_poly_kept {H : Type} : DataW H := .agg [.lit (.int .u8 255), .lit (.int .u8 255), .lit (.int .u8 255), .lit (.int .u8 15), .lit (.int .u8 252), .lit (.int .u8 255), .lit (.int .u8 255), .lit (.int .u8 15), .lit (.int .u8 252), .lit (.int .u8 255), .lit (.int .u8 255), .lit (.int .u8 15), .lit (.int .u8 252), .lit (.int .u8 255), .lit (.int .u8 255), .lit (.int .u8 15)]

/-- 'redanlaw22.SessionWaits': WHATEVER THE INPUT: true; the input reads as it did. -/
def sessionWaitsSpec : ChangeSpec := { name := "sessionWaits", fn := fun _ => fun
  | [d1, d2, d3, d4] => { results := [.lit (.bool true)], args := [d1, d2, d3, d4] }
  | _ => none }
def sessionWaitsRow : OpenClaim := { program := "ytliiofjcghdjoaadoor", sum := "fd5e3965b851ca15c8f5e0f4e8570b004e6f797833d8fbeb710479d81961d2b5", func := "redan/redanlaw22.SessionWaits", spec := "sessionWaits", inPlace := ["math/bits.Add64"], unfollowed := true, recurses := true, named := ["redan/chacha.places", "redan/poly.kept"], apart := false, laid := [("redan/chacha.places", laid_redan_chacha_places), ("redan/poly.kept", laid_redan_poly_kept)] }
def SessionWaitsSaid : Prop := sessionWaitsRow.holds Tryd.pinned (OpenSpec.ofChange sessionWaitsSpec)

/-- ITS FALSE NEIGHBOUR: 'it returns false'. Refute it at one input. -/
def sessionWaitsWrong : ChangeSpec := { name := "sessionWaits", fn := fun _ => fun
  | [d1, d2, d3, d4] => { results := [.lit (.bool false)], args := [d1, d2, d3, d4] }
  | _ => none }
def SessionWaitsWrongFalsely : Prop := sessionWaitsRow.holds Tryd.pinned (OpenSpec.ofChange sessionWaitsWrong)

/-- 'redanlaw22.SessionPlays': WHATEVER THE INPUT: true; the input reads as it did. -/
def sessionPlaysSpec : ChangeSpec := { name := "sessionPlays", fn := fun _ => fun
  | [d1, d2, d3, d4, d5] => { results := [.lit (.bool true)], args := [d1, d2, d3, d4, d5] }
  | _ => none }
def sessionPlaysRow : OpenClaim := { program := "ytliiofjcghdjoaadoor", sum := "fd5e3965b851ca15c8f5e0f4e8570b004e6f797833d8fbeb710479d81961d2b5", func := "redan/redanlaw22.SessionPlays", spec := "sessionPlays", inPlace := ["math/bits.Add64"], unfollowed := true, recurses := true, named := ["redan/chacha.places", "redan/poly.kept"], apart := false, laid := [("redan/chacha.places", laid_redan_chacha_places), ("redan/poly.kept", laid_redan_poly_kept)] }
def SessionPlaysSaid : Prop := sessionPlaysRow.holds Tryd.pinned (OpenSpec.ofChange sessionPlaysSpec)

/-- ITS FALSE NEIGHBOUR: 'it returns false'. Refute it at one input. -/
def sessionPlaysWrong : ChangeSpec := { name := "sessionPlays", fn := fun _ => fun
  | [d1, d2, d3, d4, d5] => { results := [.lit (.bool false)], args := [d1, d2, d3, d4, d5] }
  | _ => none }
def SessionPlaysWrongFalsely : Prop := sessionPlaysRow.holds Tryd.pinned (OpenSpec.ofChange sessionPlaysWrong)

/-- 'redanlaw22.SessionBounds': WHATEVER THE INPUT: true; the input reads as it did. -/
def sessionBoundsSpec : ChangeSpec := { name := "sessionBounds", fn := fun _ => fun
  | [d1, d2, d3, d4] => { results := [.lit (.bool true)], args := [d1, d2, d3, d4] }
  | _ => none }
def sessionBoundsRow : OpenClaim := { program := "ytliiofjcghdjoaadoor", sum := "fd5e3965b851ca15c8f5e0f4e8570b004e6f797833d8fbeb710479d81961d2b5", func := "redan/redanlaw22.SessionBounds", spec := "sessionBounds", inPlace := ["math/bits.Add64"], unfollowed := true, recurses := true, named := ["redan/chacha.places", "redan/poly.kept"], apart := false, laid := [("redan/chacha.places", laid_redan_chacha_places), ("redan/poly.kept", laid_redan_poly_kept)] }
def SessionBoundsSaid : Prop := sessionBoundsRow.holds Tryd.pinned (OpenSpec.ofChange sessionBoundsSpec)

/-- ITS FALSE NEIGHBOUR: 'it returns false'. Refute it at one input. -/
def sessionBoundsWrong : ChangeSpec := { name := "sessionBounds", fn := fun _ => fun
  | [d1, d2, d3, d4] => { results := [.lit (.bool false)], args := [d1, d2, d3, d4] }
  | _ => none }
def SessionBoundsWrongFalsely : Prop := sessionBoundsRow.holds Tryd.pinned (OpenSpec.ofChange sessionBoundsWrong)

/-- 'redanlaw22.SessionDoubles': WHATEVER THE INPUT: true; the input reads as it did. -/
def sessionDoublesSpec : ChangeSpec := { name := "sessionDoubles", fn := fun _ => fun
  | [d1, d2] => { results := [.lit (.bool true)], args := [d1, d2] }
  | _ => none }
def sessionDoublesRow : OpenClaim := { program := "ytliiofjcghdjoaadoor", sum := "fd5e3965b851ca15c8f5e0f4e8570b004e6f797833d8fbeb710479d81961d2b5", func := "redan/redanlaw22.SessionDoubles", spec := "sessionDoubles", inPlace := ["math/bits.Add64"], unfollowed := true, recurses := true, named := ["redan/chacha.places", "redan/poly.kept"], apart := false, laid := [("redan/chacha.places", laid_redan_chacha_places), ("redan/poly.kept", laid_redan_poly_kept)] }
def SessionDoublesSaid : Prop := sessionDoublesRow.holds Tryd.pinned (OpenSpec.ofChange sessionDoublesSpec)

/-- ITS FALSE NEIGHBOUR: 'it returns false'. Refute it at one input. -/
def sessionDoublesWrong : ChangeSpec := { name := "sessionDoubles", fn := fun _ => fun
  | [d1, d2] => { results := [.lit (.bool false)], args := [d1, d2] }
  | _ => none }
def SessionDoublesWrongFalsely : Prop := sessionDoublesRow.holds Tryd.pinned (OpenSpec.ofChange sessionDoublesWrong)

/- THE SECOND FORM. 'bulk': how many values and letters a reading holds, each counted each time it is reached (what is shared counts as often as it is met; a slice's spare places count too). A statement '..UptoSaid' is the law's where the arguments, and the package variables that the reading takes, are together of bulk at most 1048576: NARROWER than '..Said'. Prove '..Said' where nothing that the law and all that it calls make is longer than what came in: it says more and counts as full. Else prove '..UptoSaid'. A law counts once. -/
mutual
def uptoBulk {H : Type} : DataW H → Nat
  | .lit (.string bytes) => bytes.length + 1
  | .lit _ => 1
  | .nil => 1
  | .ptr d => uptoBulk d + 1
  | .slice elems spare => uptoBulkAll elems + uptoBulkAll spare + 1
  | .agg parts => uptoBulkAll parts + 1
  | .iface _ d => uptoBulk d + 1
  | .map entries => uptoBulkEntries entries + 1
  | .held _ => 1
def uptoBulkAll {H : Type} : List (DataW H) → Nat
  | [] => 0
  | d :: r => uptoBulk d + uptoBulkAll r
def uptoBulkEntries {H : Type} : List (Lit × DataW H) → Nat
  | [] => 0
  | x :: r => uptoBulkEntry x + uptoBulkEntries r
def uptoBulkEntry {H : Type} : Lit × DataW H → Nat
  | (.string bytes, d) => bytes.length + uptoBulk d + 1
  | (_, d) => uptoBulk d + 1
 end
def uptoSmall : (H : Type) → List (DataW H) → Bool := fun _ ds => decide (uptoBulkAll ds ≤ 1048576)
def OpenSpec.upto (s : _root_.Go.ChangeSpec) : _root_.Go.OpenSpec := { _root_.Go.OpenSpec.ofChange s with cond := some uptoSmall }

/-- 'redanlaw22.SessionWaits', WHERE WHAT IT READS IS OF BULK AT MOST 1048576: true; the input reads as it did. -/
def sessionWaitsUptoRow : OpenClaim := { program := "ytliiofjcghdjoaadoor", sum := "fd5e3965b851ca15c8f5e0f4e8570b004e6f797833d8fbeb710479d81961d2b5", func := "redan/redanlaw22.SessionWaits", spec := "sessionWaits", inPlace := ["math/bits.Add64"], unfollowed := true, recurses := true, named := ["redan/chacha.places", "redan/poly.kept"], apart := false, laid := [("redan/chacha.places", laid_redan_chacha_places), ("redan/poly.kept", laid_redan_poly_kept)], narrowed := true }
def SessionWaitsUptoSaid : Prop := sessionWaitsUptoRow.holds Tryd.pinned (OpenSpec.upto sessionWaitsSpec)

/-- 'redanlaw22.SessionPlays', WHERE WHAT IT READS IS OF BULK AT MOST 1048576: true; the input reads as it did. -/
def sessionPlaysUptoRow : OpenClaim := { program := "ytliiofjcghdjoaadoor", sum := "fd5e3965b851ca15c8f5e0f4e8570b004e6f797833d8fbeb710479d81961d2b5", func := "redan/redanlaw22.SessionPlays", spec := "sessionPlays", inPlace := ["math/bits.Add64"], unfollowed := true, recurses := true, named := ["redan/chacha.places", "redan/poly.kept"], apart := false, laid := [("redan/chacha.places", laid_redan_chacha_places), ("redan/poly.kept", laid_redan_poly_kept)], narrowed := true }
def SessionPlaysUptoSaid : Prop := sessionPlaysUptoRow.holds Tryd.pinned (OpenSpec.upto sessionPlaysSpec)

/-- 'redanlaw22.SessionBounds', WHERE WHAT IT READS IS OF BULK AT MOST 1048576: true; the input reads as it did. -/
def sessionBoundsUptoRow : OpenClaim := { program := "ytliiofjcghdjoaadoor", sum := "fd5e3965b851ca15c8f5e0f4e8570b004e6f797833d8fbeb710479d81961d2b5", func := "redan/redanlaw22.SessionBounds", spec := "sessionBounds", inPlace := ["math/bits.Add64"], unfollowed := true, recurses := true, named := ["redan/chacha.places", "redan/poly.kept"], apart := false, laid := [("redan/chacha.places", laid_redan_chacha_places), ("redan/poly.kept", laid_redan_poly_kept)], narrowed := true }
def SessionBoundsUptoSaid : Prop := sessionBoundsUptoRow.holds Tryd.pinned (OpenSpec.upto sessionBoundsSpec)

/-- 'redanlaw22.SessionDoubles', WHERE WHAT IT READS IS OF BULK AT MOST 1048576: true; the input reads as it did. -/
def sessionDoublesUptoRow : OpenClaim := { program := "ytliiofjcghdjoaadoor", sum := "fd5e3965b851ca15c8f5e0f4e8570b004e6f797833d8fbeb710479d81961d2b5", func := "redan/redanlaw22.SessionDoubles", spec := "sessionDoubles", inPlace := ["math/bits.Add64"], unfollowed := true, recurses := true, named := ["redan/chacha.places", "redan/poly.kept"], apart := false, laid := [("redan/chacha.places", laid_redan_chacha_places), ("redan/poly.kept", laid_redan_poly_kept)], narrowed := true }
def SessionDoublesUptoSaid : Prop := sessionDoublesUptoRow.holds Tryd.pinned (OpenSpec.upto sessionDoublesSpec)

end Rows
end Go.Proofs.YtliiofjcghdjoaaDoor
