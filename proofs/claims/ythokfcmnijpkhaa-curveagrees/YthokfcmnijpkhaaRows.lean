/-
  No cell of these rows narrows 'for every input' (looked for: loops, veiled, ifaces, maps, wideKeys, modest, calm, conditions, laid).
  DERIVED. THE GIVEN ROWS OF THIS SEAT. 6 by the template 'for every input the law returns true; each argument reads behind the call as it read before'; 0 by the template 'total and deterministic' (their statements: YthokfcmnijpkhaaTotals.lean).
  GIVEN WITH THE SEED: the statements are not yours to turn. If you find one false, say at which input.
  Laid BY PROGRAM, IN A SANDBOX (cutbox-rows.mjs): the forced cells as the released guide's own fill.sh prints them over the translation cda8a961fb92bd13… (all of the seat's roots in one cut). By AI agents, Wed Nov 11 2026. No macro, syntax, notation, axiom, sorry.
-/
import Derived.Test.YthokfcmnijpkhaaChecked
import GoSem.Claim
import GoSem.ClaimJoined
import GoSem.ClaimMapViews
import Derived.JoinedTies
import Derived.KernelRfl
namespace Go.Proofs.Ythokfcmnijpkhaa
/- THE CELL 'sum', in the pinned program and in every row, IS THE sha256 OF THE DUMP (.gsa) THAT YthokfcmnijpkhaaProg.lean LOADS. Nothing in Lean hashes anything: it is a label: what it is worth is what the hold of that sum in a sandbox is worth. -/
noncomputable def Try.pinned : Pinned := { name := "ythokfcmnijpkhaa", sum := "cda8a961fb92bd13cb21cd19e7420498c80f1cc52ecb9f6797291a2c146dd939", checked := Try.checked }
namespace Rows
def none {H : Type} : Left H := { results := [], args := [] }

/-- 'redanlaw06.CurveScalars': WHATEVER THE INPUT: true; the input reads as it did. -/
def curveScalarsSpec : ChangeSpec := { name := "curveScalars", fn := fun _ => fun
  | [d1, d2] => { results := [.lit (.bool true)], args := [d1, d2] }
  | _ => none }
def curveScalarsRow : OpenClaim := { program := "ythokfcmnijpkhaa", sum := "cda8a961fb92bd13cb21cd19e7420498c80f1cc52ecb9f6797291a2c146dd939", func := "redan/redanlaw06.CurveScalars", spec := "curveScalars", inPlace := ["math/bits.Add64", "math/bits.Sub64"], apart := false }
def CurveScalarsSaid : Prop := curveScalarsRow.holds Try.pinned (OpenSpec.ofChange curveScalarsSpec)

/-- ITS FALSE NEIGHBOUR: 'it returns false'. Refute it at one input. -/
def curveScalarsWrong : ChangeSpec := { name := "curveScalars", fn := fun _ => fun
  | [d1, d2] => { results := [.lit (.bool false)], args := [d1, d2] }
  | _ => none }
def CurveScalarsWrongFalsely : Prop := curveScalarsRow.holds Try.pinned (OpenSpec.ofChange curveScalarsWrong)

/-- 'redanlaw06.CurveShares': WHATEVER THE INPUT: true; the input reads as it did. -/
def curveSharesSpec : ChangeSpec := { name := "curveShares", fn := fun _ => fun
  | [d1, d2] => { results := [.lit (.bool true)], args := [d1, d2] }
  | _ => none }
def curveSharesRow : OpenClaim := { program := "ythokfcmnijpkhaa", sum := "cda8a961fb92bd13cb21cd19e7420498c80f1cc52ecb9f6797291a2c146dd939", func := "redan/redanlaw06.CurveShares", spec := "curveShares", inPlace := ["math/bits.Add64", "math/bits.Sub64"], apart := false }
def CurveSharesSaid : Prop := curveSharesRow.holds Try.pinned (OpenSpec.ofChange curveSharesSpec)

/-- ITS FALSE NEIGHBOUR: 'it returns false'. Refute it at one input. -/
def curveSharesWrong : ChangeSpec := { name := "curveShares", fn := fun _ => fun
  | [d1, d2] => { results := [.lit (.bool false)], args := [d1, d2] }
  | _ => none }
def CurveSharesWrongFalsely : Prop := curveSharesRow.holds Try.pinned (OpenSpec.ofChange curveSharesWrong)

/-- 'redanlaw06.CurveClamps': WHATEVER THE INPUT: true; the input reads as it did. -/
def curveClampsSpec : ChangeSpec := { name := "curveClamps", fn := fun _ => fun
  | [d] => { results := [.lit (.bool true)], args := [d] }
  | _ => none }
def curveClampsRow : OpenClaim := { program := "ythokfcmnijpkhaa", sum := "cda8a961fb92bd13cb21cd19e7420498c80f1cc52ecb9f6797291a2c146dd939", func := "redan/redanlaw06.CurveClamps", spec := "curveClamps", inPlace := ["math/bits.Add64", "math/bits.Sub64"], apart := false }
def CurveClampsSaid : Prop := curveClampsRow.holds Try.pinned (OpenSpec.ofChange curveClampsSpec)

/-- ITS FALSE NEIGHBOUR: 'it returns false'. Refute it at one input. -/
def curveClampsWrong : ChangeSpec := { name := "curveClamps", fn := fun _ => fun
  | [d] => { results := [.lit (.bool false)], args := [d] }
  | _ => none }
def CurveClampsWrongFalsely : Prop := curveClampsRow.holds Try.pinned (OpenSpec.ofChange curveClampsWrong)

/-- 'redanlaw06.CurveAgrees': WHATEVER THE INPUT: true; the input reads as it did. -/
def curveAgreesSpec : ChangeSpec := { name := "curveAgrees", fn := fun _ => fun
  | [d1, d2] => { results := [.lit (.bool true)], args := [d1, d2] }
  | _ => none }
def curveAgreesRow : OpenClaim := { program := "ythokfcmnijpkhaa", sum := "cda8a961fb92bd13cb21cd19e7420498c80f1cc52ecb9f6797291a2c146dd939", func := "redan/redanlaw06.CurveAgrees", spec := "curveAgrees", inPlace := ["math/bits.Add64", "math/bits.Sub64"], apart := false }
def CurveAgreesSaid : Prop := curveAgreesRow.holds Try.pinned (OpenSpec.ofChange curveAgreesSpec)

/-- ITS FALSE NEIGHBOUR: 'it returns false'. Refute it at one input. -/
def curveAgreesWrong : ChangeSpec := { name := "curveAgrees", fn := fun _ => fun
  | [d1, d2] => { results := [.lit (.bool false)], args := [d1, d2] }
  | _ => none }
def CurveAgreesWrongFalsely : Prop := curveAgreesRow.holds Try.pinned (OpenSpec.ofChange curveAgreesWrong)

/-- 'redanlaw06.CurveTop': WHATEVER THE INPUT: true; the input reads as it did. -/
def curveTopSpec : ChangeSpec := { name := "curveTop", fn := fun _ => fun
  | [d1, d2, d3] => { results := [.lit (.bool true)], args := [d1, d2, d3] }
  | _ => none }
def curveTopRow : OpenClaim := { program := "ythokfcmnijpkhaa", sum := "cda8a961fb92bd13cb21cd19e7420498c80f1cc52ecb9f6797291a2c146dd939", func := "redan/redanlaw06.CurveTop", spec := "curveTop", inPlace := ["math/bits.Add64", "math/bits.Sub64"], apart := false }
def CurveTopSaid : Prop := curveTopRow.holds Try.pinned (OpenSpec.ofChange curveTopSpec)

/-- ITS FALSE NEIGHBOUR: 'it returns false'. Refute it at one input. -/
def curveTopWrong : ChangeSpec := { name := "curveTop", fn := fun _ => fun
  | [d1, d2, d3] => { results := [.lit (.bool false)], args := [d1, d2, d3] }
  | _ => none }
def CurveTopWrongFalsely : Prop := curveTopRow.holds Try.pinned (OpenSpec.ofChange curveTopWrong)

/-- 'redanlaw06.CurvePublic': WHATEVER THE INPUT: true; the input reads as it did. -/
def curvePublicSpec : ChangeSpec := { name := "curvePublic", fn := fun _ => fun
  | [d] => { results := [.lit (.bool true)], args := [d] }
  | _ => none }
def curvePublicRow : OpenClaim := { program := "ythokfcmnijpkhaa", sum := "cda8a961fb92bd13cb21cd19e7420498c80f1cc52ecb9f6797291a2c146dd939", func := "redan/redanlaw06.CurvePublic", spec := "curvePublic", inPlace := ["math/bits.Add64", "math/bits.Sub64"], apart := false }
def CurvePublicSaid : Prop := curvePublicRow.holds Try.pinned (OpenSpec.ofChange curvePublicSpec)

/-- ITS FALSE NEIGHBOUR: 'it returns false'. Refute it at one input. -/
def curvePublicWrong : ChangeSpec := { name := "curvePublic", fn := fun _ => fun
  | [d] => { results := [.lit (.bool false)], args := [d] }
  | _ => none }
def CurvePublicWrongFalsely : Prop := curvePublicRow.holds Try.pinned (OpenSpec.ofChange curvePublicWrong)

/- THE SECOND FORM. 'bulk': how many values and letters a reading holds, each counted each time it is reached (what is shared counts as often as it is met; a slice's spare places count too). A statement '..UptoSaid' is the law's where the arguments, and the package variables that the reading takes, are together of bulk at most 1048576: NARROWER than '..Said'. Prove '..Said' where nothing that the law and all that it calls make is longer than what came in: it says more and counts as full. Else prove '..UptoSaid'. A law counts once. -/
mutual
def uptoBulk {H : Type} : DataW H → Nat
  | .lit (.string bytes) => bytes.length + 1
  | .lit _ => 1
  | .nil => 1
  | .ptr d => uptoBulk d + 1
  | .slice elems spare => uptoBulkAll elems + uptoBulkAll spare + 1
  | .agg parts => uptoBulkAll parts + 1
  | .iface _ d => uptoBulk d + 1
  | .map entries => uptoBulkEntries entries + 1
  | .held _ => 1
def uptoBulkAll {H : Type} : List (DataW H) → Nat
  | [] => 0
  | d :: r => uptoBulk d + uptoBulkAll r
def uptoBulkEntries {H : Type} : List (Lit × DataW H) → Nat
  | [] => 0
  | x :: r => uptoBulkEntry x + uptoBulkEntries r
def uptoBulkEntry {H : Type} : Lit × DataW H → Nat
  | (.string bytes, d) => bytes.length + uptoBulk d + 1
  | (_, d) => uptoBulk d + 1
 end
def uptoSmall : (H : Type) → List (DataW H) → Bool := fun _ ds => decide (uptoBulkAll ds ≤ 1048576)
def OpenSpec.upto (s : _root_.Go.ChangeSpec) : _root_.Go.OpenSpec := { _root_.Go.OpenSpec.ofChange s with cond := some uptoSmall }

/-- 'redanlaw06.CurveScalars', WHERE WHAT IT READS IS OF BULK AT MOST 1048576: true; the input reads as it did. -/
def curveScalarsUptoRow : OpenClaim := { program := "ythokfcmnijpkhaa", sum := "cda8a961fb92bd13cb21cd19e7420498c80f1cc52ecb9f6797291a2c146dd939", func := "redan/redanlaw06.CurveScalars", spec := "curveScalars", inPlace := ["math/bits.Add64", "math/bits.Sub64"], apart := false, narrowed := true }
def CurveScalarsUptoSaid : Prop := curveScalarsUptoRow.holds Try.pinned (OpenSpec.upto curveScalarsSpec)

/-- 'redanlaw06.CurveShares', WHERE WHAT IT READS IS OF BULK AT MOST 1048576: true; the input reads as it did. -/
def curveSharesUptoRow : OpenClaim := { program := "ythokfcmnijpkhaa", sum := "cda8a961fb92bd13cb21cd19e7420498c80f1cc52ecb9f6797291a2c146dd939", func := "redan/redanlaw06.CurveShares", spec := "curveShares", inPlace := ["math/bits.Add64", "math/bits.Sub64"], apart := false, narrowed := true }
def CurveSharesUptoSaid : Prop := curveSharesUptoRow.holds Try.pinned (OpenSpec.upto curveSharesSpec)

/-- 'redanlaw06.CurveClamps', WHERE WHAT IT READS IS OF BULK AT MOST 1048576: true; the input reads as it did. -/
def curveClampsUptoRow : OpenClaim := { program := "ythokfcmnijpkhaa", sum := "cda8a961fb92bd13cb21cd19e7420498c80f1cc52ecb9f6797291a2c146dd939", func := "redan/redanlaw06.CurveClamps", spec := "curveClamps", inPlace := ["math/bits.Add64", "math/bits.Sub64"], apart := false, narrowed := true }
def CurveClampsUptoSaid : Prop := curveClampsUptoRow.holds Try.pinned (OpenSpec.upto curveClampsSpec)

/-- 'redanlaw06.CurveAgrees', WHERE WHAT IT READS IS OF BULK AT MOST 1048576: true; the input reads as it did. -/
def curveAgreesUptoRow : OpenClaim := { program := "ythokfcmnijpkhaa", sum := "cda8a961fb92bd13cb21cd19e7420498c80f1cc52ecb9f6797291a2c146dd939", func := "redan/redanlaw06.CurveAgrees", spec := "curveAgrees", inPlace := ["math/bits.Add64", "math/bits.Sub64"], apart := false, narrowed := true }
def CurveAgreesUptoSaid : Prop := curveAgreesUptoRow.holds Try.pinned (OpenSpec.upto curveAgreesSpec)

/-- 'redanlaw06.CurveTop', WHERE WHAT IT READS IS OF BULK AT MOST 1048576: true; the input reads as it did. -/
def curveTopUptoRow : OpenClaim := { program := "ythokfcmnijpkhaa", sum := "cda8a961fb92bd13cb21cd19e7420498c80f1cc52ecb9f6797291a2c146dd939", func := "redan/redanlaw06.CurveTop", spec := "curveTop", inPlace := ["math/bits.Add64", "math/bits.Sub64"], apart := false, narrowed := true }
def CurveTopUptoSaid : Prop := curveTopUptoRow.holds Try.pinned (OpenSpec.upto curveTopSpec)

/-- 'redanlaw06.CurvePublic', WHERE WHAT IT READS IS OF BULK AT MOST 1048576: true; the input reads as it did. -/
def curvePublicUptoRow : OpenClaim := { program := "ythokfcmnijpkhaa", sum := "cda8a961fb92bd13cb21cd19e7420498c80f1cc52ecb9f6797291a2c146dd939", func := "redan/redanlaw06.CurvePublic", spec := "curvePublic", inPlace := ["math/bits.Add64", "math/bits.Sub64"], apart := false, narrowed := true }
def CurvePublicUptoSaid : Prop := curvePublicUptoRow.holds Try.pinned (OpenSpec.upto curvePublicSpec)

end Rows
end Go.Proofs.Ythokfcmnijpkhaa
