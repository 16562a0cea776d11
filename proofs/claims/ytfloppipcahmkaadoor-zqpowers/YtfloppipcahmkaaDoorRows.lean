/-
  NARROWER THAN 'FOR EVERY INPUT', by the rows' own cells (each row's printed sentence says how): ZqRests: laid · ZqPowers: laid · ZqBarrett: laid · ZqMontgomery: laid · ZqCompresses: laid · ZqSpreads: laid.
  DERIVED. THE GIVEN ROWS OF THIS SEAT. 6 by the template 'for every input the law returns true; each argument reads behind the call as it read before'; 0 by the template 'total and deterministic' (their statements: YtfloppipcahmkaaDoorTotals.lean).
  GIVEN WITH THE SEED: the statements are not yours to turn. If you find one false, say at which input.
  Laid BY PROGRAM, IN A SANDBOX (cutbox-rows.mjs): the forced cells as the released guide's own fill.sh prints them over the translation e6870baa4b0da7b2… (all of the seat's roots in one cut). By AI agents, Wed Nov 11 2026. No macro, syntax, notation, axiom, sorry.
-/
import Derived.Test.YtfloppipcahmkaaDoorChecked
import GoSem.Claim
import GoSem.ClaimJoined
import GoSem.ClaimMapViews
import Derived.JoinedTies
import Derived.KernelRfl
namespace Go.Proofs.YtfloppipcahmkaaDoor
/- THE CELL 'sum', in the pinned program and in every row, IS THE sha256 OF THE DUMP (.gsa) THAT YtfloppipcahmkaaDoorProg.lean LOADS. Nothing in Lean hashes anything: it is a label: what it is worth is what the hold of that sum in a sandbox is worth. -/
noncomputable def Tryd.pinned : Pinned := { name := "ytfloppipcahmkaadoor", sum := "e6870baa4b0da7b23221b7dd2ec0cda74da9a471ca7df8c96f9f1b4aadfc4750", checked := Tryd.checked }
namespace Rows
def none {H : Type} : Left H := { results := [], args := [] }

/- WHAT THE LISTED PACKAGE-LEVEL VARIABLES READ AS WHEN THE CALL BEGINS. Each datum BY PROGRAM (the guide's laid-datum.mjs) off the statement by which the dump's own 'gosem.cut.vars' lays the variable. In a bare row this is a premise. The card (YtfloppipcahmkaaDoorCards.lean) ties it to the program's text. -/
def laid_redan_zq_powers {H : Type} : DataW H := .agg [.lit (.int .i64 17), .lit (.int .i64 289), .lit (.int .i64 296), .lit (.int .i64 1062), .lit (.int .i64 2642), .lit (.int .i64 2580), .lit (.int .i64 1729)]

/-- 'redanlaw10.ZqRests': WHATEVER THE INPUT: true; the input reads as it did. -/
def zqRestsSpec : ChangeSpec := { name := "zqRests", fn := fun _ => fun
  | [d1, d2] => { results := [.lit (.bool true)], args := [d1, d2] }
  | _ => none }
def zqRestsRow : OpenClaim := { program := "ytfloppipcahmkaadoor", sum := "e6870baa4b0da7b23221b7dd2ec0cda74da9a471ca7df8c96f9f1b4aadfc4750", func := "redan/redanlaw10.ZqRests", spec := "zqRests", named := ["redan/zq.powers"], apart := false, laid := [("redan/zq.powers", laid_redan_zq_powers)] }
def ZqRestsSaid : Prop := zqRestsRow.holds Tryd.pinned (OpenSpec.ofChange zqRestsSpec)

/-- ITS FALSE NEIGHBOUR: 'it returns false'. Refute it at one input. -/
def zqRestsWrong : ChangeSpec := { name := "zqRests", fn := fun _ => fun
  | [d1, d2] => { results := [.lit (.bool false)], args := [d1, d2] }
  | _ => none }
def ZqRestsWrongFalsely : Prop := zqRestsRow.holds Tryd.pinned (OpenSpec.ofChange zqRestsWrong)

/-- 'redanlaw10.ZqPowers': WHATEVER THE INPUT: true; the input reads as it did. -/
def zqPowersSpec : ChangeSpec := { name := "zqPowers", fn := fun _ => fun
  | [d1, d2] => { results := [.lit (.bool true)], args := [d1, d2] }
  | _ => none }
def zqPowersRow : OpenClaim := { program := "ytfloppipcahmkaadoor", sum := "e6870baa4b0da7b23221b7dd2ec0cda74da9a471ca7df8c96f9f1b4aadfc4750", func := "redan/redanlaw10.ZqPowers", spec := "zqPowers", named := ["redan/zq.powers"], apart := false, laid := [("redan/zq.powers", laid_redan_zq_powers)] }
def ZqPowersSaid : Prop := zqPowersRow.holds Tryd.pinned (OpenSpec.ofChange zqPowersSpec)

/-- ITS FALSE NEIGHBOUR: 'it returns false'. Refute it at one input. -/
def zqPowersWrong : ChangeSpec := { name := "zqPowers", fn := fun _ => fun
  | [d1, d2] => { results := [.lit (.bool false)], args := [d1, d2] }
  | _ => none }
def ZqPowersWrongFalsely : Prop := zqPowersRow.holds Tryd.pinned (OpenSpec.ofChange zqPowersWrong)

/-- 'redanlaw10.ZqBarrett': WHATEVER THE INPUT: true; the input reads as it did. -/
def zqBarrettSpec : ChangeSpec := { name := "zqBarrett", fn := fun _ => fun
  | [d] => { results := [.lit (.bool true)], args := [d] }
  | _ => none }
def zqBarrettRow : OpenClaim := { program := "ytfloppipcahmkaadoor", sum := "e6870baa4b0da7b23221b7dd2ec0cda74da9a471ca7df8c96f9f1b4aadfc4750", func := "redan/redanlaw10.ZqBarrett", spec := "zqBarrett", named := ["redan/zq.powers"], apart := false, laid := [("redan/zq.powers", laid_redan_zq_powers)] }
def ZqBarrettSaid : Prop := zqBarrettRow.holds Tryd.pinned (OpenSpec.ofChange zqBarrettSpec)

/-- ITS FALSE NEIGHBOUR: 'it returns false'. Refute it at one input. -/
def zqBarrettWrong : ChangeSpec := { name := "zqBarrett", fn := fun _ => fun
  | [d] => { results := [.lit (.bool false)], args := [d] }
  | _ => none }
def ZqBarrettWrongFalsely : Prop := zqBarrettRow.holds Tryd.pinned (OpenSpec.ofChange zqBarrettWrong)

/-- 'redanlaw10.ZqMontgomery': WHATEVER THE INPUT: true; the input reads as it did. -/
def zqMontgomerySpec : ChangeSpec := { name := "zqMontgomery", fn := fun _ => fun
  | [d] => { results := [.lit (.bool true)], args := [d] }
  | _ => none }
def zqMontgomeryRow : OpenClaim := { program := "ytfloppipcahmkaadoor", sum := "e6870baa4b0da7b23221b7dd2ec0cda74da9a471ca7df8c96f9f1b4aadfc4750", func := "redan/redanlaw10.ZqMontgomery", spec := "zqMontgomery", named := ["redan/zq.powers"], apart := false, laid := [("redan/zq.powers", laid_redan_zq_powers)] }
def ZqMontgomerySaid : Prop := zqMontgomeryRow.holds Tryd.pinned (OpenSpec.ofChange zqMontgomerySpec)

/-- ITS FALSE NEIGHBOUR: 'it returns false'. Refute it at one input. -/
def zqMontgomeryWrong : ChangeSpec := { name := "zqMontgomery", fn := fun _ => fun
  | [d] => { results := [.lit (.bool false)], args := [d] }
  | _ => none }
def ZqMontgomeryWrongFalsely : Prop := zqMontgomeryRow.holds Tryd.pinned (OpenSpec.ofChange zqMontgomeryWrong)

/-- 'redanlaw10.ZqCompresses': WHATEVER THE INPUT: true; the input reads as it did. -/
def zqCompressesSpec : ChangeSpec := { name := "zqCompresses", fn := fun _ => fun
  | [d1, d2] => { results := [.lit (.bool true)], args := [d1, d2] }
  | _ => none }
def zqCompressesRow : OpenClaim := { program := "ytfloppipcahmkaadoor", sum := "e6870baa4b0da7b23221b7dd2ec0cda74da9a471ca7df8c96f9f1b4aadfc4750", func := "redan/redanlaw10.ZqCompresses", spec := "zqCompresses", named := ["redan/zq.powers"], apart := false, laid := [("redan/zq.powers", laid_redan_zq_powers)] }
def ZqCompressesSaid : Prop := zqCompressesRow.holds Tryd.pinned (OpenSpec.ofChange zqCompressesSpec)

/-- ITS FALSE NEIGHBOUR: 'it returns false'. Refute it at one input. -/
def zqCompressesWrong : ChangeSpec := { name := "zqCompresses", fn := fun _ => fun
  | [d1, d2] => { results := [.lit (.bool false)], args := [d1, d2] }
  | _ => none }
def ZqCompressesWrongFalsely : Prop := zqCompressesRow.holds Tryd.pinned (OpenSpec.ofChange zqCompressesWrong)

/-- 'redanlaw10.ZqSpreads': WHATEVER THE INPUT: true; the input reads as it did. -/
def zqSpreadsSpec : ChangeSpec := { name := "zqSpreads", fn := fun _ => fun
  | [d1, d2] => { results := [.lit (.bool true)], args := [d1, d2] }
  | _ => none }
def zqSpreadsRow : OpenClaim := { program := "ytfloppipcahmkaadoor", sum := "e6870baa4b0da7b23221b7dd2ec0cda74da9a471ca7df8c96f9f1b4aadfc4750", func := "redan/redanlaw10.ZqSpreads", spec := "zqSpreads", named := ["redan/zq.powers"], apart := false, laid := [("redan/zq.powers", laid_redan_zq_powers)] }
def ZqSpreadsSaid : Prop := zqSpreadsRow.holds Tryd.pinned (OpenSpec.ofChange zqSpreadsSpec)

/-- ITS FALSE NEIGHBOUR: 'it returns false'. Refute it at one input. -/
def zqSpreadsWrong : ChangeSpec := { name := "zqSpreads", fn := fun _ => fun
  | [d1, d2] => { results := [.lit (.bool false)], args := [d1, d2] }
  | _ => none }
def ZqSpreadsWrongFalsely : Prop := zqSpreadsRow.holds Tryd.pinned (OpenSpec.ofChange zqSpreadsWrong)

/- THE SECOND FORM. 'bulk': how many values and letters a reading holds, each counted each time it is reached (what is shared counts as often as it is met; a slice's spare places count too). A statement '..UptoSaid' is the law's where the arguments, and the package variables that the reading takes, are together of bulk at most 1048576: NARROWER than '..Said'. Prove '..Said' where nothing that the law and all that it calls make is longer than what came in: it says more and counts as full. Else prove '..UptoSaid'. A law counts once. -/
mutual
def uptoBulk {H : Type} : DataW H → Nat
  | .lit (.string bytes) => bytes.length + 1
  | .lit _ => 1
  | .nil => 1
  | .ptr d => uptoBulk d + 1
  | .slice elems spare => uptoBulkAll elems + uptoBulkAll spare + 1
  | .agg parts => uptoBulkAll parts + 1
  | .iface _ d => uptoBulk d + 1
  | .map entries => uptoBulkEntries entries + 1
  | .held _ => 1
def uptoBulkAll {H : Type} : List (DataW H) → Nat
  | [] => 0
  | d :: r => uptoBulk d + uptoBulkAll r
def uptoBulkEntries {H : Type} : List (Lit × DataW H) → Nat
  | [] => 0
  | x :: r => uptoBulkEntry x + uptoBulkEntries r
def uptoBulkEntry {H : Type} : Lit × DataW H → Nat
  | (.string bytes, d) => bytes.length + uptoBulk d + 1
  | (_, d) => uptoBulk d + 1
 end
def uptoSmall : (H : Type) → List (DataW H) → Bool := fun _ ds => decide (uptoBulkAll ds ≤ 1048576)
def OpenSpec.upto (s : _root_.Go.ChangeSpec) : _root_.Go.OpenSpec := { _root_.Go.OpenSpec.ofChange s with cond := some uptoSmall }

/-- 'redanlaw10.ZqRests', WHERE WHAT IT READS IS OF BULK AT MOST 1048576: true; the input reads as it did. -/
def zqRestsUptoRow : OpenClaim := { program := "ytfloppipcahmkaadoor", sum := "e6870baa4b0da7b23221b7dd2ec0cda74da9a471ca7df8c96f9f1b4aadfc4750", func := "redan/redanlaw10.ZqRests", spec := "zqRests", named := ["redan/zq.powers"], apart := false, laid := [("redan/zq.powers", laid_redan_zq_powers)], narrowed := true }
def ZqRestsUptoSaid : Prop := zqRestsUptoRow.holds Tryd.pinned (OpenSpec.upto zqRestsSpec)

/-- 'redanlaw10.ZqPowers', WHERE WHAT IT READS IS OF BULK AT MOST 1048576: true; the input reads as it did. -/
def zqPowersUptoRow : OpenClaim := { program := "ytfloppipcahmkaadoor", sum := "e6870baa4b0da7b23221b7dd2ec0cda74da9a471ca7df8c96f9f1b4aadfc4750", func := "redan/redanlaw10.ZqPowers", spec := "zqPowers", named := ["redan/zq.powers"], apart := false, laid := [("redan/zq.powers", laid_redan_zq_powers)], narrowed := true }
def ZqPowersUptoSaid : Prop := zqPowersUptoRow.holds Tryd.pinned (OpenSpec.upto zqPowersSpec)

/-- 'redanlaw10.ZqBarrett', WHERE WHAT IT READS IS OF BULK AT MOST 1048576: true; the input reads as it did. -/
def zqBarrettUptoRow : OpenClaim := { program := "ytfloppipcahmkaadoor", sum := "e6870baa4b0da7b23221b7dd2ec0cda74da9a471ca7df8c96f9f1b4aadfc4750", func := "redan/redanlaw10.ZqBarrett", spec := "zqBarrett", named := ["redan/zq.powers"], apart := false, laid := [("redan/zq.powers", laid_redan_zq_powers)], narrowed := true }
def ZqBarrettUptoSaid : Prop := zqBarrettUptoRow.holds Tryd.pinned (OpenSpec.upto zqBarrettSpec)

/-- 'redanlaw10.ZqMontgomery', WHERE WHAT IT READS IS OF BULK AT MOST 1048576: true; the input reads as it did. -/
def zqMontgomeryUptoRow : OpenClaim := { program := "ytfloppipcahmkaadoor", sum := "e6870baa4b0da7b23221b7dd2ec0cda74da9a471ca7df8c96f9f1b4aadfc4750", func := "redan/redanlaw10.ZqMontgomery", spec := "zqMontgomery", named := ["redan/zq.powers"], apart := false, laid := [("redan/zq.powers", laid_redan_zq_powers)], narrowed := true }
def ZqMontgomeryUptoSaid : Prop := zqMontgomeryUptoRow.holds Tryd.pinned (OpenSpec.upto zqMontgomerySpec)

/-- 'redanlaw10.ZqCompresses', WHERE WHAT IT READS IS OF BULK AT MOST 1048576: true; the input reads as it did. -/
def zqCompressesUptoRow : OpenClaim := { program := "ytfloppipcahmkaadoor", sum := "e6870baa4b0da7b23221b7dd2ec0cda74da9a471ca7df8c96f9f1b4aadfc4750", func := "redan/redanlaw10.ZqCompresses", spec := "zqCompresses", named := ["redan/zq.powers"], apart := false, laid := [("redan/zq.powers", laid_redan_zq_powers)], narrowed := true }
def ZqCompressesUptoSaid : Prop := zqCompressesUptoRow.holds Tryd.pinned (OpenSpec.upto zqCompressesSpec)

/-- 'redanlaw10.ZqSpreads', WHERE WHAT IT READS IS OF BULK AT MOST 1048576: true; the input reads as it did. -/
def zqSpreadsUptoRow : OpenClaim := { program := "ytfloppipcahmkaadoor", sum := "e6870baa4b0da7b23221b7dd2ec0cda74da9a471ca7df8c96f9f1b4aadfc4750", func := "redan/redanlaw10.ZqSpreads", spec := "zqSpreads", named := ["redan/zq.powers"], apart := false, laid := [("redan/zq.powers", laid_redan_zq_powers)], narrowed := true }
def ZqSpreadsUptoSaid : Prop := zqSpreadsUptoRow.holds Tryd.pinned (OpenSpec.upto zqSpreadsSpec)

end Rows
end Go.Proofs.YtfloppipcahmkaaDoor
