/-
  NARROWER THAN 'FOR EVERY INPUT', by the rows' own cells (each row's printed sentence says how): NttSums: laid · NttForward: laid · NttInverse: laid · NttTimes: laid · NttProducts: laid · NttLaws: laid.
  DERIVED. THE GIVEN ROWS OF THIS SEAT. 6 by the template 'for every input the law returns true; each argument reads behind the call as it read before'; 0 by the template 'total and deterministic' (their statements: YtbladcgdbhogcaaDoorTotals.lean).
  GIVEN WITH THE SEED: the statements are not yours to turn. If you find one false, say at which input.
  Laid BY PROGRAM, IN A SANDBOX (cutbox-rows.mjs): the forced cells as the released guide's own fill.sh prints them over the translation ca0503176d5035f0… (all of the seat's roots in one cut). By AI agents, Wed Nov 11 2026. No macro, syntax, notation, axiom, sorry.
-/
import Derived.Test.YtbladcgdbhogcaaDoorChecked
import GoSem.Claim
import GoSem.ClaimJoined
import GoSem.ClaimMapViews
import Derived.JoinedTies
import Derived.KernelRfl
namespace Go.Proofs.YtbladcgdbhogcaaDoor
/- THE CELL 'sum', in the pinned program and in every row, IS THE sha256 OF THE DUMP (.gsa) THAT YtbladcgdbhogcaaDoorProg.lean LOADS. Nothing in Lean hashes anything: it is a label: what it is worth is what the hold of that sum in a sandbox is worth. -/
noncomputable def Tryd.pinned : Pinned := { name := "ytbladcgdbhogcaadoor", sum := "ca0503176d5035f01b89d2a93f61c5bca8fd7cf0179a9d2d6ebead5a88547899", checked := Tryd.checked }
namespace Rows
def none {H : Type} : Left H := { results := [], args := [] }

/- WHAT THE LISTED PACKAGE-LEVEL VARIABLES READ AS WHEN THE CALL BEGINS. Each datum BY PROGRAM (the guide's laid-datum.mjs) off the statement by which the dump's own 'gosem.cut.vars' lays the variable. In a bare row this is a premise. The card (YtbladcgdbhogcaaDoorCards.lean) ties it to the program's text. -/
def laid_redan_zq_powers {H : Type} : DataW H := .agg [.lit (.int .i64 17), .lit (.int .i64 289), .lit (.int .i64 296), .lit (.int .i64 1062), .lit (.int .i64 2642), .lit (.int .i64 2580), .lit (.int .i64 1729)]

/-- 'redanlaw11.NttSums': WHATEVER THE INPUT: true; the input reads as it did. -/
def nttSumsSpec : ChangeSpec := { name := "nttSums", fn := fun _ => fun
  | [d1, d2] => { results := [.lit (.bool true)], args := [d1, d2] }
  | _ => none }
def nttSumsRow : OpenClaim := { program := "ytbladcgdbhogcaadoor", sum := "ca0503176d5035f01b89d2a93f61c5bca8fd7cf0179a9d2d6ebead5a88547899", func := "redan/redanlaw11.NttSums", spec := "nttSums", unfollowed := true, recurses := true, named := ["redan/zq.powers"], apart := false, laid := [("redan/zq.powers", laid_redan_zq_powers)] }
def NttSumsSaid : Prop := nttSumsRow.holds Tryd.pinned (OpenSpec.ofChange nttSumsSpec)

/-- ITS FALSE NEIGHBOUR: 'it returns false'. Refute it at one input. -/
def nttSumsWrong : ChangeSpec := { name := "nttSums", fn := fun _ => fun
  | [d1, d2] => { results := [.lit (.bool false)], args := [d1, d2] }
  | _ => none }
def NttSumsWrongFalsely : Prop := nttSumsRow.holds Tryd.pinned (OpenSpec.ofChange nttSumsWrong)

/-- 'redanlaw11.NttForward': WHATEVER THE INPUT: true; the input reads as it did. -/
def nttForwardSpec : ChangeSpec := { name := "nttForward", fn := fun _ => fun
  | [d] => { results := [.lit (.bool true)], args := [d] }
  | _ => none }
def nttForwardRow : OpenClaim := { program := "ytbladcgdbhogcaadoor", sum := "ca0503176d5035f01b89d2a93f61c5bca8fd7cf0179a9d2d6ebead5a88547899", func := "redan/redanlaw11.NttForward", spec := "nttForward", unfollowed := true, recurses := true, named := ["redan/zq.powers"], apart := false, laid := [("redan/zq.powers", laid_redan_zq_powers)] }
def NttForwardSaid : Prop := nttForwardRow.holds Tryd.pinned (OpenSpec.ofChange nttForwardSpec)

/-- ITS FALSE NEIGHBOUR: 'it returns false'. Refute it at one input. -/
def nttForwardWrong : ChangeSpec := { name := "nttForward", fn := fun _ => fun
  | [d] => { results := [.lit (.bool false)], args := [d] }
  | _ => none }
def NttForwardWrongFalsely : Prop := nttForwardRow.holds Tryd.pinned (OpenSpec.ofChange nttForwardWrong)

/-- 'redanlaw11.NttInverse': WHATEVER THE INPUT: true; the input reads as it did. -/
def nttInverseSpec : ChangeSpec := { name := "nttInverse", fn := fun _ => fun
  | [d] => { results := [.lit (.bool true)], args := [d] }
  | _ => none }
def nttInverseRow : OpenClaim := { program := "ytbladcgdbhogcaadoor", sum := "ca0503176d5035f01b89d2a93f61c5bca8fd7cf0179a9d2d6ebead5a88547899", func := "redan/redanlaw11.NttInverse", spec := "nttInverse", unfollowed := true, recurses := true, named := ["redan/zq.powers"], apart := false, laid := [("redan/zq.powers", laid_redan_zq_powers)] }
def NttInverseSaid : Prop := nttInverseRow.holds Tryd.pinned (OpenSpec.ofChange nttInverseSpec)

/-- ITS FALSE NEIGHBOUR: 'it returns false'. Refute it at one input. -/
def nttInverseWrong : ChangeSpec := { name := "nttInverse", fn := fun _ => fun
  | [d] => { results := [.lit (.bool false)], args := [d] }
  | _ => none }
def NttInverseWrongFalsely : Prop := nttInverseRow.holds Tryd.pinned (OpenSpec.ofChange nttInverseWrong)

/-- 'redanlaw11.NttTimes': WHATEVER THE INPUT: true; the input reads as it did. -/
def nttTimesSpec : ChangeSpec := { name := "nttTimes", fn := fun _ => fun
  | [d1, d2] => { results := [.lit (.bool true)], args := [d1, d2] }
  | _ => none }
def nttTimesRow : OpenClaim := { program := "ytbladcgdbhogcaadoor", sum := "ca0503176d5035f01b89d2a93f61c5bca8fd7cf0179a9d2d6ebead5a88547899", func := "redan/redanlaw11.NttTimes", spec := "nttTimes", unfollowed := true, recurses := true, named := ["redan/zq.powers"], apart := false, laid := [("redan/zq.powers", laid_redan_zq_powers)] }
def NttTimesSaid : Prop := nttTimesRow.holds Tryd.pinned (OpenSpec.ofChange nttTimesSpec)

/-- ITS FALSE NEIGHBOUR: 'it returns false'. Refute it at one input. -/
def nttTimesWrong : ChangeSpec := { name := "nttTimes", fn := fun _ => fun
  | [d1, d2] => { results := [.lit (.bool false)], args := [d1, d2] }
  | _ => none }
def NttTimesWrongFalsely : Prop := nttTimesRow.holds Tryd.pinned (OpenSpec.ofChange nttTimesWrong)

/-- 'redanlaw11.NttProducts': WHATEVER THE INPUT: true; the input reads as it did. -/
def nttProductsSpec : ChangeSpec := { name := "nttProducts", fn := fun _ => fun
  | [d1, d2] => { results := [.lit (.bool true)], args := [d1, d2] }
  | _ => none }
def nttProductsRow : OpenClaim := { program := "ytbladcgdbhogcaadoor", sum := "ca0503176d5035f01b89d2a93f61c5bca8fd7cf0179a9d2d6ebead5a88547899", func := "redan/redanlaw11.NttProducts", spec := "nttProducts", unfollowed := true, recurses := true, named := ["redan/zq.powers"], apart := false, laid := [("redan/zq.powers", laid_redan_zq_powers)] }
def NttProductsSaid : Prop := nttProductsRow.holds Tryd.pinned (OpenSpec.ofChange nttProductsSpec)

/-- ITS FALSE NEIGHBOUR: 'it returns false'. Refute it at one input. -/
def nttProductsWrong : ChangeSpec := { name := "nttProducts", fn := fun _ => fun
  | [d1, d2] => { results := [.lit (.bool false)], args := [d1, d2] }
  | _ => none }
def NttProductsWrongFalsely : Prop := nttProductsRow.holds Tryd.pinned (OpenSpec.ofChange nttProductsWrong)

/-- 'redanlaw11.NttLaws': WHATEVER THE INPUT: true; the input reads as it did. -/
def nttLawsSpec : ChangeSpec := { name := "nttLaws", fn := fun _ => fun
  | [d1, d2, d3] => { results := [.lit (.bool true)], args := [d1, d2, d3] }
  | _ => none }
def nttLawsRow : OpenClaim := { program := "ytbladcgdbhogcaadoor", sum := "ca0503176d5035f01b89d2a93f61c5bca8fd7cf0179a9d2d6ebead5a88547899", func := "redan/redanlaw11.NttLaws", spec := "nttLaws", unfollowed := true, recurses := true, named := ["redan/zq.powers"], apart := false, laid := [("redan/zq.powers", laid_redan_zq_powers)] }
def NttLawsSaid : Prop := nttLawsRow.holds Tryd.pinned (OpenSpec.ofChange nttLawsSpec)

/-- ITS FALSE NEIGHBOUR: 'it returns false'. Refute it at one input. -/
def nttLawsWrong : ChangeSpec := { name := "nttLaws", fn := fun _ => fun
  | [d1, d2, d3] => { results := [.lit (.bool false)], args := [d1, d2, d3] }
  | _ => none }
def NttLawsWrongFalsely : Prop := nttLawsRow.holds Tryd.pinned (OpenSpec.ofChange nttLawsWrong)

/- THE SECOND FORM. 'bulk': how many values and letters a reading holds, each counted each time it is reached (what is shared counts as often as it is met; a slice's spare places count too). A statement '..UptoSaid' is the law's where the arguments, and the package variables that the reading takes, are together of bulk at most 1048576: NARROWER than '..Said'. Prove '..Said' where nothing that the law and all that it calls make is longer than what came in: it says more and counts as full. Else prove '..UptoSaid'. A law counts once. -/
mutual
def uptoBulk {H : Type} : DataW H → Nat
  | .lit (.string bytes) => bytes.length + 1
  | .lit _ => 1
  | .nil => 1
  | .ptr d => uptoBulk d + 1
  | .slice elems spare => uptoBulkAll elems + uptoBulkAll spare + 1
  | .agg parts => uptoBulkAll parts + 1
  | .iface _ d => uptoBulk d + 1
  | .map entries => uptoBulkEntries entries + 1
  | .held _ => 1
def uptoBulkAll {H : Type} : List (DataW H) → Nat
  | [] => 0
  | d :: r => uptoBulk d + uptoBulkAll r
def uptoBulkEntries {H : Type} : List (Lit × DataW H) → Nat
  | [] => 0
  | x :: r => uptoBulkEntry x + uptoBulkEntries r
def uptoBulkEntry {H : Type} : Lit × DataW H → Nat
  | (.string bytes, d) => bytes.length + uptoBulk d + 1
  | (_, d) => uptoBulk d + 1
 end
def uptoSmall : (H : Type) → List (DataW H) → Bool := fun _ ds => decide (uptoBulkAll ds ≤ 1048576)
def OpenSpec.upto (s : _root_.Go.ChangeSpec) : _root_.Go.OpenSpec := { _root_.Go.OpenSpec.ofChange s with cond := some uptoSmall }

/-- 'redanlaw11.NttSums', WHERE WHAT IT READS IS OF BULK AT MOST 1048576: true; the input reads as it did. -/
def nttSumsUptoRow : OpenClaim := { program := "ytbladcgdbhogcaadoor", sum := "ca0503176d5035f01b89d2a93f61c5bca8fd7cf0179a9d2d6ebead5a88547899", func := "redan/redanlaw11.NttSums", spec := "nttSums", unfollowed := true, recurses := true, named := ["redan/zq.powers"], apart := false, laid := [("redan/zq.powers", laid_redan_zq_powers)], narrowed := true }
def NttSumsUptoSaid : Prop := nttSumsUptoRow.holds Tryd.pinned (OpenSpec.upto nttSumsSpec)

/-- 'redanlaw11.NttForward', WHERE WHAT IT READS IS OF BULK AT MOST 1048576: true; the input reads as it did. -/
def nttForwardUptoRow : OpenClaim := { program := "ytbladcgdbhogcaadoor", sum := "ca0503176d5035f01b89d2a93f61c5bca8fd7cf0179a9d2d6ebead5a88547899", func := "redan/redanlaw11.NttForward", spec := "nttForward", unfollowed := true, recurses := true, named := ["redan/zq.powers"], apart := false, laid := [("redan/zq.powers", laid_redan_zq_powers)], narrowed := true }
def NttForwardUptoSaid : Prop := nttForwardUptoRow.holds Tryd.pinned (OpenSpec.upto nttForwardSpec)

/-- 'redanlaw11.NttInverse', WHERE WHAT IT READS IS OF BULK AT MOST 1048576: true; the input reads as it did. -/
def nttInverseUptoRow : OpenClaim := { program := "ytbladcgdbhogcaadoor", sum := "ca0503176d5035f01b89d2a93f61c5bca8fd7cf0179a9d2d6ebead5a88547899", func := "redan/redanlaw11.NttInverse", spec := "nttInverse", unfollowed := true, recurses := true, named := ["redan/zq.powers"], apart := false, laid := [("redan/zq.powers", laid_redan_zq_powers)], narrowed := true }
def NttInverseUptoSaid : Prop := nttInverseUptoRow.holds Tryd.pinned (OpenSpec.upto nttInverseSpec)

/-- 'redanlaw11.NttTimes', WHERE WHAT IT READS IS OF BULK AT MOST 1048576: true; the input reads as it did. -/
def nttTimesUptoRow : OpenClaim := { program := "ytbladcgdbhogcaadoor", sum := "ca0503176d5035f01b89d2a93f61c5bca8fd7cf0179a9d2d6ebead5a88547899", func := "redan/redanlaw11.NttTimes", spec := "nttTimes", unfollowed := true, recurses := true, named := ["redan/zq.powers"], apart := false, laid := [("redan/zq.powers", laid_redan_zq_powers)], narrowed := true }
def NttTimesUptoSaid : Prop := nttTimesUptoRow.holds Tryd.pinned (OpenSpec.upto nttTimesSpec)

/-- 'redanlaw11.NttProducts', WHERE WHAT IT READS IS OF BULK AT MOST 1048576: true; the input reads as it did. -/
def nttProductsUptoRow : OpenClaim := { program := "ytbladcgdbhogcaadoor", sum := "ca0503176d5035f01b89d2a93f61c5bca8fd7cf0179a9d2d6ebead5a88547899", func := "redan/redanlaw11.NttProducts", spec := "nttProducts", unfollowed := true, recurses := true, named := ["redan/zq.powers"], apart := false, laid := [("redan/zq.powers", laid_redan_zq_powers)], narrowed := true }
def NttProductsUptoSaid : Prop := nttProductsUptoRow.holds Tryd.pinned (OpenSpec.upto nttProductsSpec)

/-- 'redanlaw11.NttLaws', WHERE WHAT IT READS IS OF BULK AT MOST 1048576: true; the input reads as it did. -/
def nttLawsUptoRow : OpenClaim := { program := "ytbladcgdbhogcaadoor", sum := "ca0503176d5035f01b89d2a93f61c5bca8fd7cf0179a9d2d6ebead5a88547899", func := "redan/redanlaw11.NttLaws", spec := "nttLaws", unfollowed := true, recurses := true, named := ["redan/zq.powers"], apart := false, laid := [("redan/zq.powers", laid_redan_zq_powers)], narrowed := true }
def NttLawsUptoSaid : Prop := nttLawsUptoRow.holds Tryd.pinned (OpenSpec.upto nttLawsSpec)

end Rows
end Go.Proofs.YtbladcgdbhogcaaDoor
