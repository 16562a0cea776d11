/-
  NARROWER THAN 'FOR EVERY INPUT', by the rows' own cells (each row's printed sentence says how): PatternBack: laid · PatternHides: laid · PatternLines: laid · PatternOrders: laid.
  DERIVED. THE GIVEN ROWS OF THIS SEAT. 4 by the template 'for every input the law returns true; each argument reads behind the call as it read before'; 0 by the template 'total and deterministic' (their statements: YtpoibhhijidobabGreatDoorTotals.lean).
  GIVEN WITH THE SEED: the statements are not yours to turn. If you find one false, say at which input.
  Laid BY PROGRAM, IN A SANDBOX (cutbox-rows.mjs): the forced cells as the released guide's own fill.sh prints them over the translation 83083a07185c12e9… (all of the seat's roots in one cut). By AI agents, Wed Nov 11 2026. No macro, syntax, notation, axiom, sorry.
-/
import Derived.Test.YtpoibhhijidobabGreatDoorChecked
import GoSem.PinnedTables
import GoSem.Claim
import GoSem.ClaimJoined
import GoSem.ClaimMapViews
import Derived.JoinedTies
import Derived.KernelRfl
namespace Go.Proofs.YtpoibhhijidobabGreatDoor
/- THE CELL 'sum', in the pinned program and in every row, IS THE sha256 OF THE DUMP (.gsa) THAT YtpoibhhijidobabGreatDoorProg.lean LOADS. Nothing in Lean hashes anything: it is a label: what it is worth is what the hold of that sum in a sandbox is worth. -/
noncomputable def Tryz.pinned : Pinned := { name := "ytpoibhhijidobabgreatdoor", sum := "83083a07185c12e9e4bb29f2cd5ce505e3d48c0cf474d972fd900273498c56f4", checked := Tryz.checked }
namespace Rows
def none {H : Type} : Left H := { results := [], args := [] }

/- WHAT THE LISTED PACKAGE-LEVEL VARIABLES READ AS WHEN THE CALL BEGINS. Each datum BY PROGRAM (the guide's laid-datum.mjs) off the statement by which the dump's own 'gosem.cut.vars' lays the variable. In a bare row this is a premise. The card (YtpoibhhijidobabGreatDoorCards.lean) ties it to the program's text. -/
def laid_unicode_utf8_acceptRanges {H : Type} : DataW H := .agg [.agg [.lit (.int .u8 128), .lit (.int .u8 191)], .agg [.lit (.int .u8 160), .lit (.int .u8 191)], .agg [.lit (.int .u8 128), .lit (.int .u8 159)], .agg [.lit (.int .u8 144), .lit (.int .u8 191)], .agg [.lit (.int .u8 128), .lit (.int .u8 143)], .agg [.lit (.int .u8 0), .lit (.int .u8 0)], .agg [.lit (.int .u8 0), .lit (.int .u8 0)], .agg [.lit (.int .u8 0), .lit (.int .u8 0)], .agg [.lit (.int .u8 0), .lit (.int .u8 0)], .agg [.lit (.int .u8 0), .lit (.int .u8 0)], .agg [.lit (.int .u8 0), .lit (.int .u8 0)], .agg [.lit (.int .u8 0), .lit (.int .u8 0)], .agg [.lit (.int .u8 0), .lit (.int .u8 0)], .agg [.lit (.int .u8 0), .lit (.int .u8 0)], .agg [.lit (.int .u8 0), .lit (.int .u8 0)], .agg [.lit (.int .u8 0), .lit (.int .u8 0)]]
def laid_redan_pattern_tokenWords {H : Type} : DataW H := .agg [.lit (.string []), .lit (.string [101]), .lit (.string [115]), .lit (.string [101, 101]), .lit (.string [101, 115]), .lit (.string [115, 101]), .lit (.string [115, 115]), .lit (.string [112, 115, 107]), .lit (.string [101, 49]), .lit (.string [101, 107, 101, 109]), .lit (.string [115, 107, 101, 109])]
def laid_redan_pattern_arrows {H : Type} : DataW H := .agg [.lit (.string [45, 62]), .lit (.string [60, 45])]
/-- One of Go's own tables, pinned by name: the form's constant. -/
def laid_unicode_utf8_first : DataW Unit := Go.Pinned.utf8First

/-- 'redanlaw15.PatternBack': WHATEVER THE INPUT: true; the input reads as it did. -/
def patternBackSpec : ChangeSpec := { name := "patternBack", fn := fun _ => fun
  | [d1, d2] => { results := [.lit (.bool true)], args := [d1, d2] }
  | _ => none }
def patternBackRow : OpenClaim := { program := "ytpoibhhijidobabgreatdoor", sum := "83083a07185c12e9e4bb29f2cd5ce505e3d48c0cf474d972fd900273498c56f4", func := "redan/redanlaw15.PatternBack", spec := "patternBack", inPlace := ["internal/bytealg.CountString", "internal/bytealg.IndexByteString", "internal/bytealg.IndexString", "internal/abi.NoEscape", "internal/bytealg.MakeNoZero"], unfollowed := true, recurses := true, named := ["unicode/utf8.first", "unicode/utf8.acceptRanges", "internal/bytealg.MaxLen", "redan/pattern.arrows", "redan/pattern.tokenWords"], apart := false, laid := [("unicode/utf8.acceptRanges", laid_unicode_utf8_acceptRanges), ("redan/pattern.tokenWords", laid_redan_pattern_tokenWords), ("redan/pattern.arrows", laid_redan_pattern_arrows), ("unicode/utf8.first", laid_unicode_utf8_first)] }
def PatternBackSaid : Prop := patternBackRow.holds Tryz.pinned (OpenSpec.ofChange patternBackSpec)

/-- ITS FALSE NEIGHBOUR: 'it returns false'. Refute it at one input. -/
def patternBackWrong : ChangeSpec := { name := "patternBack", fn := fun _ => fun
  | [d1, d2] => { results := [.lit (.bool false)], args := [d1, d2] }
  | _ => none }
def PatternBackWrongFalsely : Prop := patternBackRow.holds Tryz.pinned (OpenSpec.ofChange patternBackWrong)

/-- 'redanlaw15.PatternHides': WHATEVER THE INPUT: true; the input reads as it did. -/
def patternHidesSpec : ChangeSpec := { name := "patternHides", fn := fun _ => fun
  | [d1, d2, d3, d4, d5] => { results := [.lit (.bool true)], args := [d1, d2, d3, d4, d5] }
  | _ => none }
def patternHidesRow : OpenClaim := { program := "ytpoibhhijidobabgreatdoor", sum := "83083a07185c12e9e4bb29f2cd5ce505e3d48c0cf474d972fd900273498c56f4", func := "redan/redanlaw15.PatternHides", spec := "patternHides", inPlace := ["internal/bytealg.CountString", "internal/bytealg.IndexByteString", "internal/bytealg.IndexString", "internal/abi.NoEscape", "internal/bytealg.MakeNoZero"], unfollowed := true, recurses := true, named := ["unicode/utf8.first", "unicode/utf8.acceptRanges", "internal/bytealg.MaxLen", "redan/pattern.arrows", "redan/pattern.tokenWords"], apart := false, laid := [("unicode/utf8.acceptRanges", laid_unicode_utf8_acceptRanges), ("redan/pattern.tokenWords", laid_redan_pattern_tokenWords), ("redan/pattern.arrows", laid_redan_pattern_arrows), ("unicode/utf8.first", laid_unicode_utf8_first)] }
def PatternHidesSaid : Prop := patternHidesRow.holds Tryz.pinned (OpenSpec.ofChange patternHidesSpec)

/-- ITS FALSE NEIGHBOUR: 'it returns false'. Refute it at one input. -/
def patternHidesWrong : ChangeSpec := { name := "patternHides", fn := fun _ => fun
  | [d1, d2, d3, d4, d5] => { results := [.lit (.bool false)], args := [d1, d2, d3, d4, d5] }
  | _ => none }
def PatternHidesWrongFalsely : Prop := patternHidesRow.holds Tryz.pinned (OpenSpec.ofChange patternHidesWrong)

/-- 'redanlaw15.PatternLines': WHATEVER THE INPUT: true; the input reads as it did. -/
def patternLinesSpec : ChangeSpec := { name := "patternLines", fn := fun _ => fun
  | [d] => { results := [.lit (.bool true)], args := [d] }
  | _ => none }
def patternLinesRow : OpenClaim := { program := "ytpoibhhijidobabgreatdoor", sum := "83083a07185c12e9e4bb29f2cd5ce505e3d48c0cf474d972fd900273498c56f4", func := "redan/redanlaw15.PatternLines", spec := "patternLines", inPlace := ["internal/bytealg.CountString", "internal/bytealg.IndexByteString", "internal/bytealg.IndexString", "internal/abi.NoEscape", "internal/bytealg.MakeNoZero"], unfollowed := true, recurses := true, named := ["unicode/utf8.first", "unicode/utf8.acceptRanges", "internal/bytealg.MaxLen", "redan/pattern.arrows", "redan/pattern.tokenWords"], apart := false, laid := [("unicode/utf8.acceptRanges", laid_unicode_utf8_acceptRanges), ("redan/pattern.tokenWords", laid_redan_pattern_tokenWords), ("redan/pattern.arrows", laid_redan_pattern_arrows), ("unicode/utf8.first", laid_unicode_utf8_first)] }
def PatternLinesSaid : Prop := patternLinesRow.holds Tryz.pinned (OpenSpec.ofChange patternLinesSpec)

/-- ITS FALSE NEIGHBOUR: 'it returns false'. Refute it at one input. -/
def patternLinesWrong : ChangeSpec := { name := "patternLines", fn := fun _ => fun
  | [d] => { results := [.lit (.bool false)], args := [d] }
  | _ => none }
def PatternLinesWrongFalsely : Prop := patternLinesRow.holds Tryz.pinned (OpenSpec.ofChange patternLinesWrong)

/-- 'redanlaw15.PatternOrders': WHATEVER THE INPUT: true; the input reads as it did. -/
def patternOrdersSpec : ChangeSpec := { name := "patternOrders", fn := fun _ => fun
  | [d1, d2] => { results := [.lit (.bool true)], args := [d1, d2] }
  | _ => none }
def patternOrdersRow : OpenClaim := { program := "ytpoibhhijidobabgreatdoor", sum := "83083a07185c12e9e4bb29f2cd5ce505e3d48c0cf474d972fd900273498c56f4", func := "redan/redanlaw15.PatternOrders", spec := "patternOrders", inPlace := ["internal/bytealg.CountString", "internal/bytealg.IndexByteString", "internal/bytealg.IndexString", "internal/abi.NoEscape", "internal/bytealg.MakeNoZero"], unfollowed := true, recurses := true, named := ["unicode/utf8.first", "unicode/utf8.acceptRanges", "internal/bytealg.MaxLen", "redan/pattern.arrows", "redan/pattern.tokenWords"], apart := false, laid := [("unicode/utf8.acceptRanges", laid_unicode_utf8_acceptRanges), ("redan/pattern.tokenWords", laid_redan_pattern_tokenWords), ("redan/pattern.arrows", laid_redan_pattern_arrows), ("unicode/utf8.first", laid_unicode_utf8_first)] }
def PatternOrdersSaid : Prop := patternOrdersRow.holds Tryz.pinned (OpenSpec.ofChange patternOrdersSpec)

/-- ITS FALSE NEIGHBOUR: 'it returns false'. Refute it at one input. -/
def patternOrdersWrong : ChangeSpec := { name := "patternOrders", fn := fun _ => fun
  | [d1, d2] => { results := [.lit (.bool false)], args := [d1, d2] }
  | _ => none }
def PatternOrdersWrongFalsely : Prop := patternOrdersRow.holds Tryz.pinned (OpenSpec.ofChange patternOrdersWrong)

/- THE SECOND FORM. 'bulk': how many values and letters a reading holds, each counted each time it is reached (what is shared counts as often as it is met; a slice's spare places count too). A statement '..UptoSaid' is the law's where the arguments, and the package variables that the reading takes, are together of bulk at most 1048576: NARROWER than '..Said'. Prove '..Said' where nothing that the law and all that it calls make is longer than what came in: it says more and counts as full. Else prove '..UptoSaid'. A law counts once. -/
mutual
def uptoBulk {H : Type} : DataW H → Nat
  | .lit (.string bytes) => bytes.length + 1
  | .lit _ => 1
  | .nil => 1
  | .ptr d => uptoBulk d + 1
  | .slice elems spare => uptoBulkAll elems + uptoBulkAll spare + 1
  | .agg parts => uptoBulkAll parts + 1
  | .iface _ d => uptoBulk d + 1
  | .map entries => uptoBulkEntries entries + 1
  | .held _ => 1
def uptoBulkAll {H : Type} : List (DataW H) → Nat
  | [] => 0
  | d :: r => uptoBulk d + uptoBulkAll r
def uptoBulkEntries {H : Type} : List (Lit × DataW H) → Nat
  | [] => 0
  | x :: r => uptoBulkEntry x + uptoBulkEntries r
def uptoBulkEntry {H : Type} : Lit × DataW H → Nat
  | (.string bytes, d) => bytes.length + uptoBulk d + 1
  | (_, d) => uptoBulk d + 1
 end
def uptoSmall : (H : Type) → List (DataW H) → Bool := fun _ ds => decide (uptoBulkAll ds ≤ 1048576)
def OpenSpec.upto (s : _root_.Go.ChangeSpec) : _root_.Go.OpenSpec := { _root_.Go.OpenSpec.ofChange s with cond := some uptoSmall }

/-- 'redanlaw15.PatternBack', WHERE WHAT IT READS IS OF BULK AT MOST 1048576: true; the input reads as it did. -/
def patternBackUptoRow : OpenClaim := { program := "ytpoibhhijidobabgreatdoor", sum := "83083a07185c12e9e4bb29f2cd5ce505e3d48c0cf474d972fd900273498c56f4", func := "redan/redanlaw15.PatternBack", spec := "patternBack", inPlace := ["internal/bytealg.CountString", "internal/bytealg.IndexByteString", "internal/bytealg.IndexString", "internal/abi.NoEscape", "internal/bytealg.MakeNoZero"], unfollowed := true, recurses := true, named := ["unicode/utf8.first", "unicode/utf8.acceptRanges", "internal/bytealg.MaxLen", "redan/pattern.arrows", "redan/pattern.tokenWords"], apart := false, laid := [("unicode/utf8.acceptRanges", laid_unicode_utf8_acceptRanges), ("redan/pattern.tokenWords", laid_redan_pattern_tokenWords), ("redan/pattern.arrows", laid_redan_pattern_arrows), ("unicode/utf8.first", laid_unicode_utf8_first)], narrowed := true }
def PatternBackUptoSaid : Prop := patternBackUptoRow.holds Tryz.pinned (OpenSpec.upto patternBackSpec)

/-- 'redanlaw15.PatternHides', WHERE WHAT IT READS IS OF BULK AT MOST 1048576: true; the input reads as it did. -/
def patternHidesUptoRow : OpenClaim := { program := "ytpoibhhijidobabgreatdoor", sum := "83083a07185c12e9e4bb29f2cd5ce505e3d48c0cf474d972fd900273498c56f4", func := "redan/redanlaw15.PatternHides", spec := "patternHides", inPlace := ["internal/bytealg.CountString", "internal/bytealg.IndexByteString", "internal/bytealg.IndexString", "internal/abi.NoEscape", "internal/bytealg.MakeNoZero"], unfollowed := true, recurses := true, named := ["unicode/utf8.first", "unicode/utf8.acceptRanges", "internal/bytealg.MaxLen", "redan/pattern.arrows", "redan/pattern.tokenWords"], apart := false, laid := [("unicode/utf8.acceptRanges", laid_unicode_utf8_acceptRanges), ("redan/pattern.tokenWords", laid_redan_pattern_tokenWords), ("redan/pattern.arrows", laid_redan_pattern_arrows), ("unicode/utf8.first", laid_unicode_utf8_first)], narrowed := true }
def PatternHidesUptoSaid : Prop := patternHidesUptoRow.holds Tryz.pinned (OpenSpec.upto patternHidesSpec)

/-- 'redanlaw15.PatternLines', WHERE WHAT IT READS IS OF BULK AT MOST 1048576: true; the input reads as it did. -/
def patternLinesUptoRow : OpenClaim := { program := "ytpoibhhijidobabgreatdoor", sum := "83083a07185c12e9e4bb29f2cd5ce505e3d48c0cf474d972fd900273498c56f4", func := "redan/redanlaw15.PatternLines", spec := "patternLines", inPlace := ["internal/bytealg.CountString", "internal/bytealg.IndexByteString", "internal/bytealg.IndexString", "internal/abi.NoEscape", "internal/bytealg.MakeNoZero"], unfollowed := true, recurses := true, named := ["unicode/utf8.first", "unicode/utf8.acceptRanges", "internal/bytealg.MaxLen", "redan/pattern.arrows", "redan/pattern.tokenWords"], apart := false, laid := [("unicode/utf8.acceptRanges", laid_unicode_utf8_acceptRanges), ("redan/pattern.tokenWords", laid_redan_pattern_tokenWords), ("redan/pattern.arrows", laid_redan_pattern_arrows), ("unicode/utf8.first", laid_unicode_utf8_first)], narrowed := true }
def PatternLinesUptoSaid : Prop := patternLinesUptoRow.holds Tryz.pinned (OpenSpec.upto patternLinesSpec)

/-- 'redanlaw15.PatternOrders', WHERE WHAT IT READS IS OF BULK AT MOST 1048576: true; the input reads as it did. -/
def patternOrdersUptoRow : OpenClaim := { program := "ytpoibhhijidobabgreatdoor", sum := "83083a07185c12e9e4bb29f2cd5ce505e3d48c0cf474d972fd900273498c56f4", func := "redan/redanlaw15.PatternOrders", spec := "patternOrders", inPlace := ["internal/bytealg.CountString", "internal/bytealg.IndexByteString", "internal/bytealg.IndexString", "internal/abi.NoEscape", "internal/bytealg.MakeNoZero"], unfollowed := true, recurses := true, named := ["unicode/utf8.first", "unicode/utf8.acceptRanges", "internal/bytealg.MaxLen", "redan/pattern.arrows", "redan/pattern.tokenWords"], apart := false, laid := [("unicode/utf8.acceptRanges", laid_unicode_utf8_acceptRanges), ("redan/pattern.tokenWords", laid_redan_pattern_tokenWords), ("redan/pattern.arrows", laid_redan_pattern_arrows), ("unicode/utf8.first", laid_unicode_utf8_first)], narrowed := true }
def PatternOrdersUptoSaid : Prop := patternOrdersUptoRow.holds Tryz.pinned (OpenSpec.upto patternOrdersSpec)

end Rows
end Go.Proofs.YtpoibhhijidobabGreatDoor
