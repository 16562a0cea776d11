/-
  NARROWER THAN 'FOR EVERY INPUT', by the rows' own cells (each row's printed sentence says how): PatternParses: laid · PatternTells: laid · PatternChecks: laid · PatternGuards: laid · PatternDerives: laid · PatternGiven: laid.
  DERIVED. THE GIVEN ROWS OF THIS SEAT. 6 by the template 'for every input the law returns true; each argument reads behind the call as it read before'; 0 by the template 'total and deterministic' (their statements: YtpoibhhijidobaaGreatDoorTotals.lean).
  GIVEN WITH THE SEED: the statements are not yours to turn. If you find one false, say at which input.
  Laid BY PROGRAM, IN A SANDBOX (cutbox-rows.mjs): the forced cells as the released guide's own fill.sh prints them over the translation 84d0842d4eac9d4e… (all of the seat's roots in one cut). By AI agents, Wed Nov 11 2026. No macro, syntax, notation, axiom, sorry.
-/
import Derived.Test.YtpoibhhijidobaaGreatDoorChecked
import GoSem.PinnedTables
import GoSem.Claim
import GoSem.ClaimJoined
import GoSem.ClaimMapViews
import Derived.JoinedTies
import Derived.KernelRfl
namespace Go.Proofs.YtpoibhhijidobaaGreatDoor
/- THE CELL 'sum', in the pinned program and in every row, IS THE sha256 OF THE DUMP (.gsa) THAT YtpoibhhijidobaaGreatDoorProg.lean LOADS. Nothing in Lean hashes anything: it is a label: what it is worth is what the hold of that sum in a sandbox is worth. -/
noncomputable def Tryz.pinned : Pinned := { name := "ytpoibhhijidobaagreatdoor", sum := "84d0842d4eac9d4e2441e5c0d1d4afba6430b43d422ff44ba845961893aeb398", checked := Tryz.checked }
namespace Rows
def none {H : Type} : Left H := { results := [], args := [] }

/- WHAT THE LISTED PACKAGE-LEVEL VARIABLES READ AS WHEN THE CALL BEGINS. Each datum BY PROGRAM (the guide's laid-datum.mjs) off the statement by which the dump's own 'gosem.cut.vars' lays the variable. In a bare row this is a premise. The card (YtpoibhhijidobaaGreatDoorCards.lean) ties it to the program's text. -/
def laid_unicode_utf8_acceptRanges {H : Type} : DataW H := .agg [.agg [.lit (.int .u8 128), .lit (.int .u8 191)], .agg [.lit (.int .u8 160), .lit (.int .u8 191)], .agg [.lit (.int .u8 128), .lit (.int .u8 159)], .agg [.lit (.int .u8 144), .lit (.int .u8 191)], .agg [.lit (.int .u8 128), .lit (.int .u8 143)], .agg [.lit (.int .u8 0), .lit (.int .u8 0)], .agg [.lit (.int .u8 0), .lit (.int .u8 0)], .agg [.lit (.int .u8 0), .lit (.int .u8 0)], .agg [.lit (.int .u8 0), .lit (.int .u8 0)], .agg [.lit (.int .u8 0), .lit (.int .u8 0)], .agg [.lit (.int .u8 0), .lit (.int .u8 0)], .agg [.lit (.int .u8 0), .lit (.int .u8 0)], .agg [.lit (.int .u8 0), .lit (.int .u8 0)], .agg [.lit (.int .u8 0), .lit (.int .u8 0)], .agg [.lit (.int .u8 0), .lit (.int .u8 0)], .agg [.lit (.int .u8 0), .lit (.int .u8 0)]]
def laid_redan_pattern_tokenWords {H : Type} : DataW H := .agg [.lit (.string []), .lit (.string [101]), .lit (.string [115]), .lit (.string [101, 101]), .lit (.string [101, 115]), .lit (.string [115, 101]), .lit (.string [115, 115]), .lit (.string [112, 115, 107]), .lit (.string [101, 49]), .lit (.string [101, 107, 101, 109]), .lit (.string [115, 107, 101, 109])]
def laid_redan_pattern_arrows {H : Type} : DataW H := .agg [.lit (.string [45, 62]), .lit (.string [60, 45])]
/-- One of Go's own tables, pinned by name: the form's constant. -/
def laid_unicode_utf8_first : DataW Unit := Go.Pinned.utf8First

/-- 'redanlaw15.PatternParses': WHATEVER THE INPUT: true; the input reads as it did. -/
def patternParsesSpec : ChangeSpec := { name := "patternParses", fn := fun _ => fun
  | [d] => { results := [.lit (.bool true)], args := [d] }
  | _ => none }
def patternParsesRow : OpenClaim := { program := "ytpoibhhijidobaagreatdoor", sum := "84d0842d4eac9d4e2441e5c0d1d4afba6430b43d422ff44ba845961893aeb398", func := "redan/redanlaw15.PatternParses", spec := "patternParses", inPlace := ["internal/bytealg.CountString", "internal/bytealg.IndexByteString", "internal/bytealg.IndexString", "internal/abi.NoEscape", "internal/bytealg.MakeNoZero"], unfollowed := true, recurses := true, named := ["unicode/utf8.first", "unicode/utf8.acceptRanges", "internal/bytealg.MaxLen", "redan/pattern.arrows", "redan/pattern.tokenWords"], apart := false, laid := [("unicode/utf8.acceptRanges", laid_unicode_utf8_acceptRanges), ("redan/pattern.tokenWords", laid_redan_pattern_tokenWords), ("redan/pattern.arrows", laid_redan_pattern_arrows), ("unicode/utf8.first", laid_unicode_utf8_first)] }
def PatternParsesSaid : Prop := patternParsesRow.holds Tryz.pinned (OpenSpec.ofChange patternParsesSpec)

/-- ITS FALSE NEIGHBOUR: 'it returns false'. Refute it at one input. -/
def patternParsesWrong : ChangeSpec := { name := "patternParses", fn := fun _ => fun
  | [d] => { results := [.lit (.bool false)], args := [d] }
  | _ => none }
def PatternParsesWrongFalsely : Prop := patternParsesRow.holds Tryz.pinned (OpenSpec.ofChange patternParsesWrong)

/-- 'redanlaw15.PatternTells': WHATEVER THE INPUT: true; the input reads as it did. -/
def patternTellsSpec : ChangeSpec := { name := "patternTells", fn := fun _ => fun
  | [d] => { results := [.lit (.bool true)], args := [d] }
  | _ => none }
def patternTellsRow : OpenClaim := { program := "ytpoibhhijidobaagreatdoor", sum := "84d0842d4eac9d4e2441e5c0d1d4afba6430b43d422ff44ba845961893aeb398", func := "redan/redanlaw15.PatternTells", spec := "patternTells", inPlace := ["internal/bytealg.CountString", "internal/bytealg.IndexByteString", "internal/bytealg.IndexString", "internal/abi.NoEscape", "internal/bytealg.MakeNoZero"], unfollowed := true, recurses := true, named := ["unicode/utf8.first", "unicode/utf8.acceptRanges", "internal/bytealg.MaxLen", "redan/pattern.arrows", "redan/pattern.tokenWords"], apart := false, laid := [("unicode/utf8.acceptRanges", laid_unicode_utf8_acceptRanges), ("redan/pattern.tokenWords", laid_redan_pattern_tokenWords), ("redan/pattern.arrows", laid_redan_pattern_arrows), ("unicode/utf8.first", laid_unicode_utf8_first)] }
def PatternTellsSaid : Prop := patternTellsRow.holds Tryz.pinned (OpenSpec.ofChange patternTellsSpec)

/-- ITS FALSE NEIGHBOUR: 'it returns false'. Refute it at one input. -/
def patternTellsWrong : ChangeSpec := { name := "patternTells", fn := fun _ => fun
  | [d] => { results := [.lit (.bool false)], args := [d] }
  | _ => none }
def PatternTellsWrongFalsely : Prop := patternTellsRow.holds Tryz.pinned (OpenSpec.ofChange patternTellsWrong)

/-- 'redanlaw15.PatternChecks': WHATEVER THE INPUT: true; the input reads as it did. -/
def patternChecksSpec : ChangeSpec := { name := "patternChecks", fn := fun _ => fun
  | [d] => { results := [.lit (.bool true)], args := [d] }
  | _ => none }
def patternChecksRow : OpenClaim := { program := "ytpoibhhijidobaagreatdoor", sum := "84d0842d4eac9d4e2441e5c0d1d4afba6430b43d422ff44ba845961893aeb398", func := "redan/redanlaw15.PatternChecks", spec := "patternChecks", inPlace := ["internal/bytealg.CountString", "internal/bytealg.IndexByteString", "internal/bytealg.IndexString", "internal/abi.NoEscape", "internal/bytealg.MakeNoZero"], unfollowed := true, recurses := true, named := ["unicode/utf8.first", "unicode/utf8.acceptRanges", "internal/bytealg.MaxLen", "redan/pattern.arrows", "redan/pattern.tokenWords"], apart := false, laid := [("unicode/utf8.acceptRanges", laid_unicode_utf8_acceptRanges), ("redan/pattern.tokenWords", laid_redan_pattern_tokenWords), ("redan/pattern.arrows", laid_redan_pattern_arrows), ("unicode/utf8.first", laid_unicode_utf8_first)] }
def PatternChecksSaid : Prop := patternChecksRow.holds Tryz.pinned (OpenSpec.ofChange patternChecksSpec)

/-- ITS FALSE NEIGHBOUR: 'it returns false'. Refute it at one input. -/
def patternChecksWrong : ChangeSpec := { name := "patternChecks", fn := fun _ => fun
  | [d] => { results := [.lit (.bool false)], args := [d] }
  | _ => none }
def PatternChecksWrongFalsely : Prop := patternChecksRow.holds Tryz.pinned (OpenSpec.ofChange patternChecksWrong)

/-- 'redanlaw15.PatternGuards': WHATEVER THE INPUT: true; the input reads as it did. -/
def patternGuardsSpec : ChangeSpec := { name := "patternGuards", fn := fun _ => fun
  | [d] => { results := [.lit (.bool true)], args := [d] }
  | _ => none }
def patternGuardsRow : OpenClaim := { program := "ytpoibhhijidobaagreatdoor", sum := "84d0842d4eac9d4e2441e5c0d1d4afba6430b43d422ff44ba845961893aeb398", func := "redan/redanlaw15.PatternGuards", spec := "patternGuards", inPlace := ["internal/bytealg.CountString", "internal/bytealg.IndexByteString", "internal/bytealg.IndexString", "internal/abi.NoEscape", "internal/bytealg.MakeNoZero"], unfollowed := true, recurses := true, named := ["unicode/utf8.first", "unicode/utf8.acceptRanges", "internal/bytealg.MaxLen", "redan/pattern.arrows", "redan/pattern.tokenWords"], apart := false, laid := [("unicode/utf8.acceptRanges", laid_unicode_utf8_acceptRanges), ("redan/pattern.tokenWords", laid_redan_pattern_tokenWords), ("redan/pattern.arrows", laid_redan_pattern_arrows), ("unicode/utf8.first", laid_unicode_utf8_first)] }
def PatternGuardsSaid : Prop := patternGuardsRow.holds Tryz.pinned (OpenSpec.ofChange patternGuardsSpec)

/-- ITS FALSE NEIGHBOUR: 'it returns false'. Refute it at one input. -/
def patternGuardsWrong : ChangeSpec := { name := "patternGuards", fn := fun _ => fun
  | [d] => { results := [.lit (.bool false)], args := [d] }
  | _ => none }
def PatternGuardsWrongFalsely : Prop := patternGuardsRow.holds Tryz.pinned (OpenSpec.ofChange patternGuardsWrong)

/-- 'redanlaw15.PatternDerives': WHATEVER THE INPUT: true; the input reads as it did. -/
def patternDerivesSpec : ChangeSpec := { name := "patternDerives", fn := fun _ => fun
  | [d1, d2, d3, d4] => { results := [.lit (.bool true)], args := [d1, d2, d3, d4] }
  | _ => none }
def patternDerivesRow : OpenClaim := { program := "ytpoibhhijidobaagreatdoor", sum := "84d0842d4eac9d4e2441e5c0d1d4afba6430b43d422ff44ba845961893aeb398", func := "redan/redanlaw15.PatternDerives", spec := "patternDerives", inPlace := ["internal/bytealg.CountString", "internal/bytealg.IndexByteString", "internal/bytealg.IndexString", "internal/abi.NoEscape", "internal/bytealg.MakeNoZero"], unfollowed := true, recurses := true, named := ["unicode/utf8.first", "unicode/utf8.acceptRanges", "internal/bytealg.MaxLen", "redan/pattern.arrows", "redan/pattern.tokenWords"], apart := false, laid := [("unicode/utf8.acceptRanges", laid_unicode_utf8_acceptRanges), ("redan/pattern.tokenWords", laid_redan_pattern_tokenWords), ("redan/pattern.arrows", laid_redan_pattern_arrows), ("unicode/utf8.first", laid_unicode_utf8_first)] }
def PatternDerivesSaid : Prop := patternDerivesRow.holds Tryz.pinned (OpenSpec.ofChange patternDerivesSpec)

/-- ITS FALSE NEIGHBOUR: 'it returns false'. Refute it at one input. -/
def patternDerivesWrong : ChangeSpec := { name := "patternDerives", fn := fun _ => fun
  | [d1, d2, d3, d4] => { results := [.lit (.bool false)], args := [d1, d2, d3, d4] }
  | _ => none }
def PatternDerivesWrongFalsely : Prop := patternDerivesRow.holds Tryz.pinned (OpenSpec.ofChange patternDerivesWrong)

/-- 'redanlaw15.PatternGiven': WHATEVER THE INPUT: true; the input reads as it did. -/
def patternGivenSpec : ChangeSpec := { name := "patternGiven", fn := fun _ => fun
  | [d] => { results := [.lit (.bool true)], args := [d] }
  | _ => none }
def patternGivenRow : OpenClaim := { program := "ytpoibhhijidobaagreatdoor", sum := "84d0842d4eac9d4e2441e5c0d1d4afba6430b43d422ff44ba845961893aeb398", func := "redan/redanlaw15.PatternGiven", spec := "patternGiven", inPlace := ["internal/bytealg.CountString", "internal/bytealg.IndexByteString", "internal/bytealg.IndexString", "internal/abi.NoEscape", "internal/bytealg.MakeNoZero"], unfollowed := true, recurses := true, named := ["unicode/utf8.first", "unicode/utf8.acceptRanges", "internal/bytealg.MaxLen", "redan/pattern.arrows", "redan/pattern.tokenWords"], apart := false, laid := [("unicode/utf8.acceptRanges", laid_unicode_utf8_acceptRanges), ("redan/pattern.tokenWords", laid_redan_pattern_tokenWords), ("redan/pattern.arrows", laid_redan_pattern_arrows), ("unicode/utf8.first", laid_unicode_utf8_first)] }
def PatternGivenSaid : Prop := patternGivenRow.holds Tryz.pinned (OpenSpec.ofChange patternGivenSpec)

/-- ITS FALSE NEIGHBOUR: 'it returns false'. Refute it at one input. -/
def patternGivenWrong : ChangeSpec := { name := "patternGiven", fn := fun _ => fun
  | [d] => { results := [.lit (.bool false)], args := [d] }
  | _ => none }
def PatternGivenWrongFalsely : Prop := patternGivenRow.holds Tryz.pinned (OpenSpec.ofChange patternGivenWrong)

/- THE SECOND FORM. 'bulk': how many values and letters a reading holds, each counted each time it is reached (what is shared counts as often as it is met; a slice's spare places count too). A statement '..UptoSaid' is the law's where the arguments, and the package variables that the reading takes, are together of bulk at most 1048576: NARROWER than '..Said'. Prove '..Said' where nothing that the law and all that it calls make is longer than what came in: it says more and counts as full. Else prove '..UptoSaid'. A law counts once. -/
mutual
def uptoBulk {H : Type} : DataW H → Nat
  | .lit (.string bytes) => bytes.length + 1
  | .lit _ => 1
  | .nil => 1
  | .ptr d => uptoBulk d + 1
  | .slice elems spare => uptoBulkAll elems + uptoBulkAll spare + 1
  | .agg parts => uptoBulkAll parts + 1
  | .iface _ d => uptoBulk d + 1
  | .map entries => uptoBulkEntries entries + 1
  | .held _ => 1
def uptoBulkAll {H : Type} : List (DataW H) → Nat
  | [] => 0
  | d :: r => uptoBulk d + uptoBulkAll r
def uptoBulkEntries {H : Type} : List (Lit × DataW H) → Nat
  | [] => 0
  | x :: r => uptoBulkEntry x + uptoBulkEntries r
def uptoBulkEntry {H : Type} : Lit × DataW H → Nat
  | (.string bytes, d) => bytes.length + uptoBulk d + 1
  | (_, d) => uptoBulk d + 1
 end
def uptoSmall : (H : Type) → List (DataW H) → Bool := fun _ ds => decide (uptoBulkAll ds ≤ 1048576)
def OpenSpec.upto (s : _root_.Go.ChangeSpec) : _root_.Go.OpenSpec := { _root_.Go.OpenSpec.ofChange s with cond := some uptoSmall }

/-- 'redanlaw15.PatternParses', WHERE WHAT IT READS IS OF BULK AT MOST 1048576: true; the input reads as it did. -/
def patternParsesUptoRow : OpenClaim := { program := "ytpoibhhijidobaagreatdoor", sum := "84d0842d4eac9d4e2441e5c0d1d4afba6430b43d422ff44ba845961893aeb398", func := "redan/redanlaw15.PatternParses", spec := "patternParses", inPlace := ["internal/bytealg.CountString", "internal/bytealg.IndexByteString", "internal/bytealg.IndexString", "internal/abi.NoEscape", "internal/bytealg.MakeNoZero"], unfollowed := true, recurses := true, named := ["unicode/utf8.first", "unicode/utf8.acceptRanges", "internal/bytealg.MaxLen", "redan/pattern.arrows", "redan/pattern.tokenWords"], apart := false, laid := [("unicode/utf8.acceptRanges", laid_unicode_utf8_acceptRanges), ("redan/pattern.tokenWords", laid_redan_pattern_tokenWords), ("redan/pattern.arrows", laid_redan_pattern_arrows), ("unicode/utf8.first", laid_unicode_utf8_first)], narrowed := true }
def PatternParsesUptoSaid : Prop := patternParsesUptoRow.holds Tryz.pinned (OpenSpec.upto patternParsesSpec)

/-- 'redanlaw15.PatternTells', WHERE WHAT IT READS IS OF BULK AT MOST 1048576: true; the input reads as it did. -/
def patternTellsUptoRow : OpenClaim := { program := "ytpoibhhijidobaagreatdoor", sum := "84d0842d4eac9d4e2441e5c0d1d4afba6430b43d422ff44ba845961893aeb398", func := "redan/redanlaw15.PatternTells", spec := "patternTells", inPlace := ["internal/bytealg.CountString", "internal/bytealg.IndexByteString", "internal/bytealg.IndexString", "internal/abi.NoEscape", "internal/bytealg.MakeNoZero"], unfollowed := true, recurses := true, named := ["unicode/utf8.first", "unicode/utf8.acceptRanges", "internal/bytealg.MaxLen", "redan/pattern.arrows", "redan/pattern.tokenWords"], apart := false, laid := [("unicode/utf8.acceptRanges", laid_unicode_utf8_acceptRanges), ("redan/pattern.tokenWords", laid_redan_pattern_tokenWords), ("redan/pattern.arrows", laid_redan_pattern_arrows), ("unicode/utf8.first", laid_unicode_utf8_first)], narrowed := true }
def PatternTellsUptoSaid : Prop := patternTellsUptoRow.holds Tryz.pinned (OpenSpec.upto patternTellsSpec)

/-- 'redanlaw15.PatternChecks', WHERE WHAT IT READS IS OF BULK AT MOST 1048576: true; the input reads as it did. -/
def patternChecksUptoRow : OpenClaim := { program := "ytpoibhhijidobaagreatdoor", sum := "84d0842d4eac9d4e2441e5c0d1d4afba6430b43d422ff44ba845961893aeb398", func := "redan/redanlaw15.PatternChecks", spec := "patternChecks", inPlace := ["internal/bytealg.CountString", "internal/bytealg.IndexByteString", "internal/bytealg.IndexString", "internal/abi.NoEscape", "internal/bytealg.MakeNoZero"], unfollowed := true, recurses := true, named := ["unicode/utf8.first", "unicode/utf8.acceptRanges", "internal/bytealg.MaxLen", "redan/pattern.arrows", "redan/pattern.tokenWords"], apart := false, laid := [("unicode/utf8.acceptRanges", laid_unicode_utf8_acceptRanges), ("redan/pattern.tokenWords", laid_redan_pattern_tokenWords), ("redan/pattern.arrows", laid_redan_pattern_arrows), ("unicode/utf8.first", laid_unicode_utf8_first)], narrowed := true }
def PatternChecksUptoSaid : Prop := patternChecksUptoRow.holds Tryz.pinned (OpenSpec.upto patternChecksSpec)

/-- 'redanlaw15.PatternGuards', WHERE WHAT IT READS IS OF BULK AT MOST 1048576: true; the input reads as it did. -/
def patternGuardsUptoRow : OpenClaim := { program := "ytpoibhhijidobaagreatdoor", sum := "84d0842d4eac9d4e2441e5c0d1d4afba6430b43d422ff44ba845961893aeb398", func := "redan/redanlaw15.PatternGuards", spec := "patternGuards", inPlace := ["internal/bytealg.CountString", "internal/bytealg.IndexByteString", "internal/bytealg.IndexString", "internal/abi.NoEscape", "internal/bytealg.MakeNoZero"], unfollowed := true, recurses := true, named := ["unicode/utf8.first", "unicode/utf8.acceptRanges", "internal/bytealg.MaxLen", "redan/pattern.arrows", "redan/pattern.tokenWords"], apart := false, laid := [("unicode/utf8.acceptRanges", laid_unicode_utf8_acceptRanges), ("redan/pattern.tokenWords", laid_redan_pattern_tokenWords), ("redan/pattern.arrows", laid_redan_pattern_arrows), ("unicode/utf8.first", laid_unicode_utf8_first)], narrowed := true }
def PatternGuardsUptoSaid : Prop := patternGuardsUptoRow.holds Tryz.pinned (OpenSpec.upto patternGuardsSpec)

/-- 'redanlaw15.PatternDerives', WHERE WHAT IT READS IS OF BULK AT MOST 1048576: true; the input reads as it did. -/
def patternDerivesUptoRow : OpenClaim := { program := "ytpoibhhijidobaagreatdoor", sum := "84d0842d4eac9d4e2441e5c0d1d4afba6430b43d422ff44ba845961893aeb398", func := "redan/redanlaw15.PatternDerives", spec := "patternDerives", inPlace := ["internal/bytealg.CountString", "internal/bytealg.IndexByteString", "internal/bytealg.IndexString", "internal/abi.NoEscape", "internal/bytealg.MakeNoZero"], unfollowed := true, recurses := true, named := ["unicode/utf8.first", "unicode/utf8.acceptRanges", "internal/bytealg.MaxLen", "redan/pattern.arrows", "redan/pattern.tokenWords"], apart := false, laid := [("unicode/utf8.acceptRanges", laid_unicode_utf8_acceptRanges), ("redan/pattern.tokenWords", laid_redan_pattern_tokenWords), ("redan/pattern.arrows", laid_redan_pattern_arrows), ("unicode/utf8.first", laid_unicode_utf8_first)], narrowed := true }
def PatternDerivesUptoSaid : Prop := patternDerivesUptoRow.holds Tryz.pinned (OpenSpec.upto patternDerivesSpec)

/-- 'redanlaw15.PatternGiven', WHERE WHAT IT READS IS OF BULK AT MOST 1048576: true; the input reads as it did. -/
def patternGivenUptoRow : OpenClaim := { program := "ytpoibhhijidobaagreatdoor", sum := "84d0842d4eac9d4e2441e5c0d1d4afba6430b43d422ff44ba845961893aeb398", func := "redan/redanlaw15.PatternGiven", spec := "patternGiven", inPlace := ["internal/bytealg.CountString", "internal/bytealg.IndexByteString", "internal/bytealg.IndexString", "internal/abi.NoEscape", "internal/bytealg.MakeNoZero"], unfollowed := true, recurses := true, named := ["unicode/utf8.first", "unicode/utf8.acceptRanges", "internal/bytealg.MaxLen", "redan/pattern.arrows", "redan/pattern.tokenWords"], apart := false, laid := [("unicode/utf8.acceptRanges", laid_unicode_utf8_acceptRanges), ("redan/pattern.tokenWords", laid_redan_pattern_tokenWords), ("redan/pattern.arrows", laid_redan_pattern_arrows), ("unicode/utf8.first", laid_unicode_utf8_first)], narrowed := true }
def PatternGivenUptoSaid : Prop := patternGivenUptoRow.holds Tryz.pinned (OpenSpec.upto patternGivenSpec)

end Rows
end Go.Proofs.YtpoibhhijidobaaGreatDoor
