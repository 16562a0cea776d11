/-
  NARROWER THAN 'FOR EVERY INPUT', by the rows' own cells (each row's printed sentence says how): HandBegins: laid · HandNone: laid.
  DERIVED. THE GIVEN ROWS OF THIS SEAT. 2 by the template 'for every input the law returns true; each argument reads behind the call as it read before'; 0 by the template 'total and deterministic' (their statements: YtpgjobpmafbigaaGreatDoorTotals.lean).
  GIVEN WITH THE SEED: the statements are not yours to turn. If you find one false, say at which input.
  Laid BY PROGRAM, IN A SANDBOX (cutbox-rows.mjs): the forced cells as the released guide's own fill.sh prints them over the translation 630c213ebd9e8611… (all of the seat's roots in one cut). By AI agents, Wed Nov 11 2026. No macro, syntax, notation, axiom, sorry.
-/
import Derived.Test.YtpgjobpmafbigaaGreatDoorChecked
import GoSem.PinnedTables
import GoSem.Claim
import GoSem.ClaimJoined
import GoSem.ClaimMapViews
import Derived.JoinedTies
import Derived.KernelRfl
namespace Go.Proofs.YtpgjobpmafbigaaGreatDoor
/- THE CELL 'sum', in the pinned program and in every row, IS THE sha256 OF THE DUMP (.gsa) THAT YtpgjobpmafbigaaGreatDoorProg.lean LOADS. Nothing in Lean hashes anything: it is a label: what it is worth is what the hold of that sum in a sandbox is worth. -/
noncomputable def Tryz.pinned : Pinned := { name := "ytpgjobpmafbigaagreatdoor", sum := "630c213ebd9e8611b3d4017767b68228584c4a1f4aa200eb8bb43ed9c0abea4a", checked := Tryz.checked }
namespace Rows
def none {H : Type} : Left H := { results := [], args := [] }

/- WHAT THE LISTED PACKAGE-LEVEL VARIABLES READ AS WHEN THE CALL BEGINS. Each datum BY PROGRAM (the guide's laid-datum.mjs) off the statement by which the dump's own 'gosem.cut.vars' lays the variable. In a bare row this is a premise. The card (YtpgjobpmafbigaaGreatDoorCards.lean) ties it to the program's text. -/
def laid_redan_keccak_turns {H : Type} : DataW H := .agg [.lit (.int .i64 0), .lit (.int .i64 1), .lit (.int .i64 62), .lit (.int .i64 28), .lit (.int .i64 27), .lit (.int .i64 36), .lit (.int .i64 44), .lit (.int .i64 6), .lit (.int .i64 55), .lit (.int .i64 20), .lit (.int .i64 3), .lit (.int .i64 10), .lit (.int .i64 43), .lit (.int .i64 25), .lit (.int .i64 39), .lit (.int .i64 41), .lit (.int .i64 45), .lit (.int .i64 15), .lit (.int .i64 21), .lit (.int .i64 8), .lit (.int .i64 18), .lit (.int .i64 2), .lit (.int .i64 61), .lit (.int .i64 56), .lit (.int .i64 14)]
def laid_redan_keccak_constants {H : Type} : DataW H := .agg [.lit (.int .u64 1), .lit (.int .u64 32898), .lit (.int .u64 9223372036854808714), .lit (.int .u64 9223372039002292224), .lit (.int .u64 32907), .lit (.int .u64 2147483649), .lit (.int .u64 9223372039002292353), .lit (.int .u64 9223372036854808585), .lit (.int .u64 138), .lit (.int .u64 136), .lit (.int .u64 2147516425), .lit (.int .u64 2147483658), .lit (.int .u64 2147516555), .lit (.int .u64 9223372036854775947), .lit (.int .u64 9223372036854808713), .lit (.int .u64 9223372036854808579), .lit (.int .u64 9223372036854808578), .lit (.int .u64 9223372036854775936), .lit (.int .u64 32778), .lit (.int .u64 9223372039002259466), .lit (.int .u64 9223372039002292353), .lit (.int .u64 9223372036854808704), .lit (.int .u64 2147483649), .lit (.int .u64 9223372039002292232)]
def laid_redan_zq_powers {H : Type} : DataW H := .agg [.lit (.int .i64 17), .lit (.int .i64 289), .lit (.int .i64 296), .lit (.int .i64 1062), .lit (.int .i64 2642), .lit (.int .i64 2580), .lit (.int .i64 1729)]
def laid_unicode_utf8_acceptRanges {H : Type} : DataW H := .agg [.agg [.lit (.int .u8 128), .lit (.int .u8 191)], .agg [.lit (.int .u8 160), .lit (.int .u8 191)], .agg [.lit (.int .u8 128), .lit (.int .u8 159)], .agg [.lit (.int .u8 144), .lit (.int .u8 191)], .agg [.lit (.int .u8 128), .lit (.int .u8 143)], .agg [.lit (.int .u8 0), .lit (.int .u8 0)], .agg [.lit (.int .u8 0), .lit (.int .u8 0)], .agg [.lit (.int .u8 0), .lit (.int .u8 0)], .agg [.lit (.int .u8 0), .lit (.int .u8 0)], .agg [.lit (.int .u8 0), .lit (.int .u8 0)], .agg [.lit (.int .u8 0), .lit (.int .u8 0)], .agg [.lit (.int .u8 0), .lit (.int .u8 0)], .agg [.lit (.int .u8 0), .lit (.int .u8 0)], .agg [.lit (.int .u8 0), .lit (.int .u8 0)], .agg [.lit (.int .u8 0), .lit (.int .u8 0)], .agg [.lit (.int .u8 0), .lit (.int .u8 0)]]
def laid_redan_chacha_places {H : Type} : DataW H := .agg [.agg [.lit (.int .i64 0), .lit (.int .i64 4), .lit (.int .i64 8), .lit (.int .i64 12)], .agg [.lit (.int .i64 1), .lit (.int .i64 5), .lit (.int .i64 9), .lit (.int .i64 13)], .agg [.lit (.int .i64 2), .lit (.int .i64 6), .lit (.int .i64 10), .lit (.int .i64 14)], .agg [.lit (.int .i64 3), .lit (.int .i64 7), .lit (.int .i64 11), .lit (.int .i64 15)], .agg [.lit (.int .i64 0), .lit (.int .i64 5), .lit (.int .i64 10), .lit (.int .i64 15)], .agg [.lit (.int .i64 1), .lit (.int .i64 6), .lit (.int .i64 11), .lit (.int .i64 12)], .agg [.lit (.int .i64 2), .lit (.int .i64 7), .lit (.int .i64 8), .lit (.int .i64 13)], .agg [.lit (.int .i64 3), .lit (.int .i64 4), .lit (.int .i64 9), .lit (.int .i64 14)]]
def laid_redan_poly_kept {H : Type} : DataW H := .agg [.lit (.int .u8 255), .lit (.int .u8 255), .lit (.int .u8 255), .lit (.int .u8 15), .lit (.int .u8 252), .lit (.int .u8 255), .lit (.int .u8 255), .lit (.int .u8 15), .lit (.int .u8 252), .lit (.int .u8 255), .lit (.int .u8 255), .lit (.int .u8 15), .lit (.int .u8 252), .lit (.int .u8 255), .lit (.int .u8 255), .lit (.int .u8 15)]
def laid_redan_pattern_tokenWords {H : Type} : DataW H := .agg [.lit (.string []), .lit (.string [101]), .lit (.string [115]), .lit (.string [101, 101]), .lit (.string [101, 115]), .lit (.string [115, 101]), .lit (.string [115, 115]), .lit (.string [112, 115, 107]), .lit (.string [101, 49]), .lit (.string [101, 107, 101, 109]), .lit (.string [115, 107, 101, 109])]
def laid_redan_pattern_arrows {H : Type} : DataW H := .agg [.lit (.string [45, 62]), .lit (.string [60, 45])]
/-- One of Go's own tables, pinned by name: the form's constant. -/
def laid_unicode_utf8_first : DataW Unit := Go.Pinned.utf8First

/-- 'redanlaw17.HandBegins': WHATEVER THE INPUT: true; the input reads as it did. -/
def handBeginsSpec : ChangeSpec := { name := "handBegins", fn := fun _ => fun
  | [d] => { results := [.lit (.bool true)], args := [d] }
  | _ => none }
def handBeginsRow : OpenClaim := { program := "ytpgjobpmafbigaagreatdoor", sum := "630c213ebd9e8611b3d4017767b68228584c4a1f4aa200eb8bb43ed9c0abea4a", func := "redan/redanlaw17.HandBegins", spec := "handBegins", inPlace := ["internal/bytealg.CountString", "internal/bytealg.IndexByteString", "internal/bytealg.IndexString", "math/bits.Add64", "math/bits.Sub64"], unfollowed := true, recurses := true, named := ["unicode/utf8.first", "unicode/utf8.acceptRanges", "internal/bytealg.MaxLen", "redan/pattern.arrows", "redan/pattern.tokenWords", "redan/keccak.constants", "redan/keccak.turns", "redan/chacha.places", "redan/poly.kept", "redan/zq.powers"], apart := false, laid := [("redan/keccak.turns", laid_redan_keccak_turns), ("redan/keccak.constants", laid_redan_keccak_constants), ("redan/zq.powers", laid_redan_zq_powers), ("unicode/utf8.acceptRanges", laid_unicode_utf8_acceptRanges), ("redan/chacha.places", laid_redan_chacha_places), ("redan/poly.kept", laid_redan_poly_kept), ("redan/pattern.tokenWords", laid_redan_pattern_tokenWords), ("redan/pattern.arrows", laid_redan_pattern_arrows), ("unicode/utf8.first", laid_unicode_utf8_first)] }
def HandBeginsSaid : Prop := handBeginsRow.holds Tryz.pinned (OpenSpec.ofChange handBeginsSpec)

/-- ITS FALSE NEIGHBOUR: 'it returns false'. Refute it at one input. -/
def handBeginsWrong : ChangeSpec := { name := "handBegins", fn := fun _ => fun
  | [d] => { results := [.lit (.bool false)], args := [d] }
  | _ => none }
def HandBeginsWrongFalsely : Prop := handBeginsRow.holds Tryz.pinned (OpenSpec.ofChange handBeginsWrong)

/-- 'redanlaw17.HandNone': WHATEVER THE INPUT: true; the input reads as it did. -/
def handNoneSpec : ChangeSpec := { name := "handNone", fn := fun _ => fun
  | [d] => { results := [.lit (.bool true)], args := [d] }
  | _ => none }
def handNoneRow : OpenClaim := { program := "ytpgjobpmafbigaagreatdoor", sum := "630c213ebd9e8611b3d4017767b68228584c4a1f4aa200eb8bb43ed9c0abea4a", func := "redan/redanlaw17.HandNone", spec := "handNone", inPlace := ["internal/bytealg.CountString", "internal/bytealg.IndexByteString", "internal/bytealg.IndexString", "math/bits.Add64", "math/bits.Sub64"], unfollowed := true, recurses := true, named := ["unicode/utf8.first", "unicode/utf8.acceptRanges", "internal/bytealg.MaxLen", "redan/pattern.arrows", "redan/pattern.tokenWords", "redan/keccak.constants", "redan/keccak.turns", "redan/chacha.places", "redan/poly.kept", "redan/zq.powers"], apart := false, laid := [("redan/keccak.turns", laid_redan_keccak_turns), ("redan/keccak.constants", laid_redan_keccak_constants), ("redan/zq.powers", laid_redan_zq_powers), ("unicode/utf8.acceptRanges", laid_unicode_utf8_acceptRanges), ("redan/chacha.places", laid_redan_chacha_places), ("redan/poly.kept", laid_redan_poly_kept), ("redan/pattern.tokenWords", laid_redan_pattern_tokenWords), ("redan/pattern.arrows", laid_redan_pattern_arrows), ("unicode/utf8.first", laid_unicode_utf8_first)] }
def HandNoneSaid : Prop := handNoneRow.holds Tryz.pinned (OpenSpec.ofChange handNoneSpec)

/-- ITS FALSE NEIGHBOUR: 'it returns false'. Refute it at one input. -/
def handNoneWrong : ChangeSpec := { name := "handNone", fn := fun _ => fun
  | [d] => { results := [.lit (.bool false)], args := [d] }
  | _ => none }
def HandNoneWrongFalsely : Prop := handNoneRow.holds Tryz.pinned (OpenSpec.ofChange handNoneWrong)

/- THE SECOND FORM. 'bulk': how many values and letters a reading holds, each counted each time it is reached (what is shared counts as often as it is met; a slice's spare places count too). A statement '..UptoSaid' is the law's where the arguments, and the package variables that the reading takes, are together of bulk at most 1048576: NARROWER than '..Said'. Prove '..Said' where nothing that the law and all that it calls make is longer than what came in: it says more and counts as full. Else prove '..UptoSaid'. A law counts once. -/
mutual
def uptoBulk {H : Type} : DataW H → Nat
  | .lit (.string bytes) => bytes.length + 1
  | .lit _ => 1
  | .nil => 1
  | .ptr d => uptoBulk d + 1
  | .slice elems spare => uptoBulkAll elems + uptoBulkAll spare + 1
  | .agg parts => uptoBulkAll parts + 1
  | .iface _ d => uptoBulk d + 1
  | .map entries => uptoBulkEntries entries + 1
  | .held _ => 1
def uptoBulkAll {H : Type} : List (DataW H) → Nat
  | [] => 0
  | d :: r => uptoBulk d + uptoBulkAll r
def uptoBulkEntries {H : Type} : List (Lit × DataW H) → Nat
  | [] => 0
  | x :: r => uptoBulkEntry x + uptoBulkEntries r
def uptoBulkEntry {H : Type} : Lit × DataW H → Nat
  | (.string bytes, d) => bytes.length + uptoBulk d + 1
  | (_, d) => uptoBulk d + 1
 end
def uptoSmall : (H : Type) → List (DataW H) → Bool := fun _ ds => decide (uptoBulkAll ds ≤ 1048576)
def OpenSpec.upto (s : _root_.Go.ChangeSpec) : _root_.Go.OpenSpec := { _root_.Go.OpenSpec.ofChange s with cond := some uptoSmall }

/-- 'redanlaw17.HandBegins', WHERE WHAT IT READS IS OF BULK AT MOST 1048576: true; the input reads as it did. -/
def handBeginsUptoRow : OpenClaim := { program := "ytpgjobpmafbigaagreatdoor", sum := "630c213ebd9e8611b3d4017767b68228584c4a1f4aa200eb8bb43ed9c0abea4a", func := "redan/redanlaw17.HandBegins", spec := "handBegins", inPlace := ["internal/bytealg.CountString", "internal/bytealg.IndexByteString", "internal/bytealg.IndexString", "math/bits.Add64", "math/bits.Sub64"], unfollowed := true, recurses := true, named := ["unicode/utf8.first", "unicode/utf8.acceptRanges", "internal/bytealg.MaxLen", "redan/pattern.arrows", "redan/pattern.tokenWords", "redan/keccak.constants", "redan/keccak.turns", "redan/chacha.places", "redan/poly.kept", "redan/zq.powers"], apart := false, laid := [("redan/keccak.turns", laid_redan_keccak_turns), ("redan/keccak.constants", laid_redan_keccak_constants), ("redan/zq.powers", laid_redan_zq_powers), ("unicode/utf8.acceptRanges", laid_unicode_utf8_acceptRanges), ("redan/chacha.places", laid_redan_chacha_places), ("redan/poly.kept", laid_redan_poly_kept), ("redan/pattern.tokenWords", laid_redan_pattern_tokenWords), ("redan/pattern.arrows", laid_redan_pattern_arrows), ("unicode/utf8.first", laid_unicode_utf8_first)], narrowed := true }
def HandBeginsUptoSaid : Prop := handBeginsUptoRow.holds Tryz.pinned (OpenSpec.upto handBeginsSpec)

/-- 'redanlaw17.HandNone', WHERE WHAT IT READS IS OF BULK AT MOST 1048576: true; the input reads as it did. -/
def handNoneUptoRow : OpenClaim := { program := "ytpgjobpmafbigaagreatdoor", sum := "630c213ebd9e8611b3d4017767b68228584c4a1f4aa200eb8bb43ed9c0abea4a", func := "redan/redanlaw17.HandNone", spec := "handNone", inPlace := ["internal/bytealg.CountString", "internal/bytealg.IndexByteString", "internal/bytealg.IndexString", "math/bits.Add64", "math/bits.Sub64"], unfollowed := true, recurses := true, named := ["unicode/utf8.first", "unicode/utf8.acceptRanges", "internal/bytealg.MaxLen", "redan/pattern.arrows", "redan/pattern.tokenWords", "redan/keccak.constants", "redan/keccak.turns", "redan/chacha.places", "redan/poly.kept", "redan/zq.powers"], apart := false, laid := [("redan/keccak.turns", laid_redan_keccak_turns), ("redan/keccak.constants", laid_redan_keccak_constants), ("redan/zq.powers", laid_redan_zq_powers), ("unicode/utf8.acceptRanges", laid_unicode_utf8_acceptRanges), ("redan/chacha.places", laid_redan_chacha_places), ("redan/poly.kept", laid_redan_poly_kept), ("redan/pattern.tokenWords", laid_redan_pattern_tokenWords), ("redan/pattern.arrows", laid_redan_pattern_arrows), ("unicode/utf8.first", laid_unicode_utf8_first)], narrowed := true }
def HandNoneUptoSaid : Prop := handNoneUptoRow.holds Tryz.pinned (OpenSpec.upto handNoneSpec)

end Rows
end Go.Proofs.YtpgjobpmafbigaaGreatDoor
