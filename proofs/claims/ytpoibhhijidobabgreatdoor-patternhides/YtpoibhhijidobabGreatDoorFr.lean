/- What the program's listed tables give every call, and a world that holds them: shared by the laws of this seat. -/
import Derived.Test.YtpoibhhijidobabGreatDoorCards
import Derived.Test.YtpoibhhijidobabGreatDoorTie
import Derived.Test.YtpoibhhijidobabGreatDoorTabS
import Derived.Test.YtpoibhhijidobabGreatDoorQc
import Derived.Test.YtpoibhhijidobabGreatDoorBase
import Derived.WalkKit
import Derived.ProofKit
import Derived.OpenShut
import Derived.ChangeOld
import Derived.Below
import Derived.Deep.DeepHandedRow
import Derived.Lib.LaidTab
import Derived.Stop.LaidErr
import Derived.Shelf.Vars
import Derived.Deep.DeepLaidRun
import GoSem.PinnedTables
namespace Go.Proofs.YtpoibhhijidobabGreatDoor
open Go.ChangeShapes Go.WideShapes Go.ChangeAt Go.RowKit
set_option linter.unusedVariables false

theorem own : ownKnob Tryz.prog.godebug = none := by kernel_rfl
theorem laidOut : laidOutB Tryz.prog = true := by kernel_rfl
theorem g_utf8_acceptRanges : Tryz.prog.globalNamed "unicode/utf8.acceptRanges" = some 4 := by kernel_rfl
theorem g_pattern_tokenWords : Tryz.prog.globalNamed "redan/pattern.tokenWords" = some 0 := by kernel_rfl
theorem t_pattern_tokenWords : (Tryz.prog.globals[0]?).map (·.type) = some 92 := by kernel_rfl
theorem ci_pattern_tokenWords : Tryz.prog.cellsOf 9 = 1 := by kernel_rfl
theorem g_pattern_arrows : Tryz.prog.globalNamed "redan/pattern.arrows" = some 1 := by kernel_rfl
theorem t_pattern_arrows : (Tryz.prog.globals[1]?).map (·.type) = some 93 := by kernel_rfl
theorem ci_pattern_arrows : Tryz.prog.cellsOf 9 = 1 := by kernel_rfl
theorem g_utf8_first : Tryz.prog.globalNamed "unicode/utf8.first" = some 3 := by kernel_rfl
/-- What the row lists. -/
abbrev listed : List (String × DataW Unit) := [("unicode/utf8.acceptRanges", Rows.laid_unicode_utf8_acceptRanges), ("redan/pattern.tokenWords", Rows.laid_redan_pattern_tokenWords), ("redan/pattern.arrows", Rows.laid_redan_pattern_arrows), ("unicode/utf8.first", Rows.laid_unicode_utf8_first)]
def arL : List (List UInt8) := [[45, 62], [60, 45]]
theorem words_of {W : World} (h : laidMetH Tryz.prog listed W) : ∀ i, i < 11 → W.cell? ⟨0, i, none⟩ = some (.string ⟨(wdL.getD i []).toArray⟩) := by
  have h1 : laidMet Tryz.prog (("unicode/utf8.acceptRanges", Rows.laid_unicode_utf8_acceptRanges) :: ("redan/pattern.tokenWords", .agg (wdL.map fun l => .lit (.string l))) :: ("redan/pattern.arrows", .agg (arL.map fun l => .lit (.string l))) :: ("unicode/utf8.first", Rows.laid_unicode_utf8_first) :: []) W := h
  exact fun i hi => strs_of_head g_pattern_tokenWords t_pattern_tokenWords Tryz.underlying92 Tryz.underlying9 ci_pattern_tokenWords (h1.tail) i (show i < 11 from hi)
theorem arrows_of {W : World} (h : laidMetH Tryz.prog listed W) : ∀ i, i < 2 → W.cell? ⟨1, i, none⟩ = some (.string ⟨(arL.getD i []).toArray⟩) := by
  have h1 : laidMet Tryz.prog (("unicode/utf8.acceptRanges", Rows.laid_unicode_utf8_acceptRanges) :: ("redan/pattern.tokenWords", .agg (wdL.map fun l => .lit (.string l))) :: ("redan/pattern.arrows", .agg (arL.map fun l => .lit (.string l))) :: ("unicode/utf8.first", Rows.laid_unicode_utf8_first) :: []) W := h
  exact fun i hi => strs_of_head g_pattern_arrows t_pattern_arrows Tryz.underlying93 Tryz.underlying9 ci_pattern_arrows (h1.tail.tail) i (show i < 2 from hi)
theorem tk_of {W : World} (h : laidMetH Tryz.prog listed W) (hsh : W.ShapedOpen Tryz.prog) : TkT W :=
  ⟨words_of h, arrows_of h 0 (by decide), arrows_of h 1 (by decide), cell_of_shapedOpen_int (zero := #[.int .i64 0]) (t := 3) hsh (of_decide_eq_true (by kernel_rfl)) (by kernel_rfl) rfl (by kernel_rfl) (by kernel_rfl) Tryz.underlying3⟩
/-- A block that holds these cells instead. -/
def withCells (cs : Array Value) : Obj → Obj
  | .cells _ t fr => .cells cs t fr
  | o => o
/-- A world for the witness: the settled one, the tables holding what their initialisers lay. -/
noncomputable def laidWorld (os : Os) : World :=
  { World.holding Tryz.prog os ⟨#[], #[], []⟩ with heap := (((((World.holding Tryz.prog os ⟨#[], #[], []⟩).heap).modify 0 (withCells (wdL.map fun l => Value.string ⟨l.toArray⟩).toArray)).modify 1 (withCells (arL.map fun l => Value.string ⟨l.toArray⟩).toArray)).modify 3 (withCells (Go.Pinned.utf8FirstZ.map fun n => Value.int .u8 ((n : Nat) : Int)).toArray)).modify 4 (withCells #[.int .u8 128, .int .u8 191, .int .u8 160, .int .u8 191, .int .u8 128, .int .u8 159, .int .u8 144, .int .u8 191, .int .u8 128, .int .u8 143, .int .u8 0, .int .u8 0, .int .u8 0, .int .u8 0, .int .u8 0, .int .u8 0, .int .u8 0, .int .u8 0, .int .u8 0, .int .u8 0, .int .u8 0, .int .u8 0, .int .u8 0, .int .u8 0, .int .u8 0, .int .u8 0, .int .u8 0, .int .u8 0, .int .u8 0, .int .u8 0, .int .u8 0, .int .u8 0]) }
/-- What came in as a row of numbers. -/
theorem IsRow.rdI {k : IntKind} {w : World} {a : Option Addr} {len cap : Nat} {zs : List Int} (h : IsRow k w a len cap zs) : ∃ l : List Int, l.length = len ∧ RdI k w (.slice a len cap) l ∧ ∀ n ∈ l, (Lit.int k n).wf = true := by
  rcases h with ⟨rfl, rfl, rfl, rfl⟩ | ⟨x, rfl, hl, hm, hz, hc, hw⟩
  · exact ⟨[], rfl, RdI.nil k w, by simp⟩
  · have hlen : (zs.take len).length = len := by simp; omega
    refine ⟨zs.take len, hlen, ⟨_, cap, by rw [hlen], by rw [hlen]; exact hl, hm, (fun h => by cases h), ?_⟩, fun n hn => hw n (List.mem_of_mem_take hn)⟩
    by_cases h0 : len = 0
    · left; exact List.eq_nil_of_length_eq_zero (by rw [hlen]; exact h0)
    · right
      obtain ⟨b, off, spot⟩ := x
      have hspot : spot = none := by simpa [Addr.add] using World.cell?_spot (hc 0 (by omega))
      subst hspot
      refine ⟨b, off, rfl, fun i hi => ?_⟩
      rw [hlen] at hi
      have h1 := hc i (by omega)
      have hplain : (⟨b, off, none⟩ : Addr).add i = ⟨b, off + i, none⟩ := by unfold Addr.add; split <;> simp_all
      rw [hplain] at h1
      rw [h1]
      simp [hi]
theorem byte_of {n : Int} (h : (Lit.int .u8 n).wf = true) : ∃ x : UInt8, n = (x.toNat : Int) := by
  have := wf_u8 h
  refine ⟨UInt8.ofNat n.toNat, ?_⟩
  rw [UInt8.toNat_ofNat']
  omega
end Go.Proofs.YtpoibhhijidobabGreatDoor
