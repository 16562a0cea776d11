/- What the program's listed tables give every call, and a world that holds them: shared by the laws of this seat. -/
import Derived.Test.YtdlmmcilembjgaaGreatDoorCards
import Derived.Test.YtdlmmcilembjgaaGreatDoorTie
import Derived.Test.YtdlmmcilembjgaaGreatDoorGa
import Derived.Test.YtdlmmcilembjgaaGreatDoorGb
import Derived.Test.YtdlmmcilembjgaaGreatDoorBase
import Derived.WalkKit
import Derived.ProofKit
import Derived.OpenShut
import Derived.ChangeOld
import Derived.Below
import Derived.Deep.DeepHandedRow
import Derived.Lib.LaidTab
import Derived.Stop.LaidErr
namespace Go.Proofs.YtdlmmcilembjgaaGreatDoor
open Go.ChangeShapes Go.WideShapes Go.ChangeAt Go.RowKit
set_option linter.unusedVariables false

theorem own : ownKnob Tryz.prog.godebug = none := by kernel_rfl
theorem laidOut : laidOutB Tryz.prog = true := by kernel_rfl
theorem g_keccak_turns : Tryz.prog.globalNamed "redan/keccak.turns" = some 3 := by kernel_rfl
theorem t_keccak_turns : (Tryz.prog.globals[3]?).map (·.type) = some 132 := by kernel_rfl
theorem ca_keccak_turns : Tryz.prog.cellsOf 132 = 25 := by kernel_rfl
theorem ci_keccak_turns : Tryz.prog.cellsOf 3 = 1 := by kernel_rfl
theorem g_keccak_constants : Tryz.prog.globalNamed "redan/keccak.constants" = some 2 := by kernel_rfl
theorem t_keccak_constants : (Tryz.prog.globals[2]?).map (·.type) = some 131 := by kernel_rfl
theorem ca_keccak_constants : Tryz.prog.cellsOf 131 = 24 := by kernel_rfl
theorem ci_keccak_constants : Tryz.prog.cellsOf 27 = 1 := by kernel_rfl
theorem g_chacha_places : Tryz.prog.globalNamed "redan/chacha.places" = some 0 := by kernel_rfl
theorem t_chacha_places : (Tryz.prog.globals[0]?).map (·.type) = some 122 := by kernel_rfl
theorem ca_chacha_places : Tryz.prog.cellsOf 121 = 4 := by kernel_rfl
theorem ci_chacha_places : Tryz.prog.cellsOf 3 = 1 := by kernel_rfl
theorem g_poly_kept : Tryz.prog.globalNamed "redan/poly.kept" = some 1 := by kernel_rfl
theorem t_poly_kept : (Tryz.prog.globals[1]?).map (·.type) = some 125 := by kernel_rfl
theorem ca_poly_kept : Tryz.prog.cellsOf 125 = 16 := by kernel_rfl
theorem ci_poly_kept : Tryz.prog.cellsOf 5 = 1 := by kernel_rfl
abbrev listed : List (String × DataW Unit) := [("redan/keccak.turns", Rows.laid_redan_keccak_turns), ("redan/keccak.constants", Rows.laid_redan_keccak_constants), ("redan/chacha.places", Rows.laid_redan_chacha_places), ("redan/poly.kept", Rows.laid_redan_poly_kept)]
def plR : List (List Int) := [[0, 4, 8, 12], [1, 5, 9, 13], [2, 6, 10, 14], [3, 7, 11, 15], [0, 5, 10, 15], [1, 6, 11, 12], [2, 7, 8, 13], [3, 4, 9, 14]]
theorem plR_len : ∀ i, i < 8 → (plR.getD i []).length = 4 := by decide
theorem plR_at : ∀ i, i < 32 → (plR.getD (i / 4) []).getD (i % 4) 0 = ((plL.getD i 0 : Nat) : Int) := by decide
def kpI : List Int := [255, 255, 255, 15, 252, 255, 255, 15, 252, 255, 255, 15, 252, 255, 255, 15]
theorem kpI_at : ∀ i, i < 16 → kpI.getD i 0 = ((kpL.getD i 0 : Nat) : Int) := by decide
theorem tabs2_of {W : World} (h : laidMetH Tryz.prog listed W) : Tabs W := by
 have h1 : laidMet Tryz.prog (("redan/keccak.turns", Lib.tabData .i64 trT) :: ("redan/keccak.constants", Lib.tabData .u64 ksT) :: ("redan/chacha.places", .agg (plR.map (Lib.tabData .i64))) :: ("redan/poly.kept", Lib.tabData .u8 kpI) :: []) W := h
 have a := Lib.tabIs_of_head g_keccak_turns t_keccak_turns Tryz.underlying132 Tryz.underlying3 ci_keccak_turns ca_keccak_turns h1
 have b := Lib.tabIs_of_head g_keccak_constants t_keccak_constants Tryz.underlying131 Tryz.underlying27 ci_keccak_constants ca_keccak_constants h1.tail
 exact ⟨fun i hi => a.cell g_keccak_turns i hi, fun i hi => b.cell g_keccak_constants i hi⟩
theorem places_of {W : World} (h : laidMetH Tryz.prog listed W) : PlT W := by
 have h1 : laidMet Tryz.prog (("redan/keccak.turns", Lib.tabData .i64 trT) :: ("redan/keccak.constants", Lib.tabData .u64 ksT) :: ("redan/chacha.places", .agg (plR.map (Lib.tabData .i64))) :: ("redan/poly.kept", Lib.tabData .u8 kpI) :: []) W := h
 intro i hi
 have h2 := tab2_of_head g_chacha_places t_chacha_places Tryz.underlying122 Tryz.underlying121 Tryz.underlying3 ci_chacha_places ca_chacha_places (h1.tail.tail) (i / 4) (i % 4) (show i / 4 < 8 by omega) (by rw [plR_len _ (by omega)]; omega)
 rw [plR_at i hi, show i / 4 * 4 + i % 4 = i by omega] at h2
 exact h2
theorem kept_of {W : World} (h : laidMetH Tryz.prog listed W) : KpT W := by
 have h1 : laidMet Tryz.prog (("redan/keccak.turns", Lib.tabData .i64 trT) :: ("redan/keccak.constants", Lib.tabData .u64 ksT) :: ("redan/chacha.places", .agg (plR.map (Lib.tabData .i64))) :: ("redan/poly.kept", Lib.tabData .u8 kpI) :: []) W := h
 have a := Lib.tabIs_of_head g_poly_kept t_poly_kept Tryz.underlying125 Tryz.underlying5 ci_poly_kept ca_poly_kept h1.tail.tail.tail
 intro i hi
 have h2 := a.cell g_poly_kept i (show i < 16 from hi)
 rw [kpI_at i hi] at h2
 exact h2
def withCells (cs : Array Value) : Obj → Obj
 | .cells _ t fr => .cells cs t fr
 | o => o
noncomputable def laidWorld (os : Os) : World :=
 { World.holding Tryz.prog os ⟨#[], #[], []⟩ with heap := (((((World.holding Tryz.prog os ⟨#[], #[], []⟩).heap).modify 0 (withCells (plL.map fun x => Value.int .i64 ((x : Nat) : Int)).toArray)).modify 1 (withCells (kpI.map (Value.int .u8)).toArray)).modify 2 (withCells (ksT.map (Value.int .u64)).toArray)).modify 3 (withCells (trT.map (Value.int .i64)).toArray) }
end Go.Proofs.YtdlmmcilembjgaaGreatDoor
