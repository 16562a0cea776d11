/- What the program's listed table gives every call, and a world that holds it: shared by the laws of this seat. -/
import Derived.Test.YtlggnknblfclkaaDoorCards
import Derived.Test.YtlggnknblfclkaaDoorTie
import Derived.Test.YtlggnknblfclkaaDoorC07c
import Derived.Test.YtlggnknblfclkaaDoorTab2
import Derived.Test.YtlggnknblfclkaaDoorMem
import Derived.WalkKit
import Derived.ProofKit
import Derived.OpenShut
import Derived.ChangeOld
import Derived.Below
import Derived.Deep.DeepHandedRow
import Derived.Lib.LaidTab
import Derived.Stop.LaidErr
namespace Go.Proofs.YtlggnknblfclkaaDoor
open Go.ChangeShapes Go.WideShapes Go.ChangeAt Go.RowKit
set_option linter.unusedVariables false

theorem own : ownKnob Tryd.prog.godebug = none := by kernel_rfl
theorem laidOut : laidOutB Tryd.prog = true := by kernel_rfl
theorem gPlaces : Tryd.prog.globalNamed "redan/chacha.places" = some 0 := by kernel_rfl
theorem tPlaces : (Tryd.prog.globals[0]?).map (·.type) = some 58 := by kernel_rfl
theorem cellsRow' : Tryd.prog.cellsOf 57 = 4 := by kernel_rfl
theorem cellsInt' : Tryd.prog.cellsOf 3 = 1 := by kernel_rfl
/-- What the row lists. -/
abbrev listed : List (String × DataW Unit) := [("redan/chacha.places", Rows.laid_redan_chacha_places)]
def plR : List (List Int) := [[0, 4, 8, 12], [1, 5, 9, 13], [2, 6, 10, 14], [3, 7, 11, 15], [0, 5, 10, 15], [1, 6, 11, 12], [2, 7, 8, 13], [3, 4, 9, 14]]
theorem plR_len : ∀ i, i < 8 → (plR.getD i []).length = 4 := by decide
theorem plR_at : ∀ i, i < 32 → (plR.getD (i / 4) []).getD (i % 4) 0 = ((plL.getD i 0 : Nat) : Int) := by decide
theorem tabs_of {W : World} (h : laidMetH Tryd.prog listed W) : PlT W := by
  have h1 : laidMet Tryd.prog (("redan/chacha.places", .agg (plR.map (Lib.tabData .i64))) :: []) W := h
  intro i hi
  have h2 := tab2_of_head gPlaces tPlaces Tryd.underlying58 Tryd.underlying57 Tryd.underlying3 cellsInt' cellsRow' h1 (i / 4) (i % 4) (show i / 4 < 8 by omega) (by rw [plR_len _ (by omega)]; omega)
  rw [plR_at i hi, show i / 4 * 4 + i % 4 = i by omega] at h2
  exact h2
/-- A block that holds these cells instead. -/
def withCells (cs : Array Value) : Obj → Obj
  | .cells _ t fr => .cells cs t fr
  | o => o
/-- A world for the witness: the settled one, the table holding what its initialiser lays. -/
noncomputable def laidWorld (os : Os) : World :=
  { World.holding Tryd.prog os ⟨#[], #[], []⟩ with heap := (World.holding Tryd.prog os ⟨#[], #[], []⟩).heap.modify 0 (withCells (plL.map fun x => Value.int .i64 ((x : Nat) : Int)).toArray) }
end Go.Proofs.YtlggnknblfclkaaDoor
