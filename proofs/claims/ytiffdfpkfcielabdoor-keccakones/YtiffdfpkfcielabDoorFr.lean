/- What the program's listed tables give every call, and a world that holds them: shared by the laws of this seat. -/
import Derived.Test.YtiffdfpkfcielabDoorCards
import Derived.Test.YtiffdfpkfcielabDoorTie
import Derived.Test.YtiffdfpkfcielabDoorK02a
import Derived.WalkKit
import Derived.ProofKit
import Derived.OpenShut
import Derived.ChangeOld
import Derived.Below
import Derived.Deep.DeepHandedRow
import Derived.Lib.LaidTab
import Derived.Stop.LaidErr
namespace Go.Proofs.YtiffdfpkfcielabDoor
open Go.ChangeShapes Go.WideShapes Go.ChangeAt Go.RowKit
set_option linter.unusedVariables false

theorem own : ownKnob Tryd.prog.godebug = none := by kernel_rfl
theorem laidOut : laidOutB Tryd.prog = true := by kernel_rfl
theorem gTurns : Tryd.prog.globalNamed "redan/keccak.turns" = some 0 := by kernel_rfl
theorem gConsts : Tryd.prog.globalNamed "redan/keccak.constants" = some 1 := by kernel_rfl
theorem tTurns : (Tryd.prog.globals[0]?).map (·.type) = some 38 := by kernel_rfl
theorem tConsts : (Tryd.prog.globals[1]?).map (·.type) = some 40 := by kernel_rfl
theorem cells38 : Tryd.prog.cellsOf 38 = 25 := by kernel_rfl
theorem cells40 : Tryd.prog.cellsOf 40 = 24 := by kernel_rfl
theorem cells3 : Tryd.prog.cellsOf 3 = 1 := by kernel_rfl
theorem cells22 : Tryd.prog.cellsOf 22 = 1 := by kernel_rfl
/-- What the row lists. -/
abbrev listed : List (String × DataW Unit) := [("redan/keccak.turns", Rows.laid_redan_keccak_turns), ("redan/keccak.constants", Rows.laid_redan_keccak_constants)]
theorem tabs_of {W : World} (h : laidMetH Tryd.prog listed W) : Tabs W := by
  have h1 : laidMet Tryd.prog (("redan/keccak.turns", Lib.tabData .i64 trT) :: [("redan/keccak.constants", Lib.tabData .u64 ksT)]) W := h
  have a := Lib.tabIs_of_head gTurns tTurns Tryd.underlying38 Tryd.underlying3 cells3 cells38 h1
  have b := Lib.tabIs_of_head gConsts tConsts Tryd.underlying40 Tryd.underlying22 cells22 cells40 h1.tail
  exact ⟨fun i hi => a.cell gTurns i hi, fun i hi => b.cell gConsts i hi⟩
/-- A block that holds these cells instead. -/
def withCells (cs : Array Value) : Obj → Obj
  | .cells _ t fr => .cells cs t fr
  | o => o
/-- A world for the witness: the settled one, the tables holding what their initialisers lay. -/
noncomputable def laidWorld (os : Os) : World :=
  { World.holding Tryd.prog os ⟨#[], #[], []⟩ with heap := ((World.holding Tryd.prog os ⟨#[], #[], []⟩).heap.modify 0 (withCells (trT.map (Value.int .i64)).toArray)).modify 1 (withCells (ksT.map (Value.int .u64)).toArray) }
end Go.Proofs.YtiffdfpkfcielabDoor
