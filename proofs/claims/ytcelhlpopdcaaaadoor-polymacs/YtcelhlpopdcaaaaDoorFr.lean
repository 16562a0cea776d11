/- What the program's listed table gives every call, and a world that holds it: shared by the laws of this seat. -/
import Derived.Test.YtcelhlpopdcaaaaDoorCards
import Derived.Test.YtcelhlpopdcaaaaDoorTie
import Derived.Test.YtcelhlpopdcaaaaDoorP08d
import Derived.Test.YtcelhlpopdcaaaaDoorMem
import Derived.WalkKit
import Derived.ProofKit
import Derived.OpenShut
import Derived.ChangeOld
import Derived.Below
import Derived.Deep.DeepHandedRow
import Derived.Lib.LaidTab
import Derived.Stop.LaidErr
namespace Go.Proofs.YtcelhlpopdcaaaaDoor
open Go.ChangeShapes Go.WideShapes Go.ChangeAt Go.RowKit
set_option linter.unusedVariables false

theorem own : ownKnob Tryd.prog.godebug = none := by kernel_rfl
theorem laidOut : laidOutB Tryd.prog = true := by kernel_rfl
theorem gKept : Tryd.prog.globalNamed "redan/poly.kept" = some 0 := by kernel_rfl
theorem tKept : (Tryd.prog.globals[0]?).map (·.type) = some 29 := by kernel_rfl
theorem cellsArr' : Tryd.prog.cellsOf 29 = 16 := by kernel_rfl
theorem cellsByte' : Tryd.prog.cellsOf 5 = 1 := by kernel_rfl
/-- What the row lists. -/
abbrev listed : List (String × DataW Unit) := [("redan/poly.kept", Rows.laid_redan_poly_kept)]
def kpI : List Int := [255, 255, 255, 15, 252, 255, 255, 15, 252, 255, 255, 15, 252, 255, 255, 15]
theorem kpI_at : ∀ i, i < 16 → kpI.getD i 0 = ((kpL.getD i 0 : Nat) : Int) := by decide
theorem tabs_of {W : World} (h : laidMetH Tryd.prog listed W) : KpT W := by
  have h1 : laidMet Tryd.prog (("redan/poly.kept", Lib.tabData .u8 kpI) :: []) W := h
  have a := Lib.tabIs_of_head gKept tKept Tryd.underlying29 Tryd.underlying5 cellsByte' cellsArr' h1
  intro i hi
  have h2 := a.cell gKept i (show i < 16 from hi)
  rw [kpI_at i hi] at h2
  exact h2
/-- A block that holds these cells instead. -/
def withCells (cs : Array Value) : Obj → Obj
  | .cells _ t fr => .cells cs t fr
  | o => o
/-- A world for the witness: the settled one, the table holding what its initialiser lays. -/
noncomputable def laidWorld (os : Os) : World :=
  { World.holding Tryd.prog os ⟨#[], #[], []⟩ with heap := (World.holding Tryd.prog os ⟨#[], #[], []⟩).heap.modify 0 (withCells (kpI.map (Value.int .u8)).toArray) }
theorem byte_of {n : Int} (h : (Lit.int .u8 n).wf = true) : ∃ x : UInt8, n = (x.toNat : Int) := by
  have := wf_u8 h
  refine ⟨UInt8.ofNat n.toNat, ?_⟩
  rw [UInt8.toNat_ofNat']
  omega
end Go.Proofs.YtcelhlpopdcaaaaDoor
