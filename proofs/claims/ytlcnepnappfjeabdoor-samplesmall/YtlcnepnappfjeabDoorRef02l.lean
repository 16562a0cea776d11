/- What the document's own empty state is: a contract of the reference of layer 2. -/
import Derived.Test.YtlcnepnappfjeabDoorRows
import Derived.Test.YtlcnepnappfjeabDoorBase
import Derived.WalkSpells
import Derived.RegionTactic
import Derived.BigRegion
namespace Go.Proofs.YtlcnepnappfjeabDoor
open Go.ChangeShapes Go.WideShapes Go.ChangeAt Go.RowKit
set_option linter.unusedSimpArgs false
set_option linter.unusedVariables false

theorem sizeU64 : (Tryd.prog.info? 45).map (·.size) = some 1 := by kernel_rfl
theorem infoU64 : (Tryd.prog.info? 45).map (fun i => (i.zero, i.size, i.bytes)) = some (some (.int .u64 0), 1, 8) := by kernel_rfl

end Go.Proofs.YtlcnepnappfjeabDoor
