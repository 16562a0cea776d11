/- What the document's own Load and Store answer, for whatever reads as bytes: contracts of the reference of layer 1. -/
import Derived.Test.YtlcnepnappfjeabDoorRows
import Derived.Test.YtlcnepnappfjeabDoorBase
import Derived.Deep.QuietTactic
import Derived.BigQuiet
import Derived.WalkSpells
namespace Go.Proofs.YtlcnepnappfjeabDoor
open Go.ChangeShapes Go.WideShapes Go.ChangeAt Go.RowKit
set_option linter.unusedSimpArgs false
set_option linter.unusedVariables false

theorem infoU8 : (Tryd.prog.info? 5).map (fun i => (i.zero, i.size, i.bytes)) = some (some (.int .u8 0), 1, 1) := by kernel_rfl

end Go.Proofs.YtlcnepnappfjeabDoor
