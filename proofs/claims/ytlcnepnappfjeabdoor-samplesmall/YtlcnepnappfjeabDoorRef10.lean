/- What the document's own rests, powers and rounding answer: contracts of the reference of layer 10. -/
import Derived.Test.YtlcnepnappfjeabDoorNum
import Derived.Test.YtlcnepnappfjeabDoorBase
import Derived.Test.YtlcnepnappfjeabDoorChecked
import Derived.OwnWalk
import Derived.Deep.QuietTactic
import Derived.BigQuiet
import Derived.WalkSpells
import Derived.RegionTactic
import Derived.BigRegion
namespace Go.Proofs.YtlcnepnappfjeabDoor
open Go.ChangeShapes Go.WideShapes Go.ChangeAt Go.RowKit
set_option linter.unusedSimpArgs false
set_option linter.unusedVariables false

/-- A number of 64 bits. -/
abbrev In64 (x : Int) : Prop := -9223372036854775808 ≤ x ∧ x ≤ 9223372036854775807
theorem retZ {k : IntKind} {a b : Int} (h : a = b) : Ending.returned (.int k a) = .returned (.int k b) := by rw [h]

end Go.Proofs.YtlcnepnappfjeabDoor
