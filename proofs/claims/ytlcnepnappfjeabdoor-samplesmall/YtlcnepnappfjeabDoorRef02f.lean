/- What the document's own turning of a lane and its constants answer: contracts of the reference of layer 2, sixth part. -/
import Derived.Test.YtlcnepnappfjeabDoorRef02l
import Derived.Test.YtlcnepnappfjeabDoorKec
import Derived.Deep.QuietTactic
import Derived.BigQuiet
namespace Go.Proofs.YtlcnepnappfjeabDoor
open Go.ChangeShapes Go.WideShapes Go.ChangeAt Go.RowKit
set_option linter.unusedSimpArgs false
set_option linter.unusedVariables false

end Go.Proofs.YtlcnepnappfjeabDoor
