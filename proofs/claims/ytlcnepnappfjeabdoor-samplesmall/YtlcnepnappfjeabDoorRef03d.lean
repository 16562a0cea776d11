/- What the document's own Absorb answers at every rate: a contract of the reference of layer 3, fourth part. -/
import Derived.Test.YtlcnepnappfjeabDoorRef03c
namespace Go.Proofs.YtlcnepnappfjeabDoor
open Go.ChangeShapes Go.WideShapes Go.ChangeAt Go.RowKit
set_option linter.unusedSimpArgs false
set_option linter.unusedVariables false

end Go.Proofs.YtlcnepnappfjeabDoor
