/- What the document's own bytes of a state, and state of bytes, are: contracts of the reference of layer 3, first part. -/
import Derived.Test.YtlcnepnappfjeabDoorRef01
import Derived.Test.YtlcnepnappfjeabDoorBase
import Derived.Test.YtlcnepnappfjeabDoorKec
import Derived.Test.YtlcnepnappfjeabDoorRef02l
namespace Go.Proofs.YtlcnepnappfjeabDoor
open Go.ChangeShapes Go.WideShapes Go.ChangeAt Go.RowKit
set_option linter.unusedSimpArgs false
set_option linter.unusedVariables false

end Go.Proofs.YtlcnepnappfjeabDoor
