/- A polynomial that comes in by value: what it is. -/
import Derived.Test.YtmhbjaampobcbaaGreatDoorRfa
import Derived.Test.YtmhbjaampobcbaaGreatDoorBase
namespace Go.Proofs.YtmhbjaampobcbaaGreatDoor
open Go.ChangeShapes Go.WideShapes Go.ChangeAt Go.RowKit
set_option linter.unusedSimpArgs false
set_option linter.unusedVariables false

end Go.Proofs.YtmhbjaampobcbaaGreatDoor
