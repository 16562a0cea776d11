/- What package zq's rounding and spreading answer: contracts, third part. -/
import Derived.Test.YtbladcgdbhogcabDoorZ10a
import Derived.Test.YtbladcgdbhogcabDoorRef10b
import Derived.Test.YtbladcgdbhogcabDoorReg
namespace Go.Proofs.YtbladcgdbhogcabDoor
open Go.ChangeShapes Go.WideShapes Go.ChangeAt Go.RowKit
set_option linter.unusedSimpArgs false
set_option linter.unusedVariables false

end Go.Proofs.YtbladcgdbhogcabDoor
