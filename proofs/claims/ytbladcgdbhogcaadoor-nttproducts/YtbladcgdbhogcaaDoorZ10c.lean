/- What package zq's rounding and spreading answer: contracts, third part. -/
import Derived.Test.YtbladcgdbhogcaaDoorZ10a
import Derived.Test.YtbladcgdbhogcaaDoorRef10b
import Derived.Test.YtbladcgdbhogcaaDoorReg
namespace Go.Proofs.YtbladcgdbhogcaaDoor
open Go.ChangeShapes Go.WideShapes Go.ChangeAt Go.RowKit
set_option linter.unusedSimpArgs false
set_option linter.unusedVariables false

end Go.Proofs.YtbladcgdbhogcaaDoor
