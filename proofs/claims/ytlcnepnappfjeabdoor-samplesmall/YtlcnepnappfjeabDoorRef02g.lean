/- Left empty: this seat lacks the reference. -/
import Derived.Test.YtlcnepnappfjeabDoorRef02f
import Derived.Test.YtlcnepnappfjeabDoorKec
import Derived.Test.YtlcnepnappfjeabDoorBase
namespace Go.Proofs.YtlcnepnappfjeabDoor
end Go.Proofs.YtlcnepnappfjeabDoor
