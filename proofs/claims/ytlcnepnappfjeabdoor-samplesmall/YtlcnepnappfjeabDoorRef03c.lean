/- Left empty: this seat lacks the reference. -/
import Derived.Test.YtlcnepnappfjeabDoorRef03b
import Derived.Test.YtlcnepnappfjeabDoorBase
namespace Go.Proofs.YtlcnepnappfjeabDoor
end Go.Proofs.YtlcnepnappfjeabDoor
