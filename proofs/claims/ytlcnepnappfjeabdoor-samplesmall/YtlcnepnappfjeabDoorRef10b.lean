/- What the document's own rounding, bits turned round and powers of 17 answer: contracts of the reference of layer 10, second part. -/
import Derived.Test.YtlcnepnappfjeabDoorRef10
namespace Go.Proofs.YtlcnepnappfjeabDoor
open Go.ChangeShapes Go.WideShapes Go.ChangeAt Go.RowKit
set_option linter.unusedSimpArgs false
set_option linter.unusedVariables false

theorem two_le {d : Nat} (h : d ≤ 12) : 1 ≤ 2 ^ d ∧ 2 ^ d ≤ 4096 :=
  ⟨Nat.pow_pos (by decide), Nat.le_trans (Nat.pow_le_pow_right (by decide) h) (by decide)⟩

end Go.Proofs.YtlcnepnappfjeabDoor
