/- What the document's own Sum256 answers: a contract of the reference of layer 3. -/
import Derived.Test.YtkoecgoajbgkgaaDoorRef03d
namespace Go.Proofs.YtkoecgoajbgkgaaDoor
open Go.ChangeShapes Go.WideShapes Go.ChangeAt Go.RowKit
set_option linter.unusedSimpArgs false
set_option linter.unusedVariables false

set_option maxHeartbeats 400000 in
theorem sum256R_any (vb : Value) (l : List UInt8) (hl : l.length ≤ 1000000) (w : World) (hr : Rd w vb l) :
    Calls Tryd.prog 18 #[vb] w fun e w' => ∃ v, e = .returned v ∧ Rd w' v (otL (abF 136 6 l) 136 32) ∧ Below w.heap.size w w' := by
  go_enter Tryd.func18, Tryd.ntmps18
  go_wp2_with fail
  refine (absorbR_any 136 6 6 rfl _ l hl _ hr).mono ?_
  rintro e w2 ⟨v2, rfl, hR2, hB2⟩
  go_wp2_with fail
  refine (out_any _ _ (abF_lt 136 6 l) 136 32 (by omega) (by omega) (by omega) _ hR2).mono ?_
  rintro e w3 ⟨v3, rfl, hR3, hB3⟩
  have hb := stepB hB2 hB3
  clear hR2 hB2 hB3
  go_wp2
  go_ret
  exact ⟨_, rfl, hR3, hb⟩
end Go.Proofs.YtkoecgoajbgkgaaDoor
