/- What the document's own Shake256 answers: a contract of the reference of layer 3. -/
import Derived.Test.YtlcnepnappfjeaaDoorRef03d
namespace Go.Proofs.YtlcnepnappfjeaaDoor
open Go.ChangeShapes Go.WideShapes Go.ChangeAt Go.RowKit
set_option linter.unusedSimpArgs false
set_option linter.unusedVariables false

set_option maxHeartbeats 400000 in
theorem shake256R_any (vb : Value) (l : List UInt8) (hl : l.length ≤ 1000000) (n : Nat) (hn : n ≤ 1000000) (w : World) (hr : Rd w vb l) :
    Calls Tryd.prog 38 #[vb, .int .i64 (n : Int)] w fun e w' => ∃ v, e = .returned v ∧ Rd w' v (otL (abF 136 31 l) 136 n) ∧ Below w.heap.size w w' := by
  go_enter Tryd.func38, Tryd.ntmps38
  go_wp2_with fail
  refine (absorbR_any 136 31 31 rfl _ l hl _ hr).mono ?_
  rintro e w2 ⟨v2, rfl, hR2, hB2⟩
  go_wp2_with fail
  refine (out_any _ _ (abF_lt 136 31 l) 136 n (by omega) (by omega) hn _ hR2).mono ?_
  rintro e w3 ⟨v3, rfl, hR3, hB3⟩
  have hb := stepB hB2 hB3
  clear hR2 hB2 hB3
  go_wp2
  go_ret
  exact ⟨_, rfl, hR3, hb⟩
end Go.Proofs.YtlcnepnappfjeaaDoor
