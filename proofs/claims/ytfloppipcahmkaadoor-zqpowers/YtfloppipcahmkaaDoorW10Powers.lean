/- What the law ZqPowers answers at every input: the walk. -/
import Derived.Test.YtfloppipcahmkaaDoorZ10f
namespace Go.Proofs.YtfloppipcahmkaaDoor
open Go.ChangeShapes Go.WideShapes Go.ChangeAt Go.RowKit
set_option linter.unusedSimpArgs false
set_option linter.unusedVariables false

set_option maxRecDepth 100000 in
set_option maxHeartbeats 2000000 in
theorem powers_walk (a n : Int) (wa : (Lit.int .i64 a).wf = true) (wn : (Lit.int .i64 n).wf = true) (w : World) (ht : PwT w) :
    Calls Tryd.prog 4 #[.int .i64 a, .int .i64 n] w fun e w' => e = .returned (.bool true) ∧ Below w.heap.size w w' := by
  have HA : Hid (In64 a) := wf_in64 wa
  have HB : Hid (In64 n) := wf_in64 wn
  clear wa wn
  go_enter Tryd.func4, Tryd.ntmps4
  go_wp2_with fail
  refine (awake_any _ ht).mono ?_
  rintro e w1 ⟨rfl, b1⟩
  have HW : Hid _ := b1
  clear b1 ht
  go_wp2_with fail
  refine (zpower_any a n HA.out HB.out _).mono ?_
  rintro e w2 ⟨rfl, rfl⟩
  go_wp2_with fail
  refine (powerZ_any a n HA.out HB.out _).mono ?_
  rintro e w3 ⟨rfl, rfl⟩
  go_wp2
  go_ret
  exact ⟨rfl, HW.out⟩
end Go.Proofs.YtfloppipcahmkaaDoor
