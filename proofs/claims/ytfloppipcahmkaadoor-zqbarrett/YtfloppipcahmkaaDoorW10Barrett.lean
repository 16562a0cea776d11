/- What the law ZqBarrett answers at every input: the walk. -/
import Derived.Test.YtfloppipcahmkaaDoorZ10f
namespace Go.Proofs.YtfloppipcahmkaaDoor
open Go.ChangeShapes Go.WideShapes Go.ChangeAt Go.RowKit
set_option linter.unusedSimpArgs false
set_option linter.unusedVariables false

set_option maxRecDepth 100000 in
set_option maxHeartbeats 2000000 in
theorem barrett_walk (X : Int) (wx : (Lit.int .u32 X).wf = true) (w : World) (ht : PwT w) :
    Calls Tryd.prog 5 #[.int .u32 X] w fun e w' => e = .returned (.bool true) ∧ Below w.heap.size w w' := by
  obtain ⟨x, rfl, hx⟩ := wf_nat32 wx
  have e1 : (x : Int) % 3329 = ((x % 3329 : Nat) : Int) := by omega
  have e2 : x % 3329 < 3329 := Nat.mod_lt _ (by decide)
  have HF : Hid (∀ w : World, Calls Tryd.prog 17 #[.int .u32 (x : Int)] w fun e w' => e = .returned (.int .i64 ((x % 3329 : Nat) : Int)) ∧ w' = w) := fun w => zbarrett_any x _ rfl hx w
  generalize x % 3329 = r at e1 e2 HF
  clear wx
  go_enter Tryd.func5, Tryd.ntmps5
  go_wp2_with fail
  refine (awake_any _ ht).mono ?_
  rintro e w1 ⟨rfl, b1⟩
  have HW : Hid _ := b1
  clear b1 ht
  go_wp2_with fail
  refine (HF.out _).mono ?_
  rintro e w2 ⟨rfl, rfl⟩
  go_wp2
  go_ret
  exact ⟨rfl, HW.out⟩
end Go.Proofs.YtfloppipcahmkaaDoor
