/- What the law ZqZetas answers at every input: the walk. -/
import Derived.Test.YtfloppipcahmkabDoorZ10f
namespace Go.Proofs.YtfloppipcahmkabDoor
open Go.ChangeShapes Go.WideShapes Go.ChangeAt Go.RowKit
set_option linter.unusedSimpArgs false
set_option linter.unusedVariables false

set_option maxRecDepth 100000 in
set_option maxHeartbeats 2000000 in
theorem zetas_walk (i : Int) (wi : (Lit.int .i64 i).wf = true) (w : World) (ht : PwT w) :
    Calls Tryd.prog 3 #[.int .i64 i] w fun e w' => e = .returned (.bool true) ∧ Below w.heap.size w w' := by
  have HI : Hid (In64 i) := wf_in64 wi
  have HM : Hid (bits .and .i64 i 127 = ((twZ 7 i : Nat) : Int)) := and_low 7 (by decide) i HI.out
  have HL : Hid (twZ 7 i ≤ 127) := by have := twZ_lt 7 i; show _ ≤ _; omega
  have Z1 : Hid (∀ w : World, PwT w → Calls Tryd.prog 6 #[.int .i64 i] w fun e w' => e = .returned (.int .i64 ((17 ^ tnJ (twZ 7 i) 7 % 3329 : Nat) : Int)) ∧ w' = w) := fun w h => zzeta_any i HI.out w h
  have Z2 : Hid (∀ w : World, Calls Tryd.prog 7 #[.int .i64 i] w fun e w' => e = .returned (.int .i64 ((17 ^ tnJ (twZ 7 i) 7 % 3329 : Nat) : Int)) ∧ w' = w) := fun w => zetaZ_any i (twZ 7 i) HM.out HL.out w
  generalize 17 ^ tnJ (twZ 7 i) 7 % 3329 = z at Z1 Z2
  clear wi
  go_enter Tryd.func3, Tryd.ntmps3
  go_wp2_with fail
  refine (awake_any _ ht).mono ?_
  rintro e w1 ⟨rfl, b1⟩
  have HW : Hid _ := b1
  have ht2 := ht.kept b1
  clear b1 ht
  go_wp2_with fail
  refine (Z1.out _ ht2).mono ?_
  rintro e w2 ⟨rfl, rfl⟩
  clear ht2
  go_wp2_with fail
  refine (Z2.out _).mono ?_
  rintro e w3 ⟨rfl, rfl⟩
  go_wp2
  go_ret
  exact ⟨rfl, HW.out⟩
end Go.Proofs.YtfloppipcahmkabDoor
