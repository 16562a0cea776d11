/- The package answers at all: what the laws of layer 10 ask first. -/
import Derived.Test.YtfloppipcahmkabDoorZ10d
namespace Go.Proofs.YtfloppipcahmkabDoor
open Go.ChangeShapes Go.WideShapes Go.ChangeAt Go.RowKit
set_option linter.unusedSimpArgs false
set_option linter.unusedVariables false

set_option maxRecDepth 100000 in
set_option maxHeartbeats 2000000 in
theorem awake_any (w : World) (hT : PwT w) :
    Calls Tryd.prog 5 #[] w fun e w' => e = .returned (.bool true) ∧ Below w.heap.size w w' := by
  go_enter Tryd.func5, Tryd.ntmps5
  go_wp2_with fail
  refine (zmod_any (-1) (by decide) _).mono ?_
  rintro e w1 ⟨rfl, rfl⟩
  rw [show rsZ (-1) = 3328 by decide +kernel]
  go_wp2_with fail
  refine (zadd_any 3328 2 (by decide) (by decide) _).mono ?_
  rintro e w2 ⟨rfl, rfl⟩
  rw [show rsZ (3328 + 2) = 1 by decide +kernel]
  go_wp2_with fail
  refine (zsub_any 1 3 (by decide) (by decide) _).mono ?_
  rintro e w3 ⟨rfl, rfl⟩
  rw [show rsZ (1 - 3) = 3327 by decide +kernel]
  go_wp2_with fail
  refine (zmul_any 3328 3328 (by decide) (by decide) _).mono ?_
  rintro e w4 ⟨rfl, rfl⟩
  rw [show rsZ (3328 * 3328) = 1 by decide +kernel]
  go_wp2_with fail
  refine (zpower_any 17 128 (by decide) (by decide) _).mono ?_
  rintro e w5 ⟨rfl, rfl⟩
  rw [show pwZ 17 128 = 3328 by decide +kernel]
  go_wp2_with fail
  refine (zbarrett_any 3330 _ rfl (by decide) _).mono ?_
  rintro e w6 ⟨rfl, rfl⟩
  rw [show 3330 % 3329 = 1 by decide +kernel]
  go_wp2_with fail
  refine (zmontg_any 65536 _ rfl (by decide) _).mono ?_
  rintro e w7 ⟨rfl, rfl⟩
  rw [show mgZ 65536 = 1 by decide +kernel]
  go_wp2_with fail
  refine (zcomp_any 1 _ 833 rfl (by decide) (by decide) (by decide) _).mono ?_
  rintro e w8 ⟨rfl, rfl⟩
  rw [show cpZ 1 833 = 1 by decide +kernel]
  go_wp2_with fail
  refine (zcomp_any 1 _ 832 rfl (by decide) (by decide) (by decide) _).mono ?_
  rintro e w9 ⟨rfl, rfl⟩
  rw [show cpZ 1 832 = 0 by decide +kernel]
  go_wp2_with fail
  refine (zdeco_any 1 _ 1 rfl (by decide) (by decide) (by decide) _).mono ?_
  rintro e wa ⟨rfl, b1⟩
  rw [show dcZ 1 1 = 1665 by decide +kernel]
  have HB : Hid _ := b1
  have hT2 := hT.kept b1
  clear b1 hT
  go_wp2_with fail
  refine (zzeta_any 1 (by decide) _ hT2).mono ?_
  rintro e wb ⟨rfl, rfl⟩
  rw [show 17 ^ tnJ (twZ 7 1) 7 % 3329 = 1729 by decide +kernel]
  clear hT2
  go_wp2
  go_ret
  exact ⟨rfl, HB.out⟩
end Go.Proofs.YtfloppipcahmkabDoor
