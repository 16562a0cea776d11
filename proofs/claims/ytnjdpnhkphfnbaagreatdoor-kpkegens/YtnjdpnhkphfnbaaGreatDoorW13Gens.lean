/- What the law KpkeGens answers at every input: the walk. -/
import Derived.Test.YtnjdpnhkphfnbaaGreatDoorX13j
namespace Go.Proofs.YtnjdpnhkphfnbaaGreatDoor
open Go.ChangeShapes Go.WideShapes Go.ChangeAt Go.RowKit
set_option linter.unusedSimpArgs false
set_option linter.unusedVariables false

set_option maxRecDepth 100000 in
set_option maxHeartbeats 4000000 in
theorem gens_walk (v : Value) (d : List UInt8) (w : World) (hd : Rd w v d) (hT : Tabs w) (hP : PwT w) :
    Calls Tryz.prog 3 #[v] w fun e w' => e = .returned (.bool true) ∧ Below w.heap.size w w' := by
  have HD : Hid (Rd w v d) := hd
  have HT : Hid (Tabs w) := hT
  have HP : Hid (PwT w) := hP
  clear hd hT hP
  go_enter Tryz.func3, Tryz.ntmps3
  go_wp2_with fail
  refine (awake_any _ HT.out HP.out).mono ?_
  rintro e w1 ⟨rfl, b1⟩
  go_wp2_with fail
  refine (kgen_all _ d _ (Rd.kept HD.out b1) (HT.out.kept b1) (HP.out.kept b1)).mono ?_
  rintro e w2 ⟨x, y, rfl, hx, hy, b2⟩
  have hbw := stepB b1 b2
  clear b1 b2
  go_wp2_with fail
  refine (gen13_all _ d _ (Rd.kept HD.out hbw)).mono ?_
  rintro e w3 ⟨p, q, rfl, hp, hq, b3⟩
  replace hx := Rd.kept hx b3
  replace hy := Rd.kept hy b3
  replace hbw := stepB hbw b3
  generalize gnA d = A at hx hy hp hq
  have c1 := convS hx
  have c2 := convS hy
  have c3 := convS hp
  have c4 := convS hq
  clear hx hy hp hq b3
  go_wp2
  go_ret
  exact ⟨rfl, hbw⟩
end Go.Proofs.YtnjdpnhkphfnbaaGreatDoor
