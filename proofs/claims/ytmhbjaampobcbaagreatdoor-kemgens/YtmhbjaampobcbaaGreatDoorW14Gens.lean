/- What the law KemGens answers at every input: the walk. -/
import Derived.Test.YtmhbjaampobcbaaGreatDoorXk
namespace Go.Proofs.YtmhbjaampobcbaaGreatDoor
open Go.ChangeShapes Go.WideShapes Go.ChangeAt Go.RowKit
set_option linter.unusedSimpArgs false
set_option linter.unusedVariables false

set_option maxRecDepth 100000 in
set_option maxHeartbeats 4000000 in
theorem gens_walk (vd vz : Value) (d z : List UInt8) (w : World) (hd : Rd w vd d) (hz : Rd w vz z) (hT : Tabs w) (hP : PwT w) :
  Calls Tryz.prog 3 #[vd, vz] w fun e w' => e = .returned (.bool true) ∧ Below w.heap.size w w' := by
 have HD : Hid (Rd w vd d) := hd
 have HZ : Hid (Rd w vz z) := hz
 have HT : Hid (Tabs w) := hT
 have HP : Hid (PwT w) := hP
 clear hd hz hT hP
 go_enter Tryz.func3, Tryz.ntmps3
 go_wp2_with fail
 refine (awake_any _ HT.out HP.out).mono ?_
 rintro e w1 ⟨rfl, b1⟩
 go_wp2_with fail
 by_cases h : d.length = 32 ∧ z.length = 32
 ·refine (mgen_any _ _ d z _ (Rd.kept HD.out b1) (Rd.kept HZ.out b1) h.1 h.2 (HT.out.kept b1) (HP.out.kept b1)).mono ?_
  rintro e w2 ⟨x, y, rfl, hO⟩
  have hx := hO.rd0
  have hy := hO.tail.rd0
  have hbw := stepB b1 hO.below
  have Hh : Hid _ := h
  clear b1 hO h
  go_wp2_with fail
  refine (gen14_any _ _ d z _ (Rd.kept HD.out hbw) (Rd.kept HZ.out hbw) Hh.out.1 Hh.out.2).mono ?_
  rintro e w3 ⟨p, q, rfl, hO⟩
  have b3 := hO.below
  replace hx := Rd.kept hx b3
  replace hy := Rd.kept hy b3
  replace hbw := stepB hbw b3
  have c3 := convS hO.rd0
  have c4 := convS hO.tail.rd0
  have K1 : Hid _ := ckE_key d
  have K2 : Hid _ := cvE_key d z Hh.out.2
  generalize ekL d = E at hx c3 K1
  generalize kdL d z = D at hy c4 K2
  have c1 := convS hx
  have c2 := convS hy
  have HX : Hid (Rd w3 x E) := hx
  have HY : Hid (Rd w3 y D) := hy
  have e1 : (E == E) = true := by simp
  have e2 : (D == D) = true := by simp
  clear hx hy b3 hO
  go_wp2_with fail
  refine (mcheck_any _ E _ HX.out).mono ?_
  rintro e w4 ⟨rfl, b4⟩
  rw [K1.out]
  replace hbw := stepB hbw b4
  clear c1 c2 c3 c4
  go_wp2_with fail
  refine (mcv_any _ D _ (Rd.kept HY.out b4) (HT.out.kept hbw)).mono ?_
  rintro e w5 ⟨rfl, b5⟩
  rw [K2.out]
  replace hbw := stepB hbw b5
  clear b4 b5
  go_wp2
  go_ret
  exact ⟨rfl, hbw⟩
 ·refine (mgen_arg _ _ d z _ (Rd.kept HD.out b1) (Rd.kept HZ.out b1) h).mono ?_
  rintro e w2 ⟨rfl, rfl⟩
  have Hh : Hid _ := h
  clear h
  go_wp2_with fail
  refine (gen14_arg _ _ d z _ (Rd.kept HD.out b1) (Rd.kept HZ.out b1) Hh.out).mono ?_
  rintro e w3 ⟨rfl, rfl⟩
  have c1 := convS (Rd.nil w3)
  go_wp2
  go_ret
  exact ⟨rfl, b1⟩
end Go.Proofs.YtmhbjaampobcbaaGreatDoor
