/- What the law KemEncaps answers at every input: the walk. -/
import Derived.Test.YtmhbjaampobcbaaGreatDoorXk
import Derived.Deep.DeepCutAuto
namespace Go.Proofs.YtmhbjaampobcbaaGreatDoor
open Go.ChangeShapes Go.WideShapes Go.ChangeAt Go.RowKit
set_option linter.unusedSimpArgs false
set_option linter.unusedVariables false

set_option maxRecDepth 100000 in
set_option maxHeartbeats 4000000 in
theorem encaps_walk (vd ve vm : Value) (d ek m : List UInt8) (w : World) (hd : Rd w vd d) (he : Rd w ve ek) (hm : Rd w vm m) (hT : Tabs w) (hP : PwT w) :
  Calls Tryz.prog 5 #[vd, ve, vm] w fun e w' => e = .returned (.bool true) ∧ Below w.heap.size w w' := by
 have HD : Hid (Rd w vd d) := hd
 have HE : Hid (Rd w ve ek) := he
 have HM : Hid (Rd w vm m) := hm
 have HT : Hid (Tabs w) := hT
 have HP : Hid (PwT w) := hP
 clear hd he hm hT hP
 go_enter Tryz.func5, Tryz.ntmps5
 go_wp2_with fail
 refine (awake_any _ HT.out HP.out).mono ?_
 rintro e w1 ⟨rfl, b1⟩
 go_wp2_with fail
 refine (gen14_all _ _ d d _ (Rd.kept HD.out b1) (Rd.kept HD.out b1)).mono ?_
 rintro e w2 ⟨x, y, rfl, hx, hy, b2⟩
 have hbw := stepB b1 b2
 have he2 := Rd.kept HE.out hbw
 obtain ⟨F, hF⟩ : ∃ F : Int, F = (gkA d d).2.2 := ⟨_, rfl⟩
 rw [← hF]
 generalize (gkA d d).1 = X at hx
 have HX : Hid _ := hx
 have HE2 : Hid _ := he2
 clear hF hy b1 b2 hx he2
 go_upto_if 28 with fail
 go_cut [8] (fun kv wx => ∃ kl : List UInt8, Rd w2 kv kl ∧ wx = w2)
 case first =>
  by_cases hf : F = 0
  ·have hf1 : (F != 0) = false := by simp [hf]
   clear hf
   go_wp2
   go_meet
   exact ⟨X, HX.out, rfl⟩
  ·have hf1 : (F != 0) = true := by simp [hf]
   clear hf
   go_wp2
   go_meet
   exact ⟨ek, HE2.out, rfl⟩
 case rest =>
 obtain ⟨kl, hk, rfl⟩ := hcut
 have HK : Hid _ := hk
 clear HX HE2 hk
 go_wp2_with fail
 refine (mencaps_all _ _ kl m _ HK.out (Rd.kept HM.out hbw) (HT.out.kept hbw) (HP.out.kept hbw)).mono ?_
 rintro e w3 ⟨p, q, rfl, hp, hq, b3⟩
 replace hbw := stepB hbw b3
 go_wp2_with fail
 refine (encaps14_all _ _ kl m _ (Rd.kept HK.out b3) (Rd.kept HM.out hbw)).mono ?_
 rintro e w4 ⟨r, s, rfl, hr, hs, b4⟩
 replace hbw := stepB hbw b4
 have c1 := convS (Rd.kept hp b4)
 have c2 := convS (Rd.kept hq b4)
 have c3 := convS hr
 have c4 := convS hs
 generalize eaA kl m = A at c1 c2 c3 c4
 have e1 : (A.1 == A.1) = true := by simp
 have e2 : (A.2.1 == A.2.1) = true := by simp
 have e3 : (A.2.2 == A.2.2) = true := by simp
 clear hp hq hr hs b3 b4 HK
 go_wp2
 go_ret
 exact ⟨rfl, hbw⟩
end Go.Proofs.YtmhbjaampobcbaaGreatDoor
