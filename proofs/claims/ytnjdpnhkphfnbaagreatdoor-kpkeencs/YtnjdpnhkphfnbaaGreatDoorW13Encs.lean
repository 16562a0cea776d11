/- What the law KpkeEncs answers at every input: the walk. -/
import Derived.Test.YtnjdpnhkphfnbaaGreatDoorX13j
namespace Go.Proofs.YtnjdpnhkphfnbaaGreatDoor
open Go.ChangeShapes Go.WideShapes Go.ChangeAt Go.RowKit
set_option linter.unusedSimpArgs false
set_option linter.unusedVariables false

set_option maxRecDepth 100000 in
set_option maxHeartbeats 4000000 in
theorem encs_walk (vd ve vm vr : Value) (d ek m r : List UInt8) (w : World) (hd : Rd w vd d) (he : Rd w ve ek) (hm : Rd w vm m) (hr : Rd w vr r) (hT : Tabs w) (hP : PwT w) :
    Calls Tryz.prog 4 #[vd, ve, vm, vr] w fun e w' => e = .returned (.bool true) ∧ Below w.heap.size w w' := by
  have HD : Hid (Rd w vd d) := hd
  have HE : Hid (Rd w ve ek) := he
  have HM : Hid (Rd w vm m) := hm
  have HR : Hid (Rd w vr r) := hr
  have HT : Hid (Tabs w) := hT
  have HP : Hid (PwT w) := hP
  clear hd he hm hr hT hP
  go_enter Tryz.func4, Tryz.ntmps4
  go_wp2_with fail
  refine (awake_any _ HT.out HP.out).mono ?_
  rintro e w1 ⟨rfl, b1⟩
  go_wp2_with fail
  by_cases h32 : d.length = 32
  · refine (gen13_any _ d _ (Rd.kept HD.out b1) h32).mono ?_
    rintro e w2 ⟨x, y, rfl, hO⟩
    have hx := hO.rd0
    have hbw := stepB b1 hO.below
    clear b1 hO
    go_wp2_with fail
    refine (kenc_all _ _ _ (ekL d) m r _ hx (Rd.kept HM.out hbw) (Rd.kept HR.out hbw) (HT.out.kept hbw) (HP.out.kept hbw)).mono ?_
    rintro e w3 ⟨p, rfl, hp, b3⟩
    replace hx := Rd.kept hx b3
    replace hbw := stepB hbw b3
    clear b3
    go_wp2_with fail
    refine (enc13_all _ _ _ (ekL d) m r _ hx (Rd.kept HM.out hbw) (Rd.kept HR.out hbw)).mono ?_
    rintro e w4 ⟨q, rfl, hq, b4⟩
    replace hp := Rd.kept hp b4
    replace hbw := stepB hbw b4
    generalize enA (ekL d) m r = A at hp hq
    have c1 := convS hp
    have c2 := convS hq
    clear hp hq hx b4
    go_wp2
    go_ret
    exact ⟨rfl, hbw⟩
  · refine (gen13_arg _ d _ (Rd.kept HD.out b1) h32).mono ?_
    rintro e w2 ⟨rfl, rfl⟩
    have hbw := b1
    clear b1
    go_wp2_with fail
    refine (kenc_all _ _ _ ek m r _ (Rd.kept HE.out hbw) (Rd.kept HM.out hbw) (Rd.kept HR.out hbw) (HT.out.kept hbw) (HP.out.kept hbw)).mono ?_
    rintro e w3 ⟨p, rfl, hp, b3⟩
    replace hbw := stepB hbw b3
    clear b3
    go_wp2_with fail
    refine (enc13_all _ _ _ ek m r _ (Rd.kept HE.out hbw) (Rd.kept HM.out hbw) (Rd.kept HR.out hbw)).mono ?_
    rintro e w4 ⟨q, rfl, hq, b4⟩
    replace hp := Rd.kept hp b4
    replace hbw := stepB hbw b4
    generalize enA ek m r = A at hp hq
    have c1 := convS hp
    have c2 := convS hq
    clear hp hq b4
    go_wp2
    go_ret
    exact ⟨rfl, hbw⟩
end Go.Proofs.YtnjdpnhkphfnbaaGreatDoor
