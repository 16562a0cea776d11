/- What the law KpkeDecs answers at every input: the walk. -/
import Derived.Test.YtnjdpnhkphfnbaaGreatDoorX13j
namespace Go.Proofs.YtnjdpnhkphfnbaaGreatDoor
open Go.ChangeShapes Go.WideShapes Go.ChangeAt Go.RowKit
set_option linter.unusedSimpArgs false
set_option linter.unusedVariables false

theorem enA_or (ek m r : List UInt8) : ∃ (l : List UInt8) (x : Int), enA ek m r = (l, x) ∧ ((x == 0) = true ∨ ((x == 0) = false ∧ l = [])) := by
  unfold enA
  split
  · exact ⟨_, _, rfl, .inl rfl⟩
  · exact ⟨_, _, rfl, .inr ⟨rfl, rfl⟩⟩

set_option maxRecDepth 100000 in
set_option maxHeartbeats 8000000 in
theorem decs_walk (vd vk vc vm : Value) (d dk c m : List UInt8) (w : World) (hd : Rd w vd d) (hk : Rd w vk dk) (hc : Rd w vc c) (hm : Rd w vm m) (hT : Tabs w) (hP : PwT w) :
    Calls Tryz.prog 5 #[vd, vk, vc, vm] w fun e w' => e = .returned (.bool true) ∧ Below w.heap.size w w' := by
  have HD : Hid (Rd w vd d) := hd
  have HK : Hid (Rd w vk dk) := hk
  have HC : Hid (Rd w vc c) := hc
  have HM : Hid (Rd w vm m) := hm
  have HT : Hid (Tabs w) := hT
  have HP : Hid (PwT w) := hP
  clear hd hk hc hm hT hP
  go_enter Tryz.func5, Tryz.ntmps5
  go_wp2_with fail
  refine (awake_any _ HT.out HP.out).mono ?_
  rintro e w1 ⟨rfl, b1⟩
  go_wp2_with fail
  by_cases h32 : d.length = 32
  · refine (gen13_any _ d _ (Rd.kept HD.out b1) h32).mono ?_
    rintro e w2 ⟨x, y, rfl, hO⟩
    have he := hO.rd0
    have hk := hO.tail.rd0
    have hbw := stepB b1 hO.below
    clear b1 hO h32
    generalize ekL d = ek at he
    generalize dkL d = key at hk
    have HE : Hid (Rd w2 x ek) := he
    have HKy : Hid (Rd w2 y key) := hk
    clear he hk
    have b0 : Below w2.heap.size w2 w2 := Below.refl _ _
    go_wp2_with fail
    refine (kdec_all _ _ key c _ HKy.out (Rd.kept HC.out hbw) (HP.out.kept hbw)).mono ?_
    rintro e w3 ⟨p, rfl, hp, b3⟩
    replace hbw := stepB hbw b3
    replace b0 := stepB b0 b3
    clear b3
    go_wp2_with fail
    refine (dec13_all _ _ key c _ (Rd.kept HKy.out b0) (Rd.kept HC.out hbw)).mono ?_
    rintro e w4 ⟨q, rfl, hq, b4⟩
    replace hp := Rd.kept hp b4
    replace hbw := stepB hbw b4
    replace b0 := stepB b0 b4
    generalize deA key c = A at hp hq
    have c1 := convS hp
    have c2 := convS hq
    clear hp hq b4
    go_wp2_with fail
    refine (enc13_all _ _ _ ek m d _ (Rd.kept HE.out b0) (Rd.kept HM.out hbw) (Rd.kept HD.out hbw)).mono ?_
    rintro e w5 ⟨bv, rfl, hb, b5⟩
    obtain ⟨bl, xe, hen, hor⟩ := enA_or ek m d
    rw [hen] at hb ⊢
    replace hbw := stepB hbw b5
    replace b0 := stepB b0 b5
    obtain ⟨ab, cb, rfl, -⟩ := id hb
    have HBv : Hid (Rd w5 (.slice ab bl.length cb) bl) := hb
    have HOr : Hid _ := hor
    clear b5 hb hor hen c1 c2
    go_wp2_with fail
    refine (kdec_all _ _ key bl _ (Rd.kept HKy.out b0) HBv.out (HP.out.kept hbw)).mono ?_
    rintro e w6 ⟨p2, rfl, hp2, b6⟩
    replace hbw := stepB hbw b6
    replace b0 := stepB b0 b6
    go_wp2_with fail
    refine (dec13_all _ _ key bl _ (Rd.kept HKy.out b0) (Rd.kept HBv.out b6)).mono ?_
    rintro e w7 ⟨q2, rfl, hq2, b7⟩
    replace hp2 := Rd.kept hp2 b7
    replace hbw := stepB hbw b7
    generalize deA key bl = A2 at hp2 hq2
    have c3 := convS hp2
    have c4 := convS hq2
    clear hp2 hq2 b7 b6 HBv
    rcases HOr.out with hx0 | ⟨hx0, rfl⟩
    · go_wp2
      go_ret
      exact ⟨rfl, hbw⟩
    · go_wp2
      go_ret
      exact ⟨rfl, hbw⟩
  · refine (gen13_arg _ d _ (Rd.kept HD.out b1) h32).mono ?_
    rintro e w2 ⟨rfl, rfl⟩
    have hbw := b1
    have HE : Hid (Rd w2 (.slice none 0 0) []) := Rd.nil _
    have HKy : Hid (Rd w2 vk dk) := Rd.kept HK.out b1
    obtain ⟨ek, hek⟩ : ∃ l : List UInt8, l = [] := ⟨_, rfl⟩
    rw [← hek] at HE
    clear b1 h32 hek
    obtain ⟨key, hkey⟩ : ∃ l : List UInt8, l = dk := ⟨_, rfl⟩
    rw [← hkey] at HKy
    clear hkey
    have b0 : Below w2.heap.size w2 w2 := Below.refl _ _
    go_wp2_with fail
    refine (kdec_all _ _ key c _ HKy.out (Rd.kept HC.out hbw) (HP.out.kept hbw)).mono ?_
    rintro e w3 ⟨p, rfl, hp, b3⟩
    replace hbw := stepB hbw b3
    replace b0 := stepB b0 b3
    clear b3
    go_wp2_with fail
    refine (dec13_all _ _ key c _ (Rd.kept HKy.out b0) (Rd.kept HC.out hbw)).mono ?_
    rintro e w4 ⟨q, rfl, hq, b4⟩
    replace hp := Rd.kept hp b4
    replace hbw := stepB hbw b4
    replace b0 := stepB b0 b4
    generalize deA key c = A at hp hq
    have c1 := convS hp
    have c2 := convS hq
    clear hp hq b4
    go_wp2_with fail
    refine (enc13_all _ _ _ ek m d _ (Rd.kept HE.out b0) (Rd.kept HM.out hbw) (Rd.kept HD.out hbw)).mono ?_
    rintro e w5 ⟨bv, rfl, hb, b5⟩
    obtain ⟨bl, xe, hen, hor⟩ := enA_or ek m d
    rw [hen] at hb ⊢
    replace hbw := stepB hbw b5
    replace b0 := stepB b0 b5
    obtain ⟨ab, cb, rfl, -⟩ := id hb
    have HBv : Hid (Rd w5 (.slice ab bl.length cb) bl) := hb
    have HOr : Hid _ := hor
    clear b5 hb hor hen c1 c2
    go_wp2_with fail
    refine (kdec_all _ _ key bl _ (Rd.kept HKy.out b0) HBv.out (HP.out.kept hbw)).mono ?_
    rintro e w6 ⟨p2, rfl, hp2, b6⟩
    replace hbw := stepB hbw b6
    replace b0 := stepB b0 b6
    go_wp2_with fail
    refine (dec13_all _ _ key bl _ (Rd.kept HKy.out b0) (Rd.kept HBv.out b6)).mono ?_
    rintro e w7 ⟨q2, rfl, hq2, b7⟩
    replace hp2 := Rd.kept hp2 b7
    replace hbw := stepB hbw b7
    generalize deA key bl = A2 at hp2 hq2
    have c3 := convS hp2
    have c4 := convS hq2
    clear hp2 hq2 b7 b6 HBv
    rcases HOr.out with hx0 | ⟨hx0, rfl⟩
    · go_wp2
      go_ret
      exact ⟨rfl, hbw⟩
    · go_wp2
      go_ret
      exact ⟨rfl, hbw⟩
end Go.Proofs.YtnjdpnhkphfnbaaGreatDoor
