/- What package kpke and the document's own answer, refused or not; the awake of the laws: contracts, tenth part. -/
import Derived.Test.YtnjdpnhkphfnbaaGreatDoorX13i
import Derived.Test.YtnjdpnhkphfnbaaGreatDoorRef13d
import Derived.Test.YtnjdpnhkphfnbaaGreatDoorEvz
namespace Go.Proofs.YtnjdpnhkphfnbaaGreatDoor
open Go.ChangeShapes Go.WideShapes Go.ChangeAt Go.RowKit
set_option linter.unusedSimpArgs false
set_option linter.unusedVariables false

def gnA (d : List UInt8) : List UInt8 × List UInt8 × Int := if d.length = 32 then (ekL d, dkL d, 0) else ([], [], 1)
def enA (ek m r : List UInt8) : List UInt8 × Int := if ek.length = 1184 ∧ m.length = 32 ∧ r.length = 32 then (ciL ek m r, 0) else ([], 1)
def deA (dk c : List UInt8) : List UInt8 × Int := if dk.length = 1152 ∧ c.length = 1088 then (meL dk c, 0) else ([], 1)

theorem kgen_all (v : Value) (d : List UInt8) (w : World) (hd : Rd w v d) (hT : Tabs w) (hP : PwT w) :
    Calls Tryz.prog 8 #[v] w fun e w' => ∃ x y, e = .returned (.tuple #[x, y, .int .i64 (gnA d).2.2]) ∧ Rd w' x (gnA d).1 ∧ Rd w' y (gnA d).2.1 ∧ Below w.heap.size w w' := by
  unfold gnA
  by_cases h : d.length = 32
  · rw [if_pos h]
    refine (kgen_any v d w hd h hT hP).mono ?_
    rintro e w' ⟨x, y, rfl, hO⟩
    exact ⟨x, y, rfl, hO.rd0, hO.tail.rd0, hO.below⟩
  · rw [if_neg h]
    refine (kgen_arg v d w hd h).mono ?_
    rintro e w' ⟨rfl, rfl⟩
    exact ⟨_, _, rfl, Rd.nil _, Rd.nil _, Below.refl _ _⟩
theorem gen13_all (v : Value) (d : List UInt8) (w : World) (hd : Rd w v d) :
    Calls Tryz.prog 9 #[v] w fun e w' => ∃ x y, e = .returned (.tuple #[x, y, .int .i64 (gnA d).2.2]) ∧ Rd w' x (gnA d).1 ∧ Rd w' y (gnA d).2.1 ∧ Below w.heap.size w w' := by
  unfold gnA
  by_cases h : d.length = 32
  · rw [if_pos h]
    refine (gen13_any v d w hd h).mono ?_
    rintro e w' ⟨x, y, rfl, hO⟩
    exact ⟨x, y, rfl, hO.rd0, hO.tail.rd0, hO.below⟩
  · rw [if_neg h]
    refine (gen13_arg v d w hd h).mono ?_
    rintro e w' ⟨rfl, rfl⟩
    exact ⟨_, _, rfl, Rd.nil _, Rd.nil _, Below.refl _ _⟩
theorem kenc_all (ve vm vr : Value) (ek m r : List UInt8) (w : World) (he : Rd w ve ek) (hm : Rd w vm m) (hr : Rd w vr r) (hT : Tabs w) (hP : PwT w) :
    Calls Tryz.prog 10 #[ve, vm, vr] w fun e w' => ∃ x, e = .returned (.tuple #[x, .int .i64 (enA ek m r).2]) ∧ Rd w' x (enA ek m r).1 ∧ Below w.heap.size w w' := by
  unfold enA
  by_cases h : ek.length = 1184 ∧ m.length = 32 ∧ r.length = 32
  · rw [if_pos h]
    refine (kenc_any ve vm vr ek m r w he hm hr h.1 h.2.1 h.2.2 hT hP).mono ?_
    rintro e w' ⟨x, rfl, hN⟩
    exact ⟨x, rfl, hN.rd, hN.2⟩
  · rw [if_neg h]
    refine (kenc_arg ve vm vr ek m r w he hm hr h).mono ?_
    rintro e w' ⟨rfl, rfl⟩
    exact ⟨_, rfl, Rd.nil _, Below.refl _ _⟩
theorem enc13_all (ve vm vr : Value) (ek m r : List UInt8) (w : World) (he : Rd w ve ek) (hm : Rd w vm m) (hr : Rd w vr r) :
    Calls Tryz.prog 11 #[ve, vm, vr] w fun e w' => ∃ x, e = .returned (.tuple #[x, .int .i64 (enA ek m r).2]) ∧ Rd w' x (enA ek m r).1 ∧ Below w.heap.size w w' := by
  unfold enA
  by_cases h : ek.length = 1184 ∧ m.length = 32 ∧ r.length = 32
  · rw [if_pos h]
    refine (enc13_any ve vm vr ek m r w he hm hr h.1 h.2.1 h.2.2).mono ?_
    rintro e w' ⟨x, rfl, hN⟩
    exact ⟨x, rfl, hN.rd, hN.2⟩
  · rw [if_neg h]
    refine (enc13_arg ve vm vr ek m r w he hm hr h).mono ?_
    rintro e w' ⟨rfl, rfl⟩
    exact ⟨_, rfl, Rd.nil _, Below.refl _ _⟩
theorem kdec_all (vk vc : Value) (dk c : List UInt8) (w : World) (hk : Rd w vk dk) (hc : Rd w vc c) (hP : PwT w) :
    Calls Tryz.prog 12 #[vk, vc] w fun e w' => ∃ x, e = .returned (.tuple #[x, .int .i64 (deA dk c).2]) ∧ Rd w' x (deA dk c).1 ∧ Below w.heap.size w w' := by
  unfold deA
  by_cases h : dk.length = 1152 ∧ c.length = 1088
  · rw [if_pos h]
    refine (kdec_any vk vc dk c w hk hc h.1 h.2 hP).mono ?_
    rintro e w' ⟨x, rfl, hN⟩
    exact ⟨x, rfl, hN.rd, hN.2⟩
  · rw [if_neg h]
    refine (kdec_arg vk vc dk c w hk hc h).mono ?_
    rintro e w' ⟨rfl, rfl⟩
    exact ⟨_, rfl, Rd.nil _, Below.refl _ _⟩
theorem dec13_all (vk vc : Value) (dk c : List UInt8) (w : World) (hk : Rd w vk dk) (hc : Rd w vc c) :
    Calls Tryz.prog 13 #[vk, vc] w fun e w' => ∃ x, e = .returned (.tuple #[x, .int .i64 (deA dk c).2]) ∧ Rd w' x (deA dk c).1 ∧ Below w.heap.size w w' := by
  unfold deA
  by_cases h : dk.length = 1152 ∧ c.length = 1088
  · rw [if_pos h]
    refine (dec13_any vk vc dk c w hk hc h.1 h.2).mono ?_
    rintro e w' ⟨x, rfl, hN⟩
    exact ⟨x, rfl, hN.rd, hN.2⟩
  · rw [if_neg h]
    refine (dec13_arg vk vc dk c w hk hc h).mono ?_
    rintro e w' ⟨rfl, rfl⟩
    exact ⟨_, rfl, Rd.nil _, Below.refl _ _⟩

set_option maxRecDepth 100000 in
set_option maxHeartbeats 4000000 in
theorem awake_any (w : World) (hT : Tabs w) (hP : PwT w) : Calls Tryz.prog 7 #[] w fun e w' => e = .returned (.bool true) ∧ Below w.heap.size w w' := by
  obtain ⟨ti, hti, hz0, hz1, hz2⟩ := info_parts info513
  have HT : Hid (Tabs w) := hT
  have HP : Hid (PwT w) := hP
  clear hT hP
  go_enter Tryz.func7, Tryz.ntmps7
  go_wp2_with (at_make; go_must (refine wpList_make_full _ rfl _ _ 22 rfl w.heap.size 5 ti _ 1 Tryz.underlying22 hti hz0 hz1 _ _ _ _ 32 rfl rfl rfl rfl (by rw [hz2]; omega) (by unfold maxLen; omega) (Nat.le_refl _) ?_))
  intro w1 hown hgr
  have hN1 := New.made hown hgr
  have HK : Hid ((List.replicate 32 (0 : UInt8)).length = 32) := by show _ = _; simp
  have HD : Hid (meL (dkL (List.replicate 32 (0 : UInt8))) (ciL (ekL (List.replicate 32 (0 : UInt8))) (List.replicate 32 (0 : UInt8)) (List.replicate 32 (0 : UInt8))) = List.replicate 32 (0 : UInt8)) := kz_dec
  generalize List.replicate 32 (0 : UInt8) = K at hN1 HK HD
  have HZ : Hid (Rd w1 (.slice (some ⟨w.heap.size, 0, none⟩) 32 32) K) := hN1.rd
  have hbw := hN1.2
  clear hown hgr hN1
  go_wp2_with fail
  refine (kgen_any _ K _ HZ.out HK.out (HT.out.kept hbw) (HP.out.kept hbw)).mono ?_
  rintro e w2 ⟨x, y, rfl, hO⟩
  have HX : Hid (Rd w2 x (ekL K)) := hO.rd0
  have HY : Hid (Rd w2 y (dkL K)) := hO.tail.rd0
  have b2 := hO.below
  replace hbw := stepB hbw b2
  obtain ⟨ax, cx, rfl, -⟩ := id HX.out
  obtain ⟨ay, cy, rfl, -⟩ := id HY.out
  have HXl : Hid _ := ekL_length K
  have HYl : Hid _ := dkL_length K
  rw [HXl.out] at HX ⊢
  rw [HYl.out] at HY ⊢
  have HZ2 : Hid (Rd w2 (.slice (some ⟨w.heap.size, 0, none⟩) 32 32) K) := Rd.kept HZ.out b2
  clear hO b2 HZ
  go_wp2_with fail
  refine (kenc_any _ _ _ (ekL K) K K _ HX.out HZ2.out HZ2.out HXl.out HK.out HK.out (HT.out.kept hbw) (HP.out.kept hbw)).mono ?_
  rintro e w3 ⟨c, rfl, hN3⟩
  have b3 := hN3.2
  have HC : Hid (Rd w3 c (ciL (ekL K) K K)) := hN3.rd
  replace hbw := stepB hbw b3
  obtain ⟨ac, cc, rfl, -⟩ := id HC.out
  have HCl : Hid _ := ciL_length (ekL K) K K
  rw [HCl.out] at HC ⊢
  have HY3 : Hid (Rd w3 (.slice ay 1152 cy) (dkL K)) := Rd.kept HY.out b3
  have HZ3 : Hid (Rd w3 (.slice (some ⟨w.heap.size, 0, none⟩) 32 32) K) := Rd.kept HZ2.out b3
  clear hN3 b3 HX HY HZ2
  go_wp2_with fail
  refine (kdec_any _ _ (dkL K) (ciL (ekL K) K K) _ HY3.out HC.out HYl.out HCl.out (HP.out.kept hbw)).mono ?_
  rintro e w4 ⟨mv, rfl, hN4⟩
  rw [HD.out] at hN4
  have b4 := hN4.2
  have HM : Hid (Rd w4 mv K) := hN4.rd
  replace hbw := stepB hbw b4
  have HZ4 : Hid (Rd w4 (.slice (some ⟨w.heap.size, 0, none⟩) 32 32) K) := Rd.kept HZ3.out b4
  have HZc : Hid (Rd w4 (.slice (some ⟨w.heap.size, 0, none⟩) 31 32) (K.take 31)) := Rd.take HZ4.out (by decide)
  have HZl : Hid ((K.take 31).length ≠ 32) := by show _ ≠ _; rw [List.length_take, HK.out]; decide
  clear hN4 b4 HY3 HC HZ3
  go_wp2_with fail
  refine (kgen_arg _ (K.take 31) _ HZc.out HZl.out).mono ?_
  rintro e w5 ⟨rfl, rfl⟩
  have c1 := convS HM.out
  have c2 := convS HZ4.out
  go_wp2
  go_ret
  exact ⟨rfl, hbw⟩
end Go.Proofs.YtnjdpnhkphfnbaaGreatDoor
