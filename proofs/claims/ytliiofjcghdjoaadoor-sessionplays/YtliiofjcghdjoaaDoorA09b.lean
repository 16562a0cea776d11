/- What the program's own tag is of, tags, sealing and opening: contracts of package aead, second part. -/
import Derived.Test.YtliiofjcghdjoaaDoorA09a
namespace Go.Proofs.YtliiofjcghdjoaaDoor
open Go.ChangeShapes Go.WideShapes Go.ChangeAt Go.RowKit
set_option linter.unusedSimpArgs false
set_option linter.unusedVariables false

theorem pd16_mul (n m : Nat) (h : n % 16 = 0) : pd16 (n + m) = pd16 m := by unfold pd16; omega
theorem flL_mod (a : List UInt8) : (flL a).length % 16 = 0 := by rw [flL_length]; unfold pd16; omega
theorem flL_on (a b : List UInt8) (h : a.length % 16 = 0) : flL (a ++ b) = a ++ flL b := by
  unfold flL
  rw [List.length_append, pd16_mul _ _ h, List.append_assoc]
theorem flL_two (a b : List UInt8) : flL (flL a ++ b) = flL a ++ flL b := flL_on _ _ (flL_mod a)
theorem flL_tgI (a b : List UInt8) : flL (flL a ++ flL b ++ (st8 a.length ++ st8 b.length)) = tgI a b := by
  rw [flL_on _ _ (by rw [List.length_append]; have := flL_mod a; have := flL_mod b; omega)]
  have h : flL (st8 a.length ++ st8 b.length) = st8 a.length ++ st8 b.length := by
    unfold flL
    rw [List.length_append, st8_length, st8_length, show pd16 (8 + 8) = 0 from rfl, List.replicate_zero, List.append_nil]
  rw [h]
  unfold tgI
  simp only [List.append_assoc]

set_option maxRecDepth 100000 in
set_option maxHeartbeats 1000000 in
theorem covered_any (va vb : Value) (a b : List UInt8) (hla : a.length ≤ 3000000) (hlb : b.length ≤ 3000000) (w : World) (ha : Rd w va a) (hb : Rd w vb b) :
    Calls Tryd.prog 70 #[va, vb] w fun e w' => ∃ r, e = .returned r ∧ New 5 w r (tgI a b) w' := by
  obtain ⟨ti, hti, hz0, hz1, hz2⟩ := info_parts info5
  obtain ⟨aa, ca, rfl, hca, hma, -, -⟩ := id ha
  obtain ⟨ab, cb, rfl, hcb, hmb, -, -⟩ := id hb
  have HA : Hid (Rd w (.slice aa a.length ca) a) := ha
  have HB : Hid (Rd w (.slice ab b.length cb) b) := hb
  have hmf : ∀ (fn : Fn) (first cap : Array Value) (w : World), (Instr.makeFunc fn first cap).run Tryd.prog w = .ok (.func fn first cap) w := fun _ _ _ _ => rfl
  unfold maxLen at hma hmb
  clear ha hb
  go_enter Tryd.func70, Tryd.ntmps70
  go_wp2_with (at_make; go_must (refine wpList_make_own _ rfl _ _ 40 rfl w.heap.size 5 ti _ 1 Tryd.underlying40 hti hz0 hz1 _ _ _ (a.length + b.length + 48) rfl rfl (by omega) (by rw [hz2]; omega) (by unfold maxLen; omega) (Nat.le_refl _) ?_))
  intro w1 hown hgr
  have hR : w1.ownsRow w.heap.size 5 1 (.slice (some ⟨w.heap.size, 0, none⟩) 0 (a.length + b.length + 48)) ([] : List UInt8).length (([] : List UInt8).map bv) := hown
  have hb1 : Below w.heap.size w w1 := (Below.refl _ _).grown hgr (Nat.le_refl _) (by simp)
  have hC0 : Cap 40 5 w w1.heap.size (.slice (some ⟨w.heap.size, 0, none⟩) 0 (a.length + b.length + 48)) [] (w1.alloc (.cells #[.slice (some ⟨w.heap.size, 0, none⟩) 0 (a.length + b.length + 48)] 40)) :=
    ⟨BlkAt.fresh rfl rfl, ownsRow_below hR (growB _), hb1.size, stepB hb1 (growB _)⟩
  have HLA : Hid (a.length ≤ 3000000) := hla
  have HLB : Hid (b.length ≤ 3000000) := hlb
  have HP : Hid (pd16 a.length < 16 ∧ pd16 b.length < 16) := ⟨pd16_lt _, pd16_lt _⟩
  clear hown hgr hR hb1 hla hlb
  go_wp2_with fail
  refine (cfill_any _ _ a [] _ w _ (by have := HLA.out; simp; omega) hC0 (HA.out.kept hC0.below)).mono ?_
  rintro e w2 ⟨rfl, v2, hC2⟩
  rw [List.nil_append] at hC2
  clear hC0
  go_wp2_with fail
  refine (cfill_any _ _ b (flL a) _ w _ (by have := HLA.out; have := HLB.out; have := HP.out; rw [flL_length]; omega) hC2 (HB.out.kept hC2.below)).mono ?_
  rintro e w3 ⟨rfl, v3, hC3⟩
  rw [flL_two] at hC3
  clear hC2
  go_wp2_with fail
  refine (alength_any _ a _ (by have := HLA.out; omega) (HA.out.kept hC3.below)).mono ?_
  rintro e w4 ⟨v4, rfl, hN4⟩
  have hC4 := hC3.kept hN4.2
  have h4 := hN4.rd
  clear hC3 hN4
  go_wp2_with fail
  refine (alength_any _ b _ (by have := HLB.out; omega) (HB.out.kept hC4.below)).mono ?_
  rintro e w5 ⟨v5, rfl, hN5⟩
  have hC5 := hC4.kept hN5.2
  replace h4 := h4.kept hN5.2
  have h5 := hN5.rd
  clear hC4 hN5
  obtain ⟨a4, k4, rfl, -⟩ := id h4
  obtain ⟨a5, k5, rfl, -⟩ := id h5
  go_wp2_with fail
  refine (join_any _ _ _ _ (RdL.pair8 (e := 40) rfl h4 h5) (by simp [totL, st8_length])).mono ?_
  rintro e w6 ⟨v6, rfl, hN6⟩
  replace hN6 := hN6.pair8
  have hC6 := (hC5.kept (growB _)).kept hN6.2
  have h6 := hN6.rd
  clear hC5 hN6 h4 h5
  go_wp2_with fail
  refine (cfill_any _ _ _ (flL a ++ flL b) _ w _ (by have := HLA.out; have := HLB.out; have := HP.out; rw [List.length_append, List.length_append, flL_length, flL_length, st8_length, st8_length]; omega) hC6 h6).mono ?_
  rintro e w7 ⟨rfl, v7, hC7⟩
  rw [flL_tgI] at hC7
  have c7 := hC7.cell
  obtain ⟨a7, k7, rfl, -⟩ := id hC7.rd
  go_wp2
  go_ret
  exact ⟨_, rfl, hC7.row, hC7.below⟩
end Go.Proofs.YtliiofjcghdjoaaDoor
