/- What the law ZqFields answers at every input: the walk. -/
import Derived.Test.YtfloppipcahmkabDoorZ10f
namespace Go.Proofs.YtfloppipcahmkabDoor
open Go.ChangeShapes Go.WideShapes Go.ChangeAt Go.RowKit
set_option linter.unusedSimpArgs false
set_option linter.unusedVariables false

set_option maxRecDepth 100000 in
set_option maxHeartbeats 4000000 in
theorem fields_walk (a b c : Int) (wa : (Lit.int .i64 a).wf = true) (wb : (Lit.int .i64 b).wf = true) (wc : (Lit.int .i64 c).wf = true) (w : World) (ht : PwT w) :
    Calls Tryd.prog 4 #[.int .i64 a, .int .i64 b, .int .i64 c] w fun e w' => e = .returned (.bool true) ∧ Below w.heap.size w w' := by
  have HA : Hid (In64 a) := wf_in64 wa
  have HB : Hid (In64 b) := wf_in64 wb
  have HC : Hid (In64 c) := wf_in64 wc
  clear wa wb wc
  by_cases h0 : rsZ a = 0
  · have HI : Hid _ := inv_zero a h0
    have HZ : Hid (rsZ a = 0) := h0
    clear h0
    go_enter Tryd.func4, Tryd.ntmps4
    go_wp2_with fail
    refine (awake_any _ ht).mono ?_
    rintro e w1 ⟨rfl, b1⟩
    have HW : Hid _ := b1
    clear b1 ht
    go_wp2_with fail
    refine (zpower_any a 3327 HA.out (by decide) _).mono ?_
    rintro e w2 ⟨rfl, rfl⟩
    go_wp2_with fail
    refine (zmul_any a _ HA.out ⟨by have := pwZ_lt a 3327; omega, by have := pwZ_lt a 3327; omega⟩ _).mono ?_
    rintro e w3 ⟨rfl, rfl⟩
    rw [HI.out]
    go_wp2_with fail
    refine (zmod_any a HA.out _).mono ?_
    rintro e w11 ⟨rfl, rfl⟩
    rw [HZ.out]
    go_wp2_with fail
    refine (zmod_any a HA.out _).mono ?_
    rintro e w12 ⟨rfl, rfl⟩
    rw [HZ.out]
    go_wp2_with fail
    refine (zadd_any a b HA.out HB.out _).mono ?_
    rintro e w13 ⟨rfl, rfl⟩
    go_wp2_with fail
    refine (zadd_any _ c (in64_rest _) HC.out _).mono ?_
    rintro e w14 ⟨rfl, rfl⟩
    rw [rs_add_l]
    go_wp2_with fail
    refine (zadd_any b c HB.out HC.out _).mono ?_
    rintro e w15 ⟨rfl, rfl⟩
    go_wp2_with fail
    refine (zadd_any a _ HA.out (in64_rest _) _).mono ?_
    rintro e w16 ⟨rfl, rfl⟩
    rw [rs_add_r, ← Int.add_assoc]
    go_wp2_with fail
    refine (zmul_any a b HA.out HB.out _).mono ?_
    rintro e w17 ⟨rfl, rfl⟩
    go_wp2_with fail
    refine (zmul_any _ c (in64_rest _) HC.out _).mono ?_
    rintro e w18 ⟨rfl, rfl⟩
    rw [rs_mul_l]
    go_wp2_with fail
    refine (zmul_any b c HB.out HC.out _).mono ?_
    rintro e w19 ⟨rfl, rfl⟩
    go_wp2_with fail
    refine (zmul_any a _ HA.out (in64_rest _) _).mono ?_
    rintro e w20 ⟨rfl, rfl⟩
    rw [rs_mul_r, ← Int.mul_assoc]
    go_wp2_with fail
    refine (zadd_any b c HB.out HC.out _).mono ?_
    rintro e w21 ⟨rfl, rfl⟩
    go_wp2_with fail
    refine (zmul_any a _ HA.out (in64_rest _) _).mono ?_
    rintro e w22 ⟨rfl, rfl⟩
    rw [rs_mul_r, Int.mul_add]
    go_wp2_with fail
    refine (zmul_any a b HA.out HB.out _).mono ?_
    rintro e w23 ⟨rfl, rfl⟩
    go_wp2_with fail
    refine (zmul_any a c HA.out HC.out _).mono ?_
    rintro e w24 ⟨rfl, rfl⟩
    go_wp2_with fail
    refine (zadd_any _ _ (in64_rest _) (in64_rest _) _).mono ?_
    rintro e w25 ⟨rfl, rfl⟩
    rw [rs_add_l, rs_add_r]
    go_wp2_with fail
    refine (zsub_any a b HA.out HB.out _).mono ?_
    rintro e w26 ⟨rfl, rfl⟩
    go_wp2_with fail
    refine (zadd_any _ b (in64_rest _) HB.out _).mono ?_
    rintro e w27 ⟨rfl, rfl⟩
    rw [rs_back]
    go_wp2_with fail
    refine (zmod_any a HA.out _).mono ?_
    rintro e w28 ⟨rfl, rfl⟩
    go_wp2
    go_ret
    exact ⟨rfl, HW.out⟩
  · have HI : Hid _ := inv_one a h0
    have HZ : Hid (rsZ a ≠ 0) := h0
    clear h0
    go_enter Tryd.func4, Tryd.ntmps4
    go_wp2_with fail
    refine (awake_any _ ht).mono ?_
    rintro e w1 ⟨rfl, b1⟩
    have HW : Hid _ := b1
    clear b1 ht
    go_wp2_with fail
    refine (zpower_any a 3327 HA.out (by decide) _).mono ?_
    rintro e w2 ⟨rfl, rfl⟩
    go_wp2_with fail
    refine (zmul_any a _ HA.out ⟨by have := pwZ_lt a 3327; omega, by have := pwZ_lt a 3327; omega⟩ _).mono ?_
    rintro e w3 ⟨rfl, rfl⟩
    rw [HI.out]
    go_wp2_with fail
    refine (zmod_any a HA.out _).mono ?_
    rintro e w29 ⟨rfl, rfl⟩
    have hz0 : ((rsZ a : Nat) : Int) ≠ 0 := by have := HZ.out; omega
    have hz1 : (((rsZ a : Nat) : Int) == 0) = false := by simpa using HZ.out
    generalize hR : rsZ a = r at hz0 hz1 ⊢
    have HR : Hid _ := hR
    clear hR
    go_wp2_with fail
    refine (zmod_any a HA.out _).mono ?_
    rintro e w30 ⟨rfl, rfl⟩
    rw [HR.out]
    go_wp2_with fail
    refine (zadd_any a b HA.out HB.out _).mono ?_
    rintro e w31 ⟨rfl, rfl⟩
    go_wp2_with fail
    refine (zadd_any _ c (in64_rest _) HC.out _).mono ?_
    rintro e w32 ⟨rfl, rfl⟩
    rw [rs_add_l]
    go_wp2_with fail
    refine (zadd_any b c HB.out HC.out _).mono ?_
    rintro e w33 ⟨rfl, rfl⟩
    go_wp2_with fail
    refine (zadd_any a _ HA.out (in64_rest _) _).mono ?_
    rintro e w34 ⟨rfl, rfl⟩
    rw [rs_add_r, ← Int.add_assoc]
    go_wp2_with fail
    refine (zmul_any a b HA.out HB.out _).mono ?_
    rintro e w35 ⟨rfl, rfl⟩
    go_wp2_with fail
    refine (zmul_any _ c (in64_rest _) HC.out _).mono ?_
    rintro e w36 ⟨rfl, rfl⟩
    rw [rs_mul_l]
    go_wp2_with fail
    refine (zmul_any b c HB.out HC.out _).mono ?_
    rintro e w37 ⟨rfl, rfl⟩
    go_wp2_with fail
    refine (zmul_any a _ HA.out (in64_rest _) _).mono ?_
    rintro e w38 ⟨rfl, rfl⟩
    rw [rs_mul_r, ← Int.mul_assoc]
    go_wp2_with fail
    refine (zadd_any b c HB.out HC.out _).mono ?_
    rintro e w39 ⟨rfl, rfl⟩
    go_wp2_with fail
    refine (zmul_any a _ HA.out (in64_rest _) _).mono ?_
    rintro e w40 ⟨rfl, rfl⟩
    rw [rs_mul_r, Int.mul_add]
    go_wp2_with fail
    refine (zmul_any a b HA.out HB.out _).mono ?_
    rintro e w41 ⟨rfl, rfl⟩
    go_wp2_with fail
    refine (zmul_any a c HA.out HC.out _).mono ?_
    rintro e w42 ⟨rfl, rfl⟩
    go_wp2_with fail
    refine (zadd_any _ _ (in64_rest _) (in64_rest _) _).mono ?_
    rintro e w43 ⟨rfl, rfl⟩
    rw [rs_add_l, rs_add_r]
    go_wp2_with fail
    refine (zsub_any a b HA.out HB.out _).mono ?_
    rintro e w44 ⟨rfl, rfl⟩
    go_wp2_with fail
    refine (zadd_any _ b (in64_rest _) HB.out _).mono ?_
    rintro e w45 ⟨rfl, rfl⟩
    rw [rs_back]
    go_wp2_with fail
    refine (zmod_any a HA.out _).mono ?_
    rintro e w46 ⟨rfl, rfl⟩
    go_wp2
    go_ret
    exact ⟨rfl, HW.out⟩
end Go.Proofs.YtfloppipcahmkabDoor
