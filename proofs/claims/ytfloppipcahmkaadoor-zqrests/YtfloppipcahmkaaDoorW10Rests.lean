/- What the law ZqRests answers at every input: the walk. -/
import Derived.Test.YtfloppipcahmkaaDoorZ10f
namespace Go.Proofs.YtfloppipcahmkaaDoor
open Go.ChangeShapes Go.WideShapes Go.ChangeAt Go.RowKit
set_option linter.unusedSimpArgs false
set_option linter.unusedVariables false

set_option maxRecDepth 100000 in
set_option maxHeartbeats 2000000 in
theorem rests_walk (a b : Int) (wa : (Lit.int .i64 a).wf = true) (wb : (Lit.int .i64 b).wf = true) (w : World) (ht : PwT w) :
    Calls Tryd.prog 3 #[.int .i64 a, .int .i64 b] w fun e w' => e = .returned (.bool true) ∧ Below w.heap.size w w' := by
  have HA : Hid (In64 a) := wf_in64 wa
  have HB : Hid (In64 b) := wf_in64 wb
  have h1 := rsZ_lt a
  have h2 := rsZ_lt b
  have H3 : Hid _ := rs_add a b
  have H4 : Hid _ := rs_sub a b
  have H5 : Hid _ := rs_mul a b
  clear wa wb
  go_enter Tryd.func3, Tryd.ntmps3
  go_wp2_with fail
  refine (awake_any _ ht).mono ?_
  rintro e w1 ⟨rfl, b1⟩
  have HW : Hid _ := b1
  clear b1 ht
  go_wp2_with fail
  refine (modZ_any a HA.out _).mono ?_
  rintro e w2 ⟨rfl, rfl⟩
  go_wp2_with fail
  refine (modZ_any b HB.out _).mono ?_
  rintro e w3 ⟨rfl, rfl⟩
  go_wp2_with fail
  refine (zmod_any a HA.out _).mono ?_
  rintro e w4 ⟨rfl, rfl⟩
  go_wp2_with fail
  refine (zadd_any a b HA.out HB.out _).mono ?_
  rintro e w5 ⟨rfl, rfl⟩
  rw [H3.out]
  have e1 : ((rsZ a : Nat) : Int) + ((rsZ b : Nat) : Int) = ((rsZ a + rsZ b : Nat) : Int) := by omega
  have e2 : ((rsZ a + rsZ b : Nat) : Int) % 3329 = (((rsZ a + rsZ b) % 3329 : Nat) : Int) := by omega
  have e3 : ((rsZ a : Nat) : Int) + 3329 - ((rsZ b : Nat) : Int) = ((rsZ a + 3329 - rsZ b : Nat) : Int) := by omega
  have e4 : ((rsZ a + 3329 - rsZ b : Nat) : Int) % 3329 = (((rsZ a + 3329 - rsZ b) % 3329 : Nat) : Int) := by omega
  have e5 : ((rsZ a : Nat) : Int) * ((rsZ b : Nat) : Int) = ((rsZ a * rsZ b : Nat) : Int) := by rw [Int.natCast_mul]
  have e6 : ((rsZ a * rsZ b : Nat) : Int) % 3329 = ((rsZ a * rsZ b % 3329 : Nat) : Int) := by omega
  have h6 : rsZ a * rsZ b ≤ 3329 * 3329 := Nat.mul_le_mul (by omega) (by omega)
  generalize hv : (rsZ a + rsZ b) % 3329 = v at e2 ⊢
  generalize rsZ a + rsZ b = p at e1 e2 hv
  generalize hu : (rsZ a + 3329 - rsZ b) % 3329 = u at e4 H4
  generalize rsZ a + 3329 - rsZ b = q at e3 e4 hu H4
  generalize ht : rsZ a * rsZ b % 3329 = t at e6 H5
  generalize rsZ a * rsZ b = r at e5 e6 ht h6 H5
  generalize rsZ a = A at h1 e1 e3 e5 ⊢
  generalize rsZ b = B at h2 e1 e3 e5 ⊢
  have hp : p ≤ 6658 := by omega
  have hq : q ≤ 6658 := by omega
  clear hv hu ht
  go_wp2_with fail
  refine (zsub_any a b HA.out HB.out _).mono ?_
  rintro e w6 ⟨rfl, rfl⟩
  rw [H4.out]
  go_wp2_with fail
  refine (zmul_any a b HA.out HB.out _).mono ?_
  rintro e w7 ⟨rfl, rfl⟩
  rw [H5.out]
  go_wp2
  go_ret
  exact ⟨rfl, HW.out⟩
end Go.Proofs.YtfloppipcahmkaaDoor
