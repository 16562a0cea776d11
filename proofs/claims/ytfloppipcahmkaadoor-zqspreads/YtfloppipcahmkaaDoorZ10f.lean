/- Numbers that come in, and rests of rests: what the laws of layer 10 share. -/
import Derived.Test.YtfloppipcahmkaaDoorZ10e
import Derived.Test.YtfloppipcahmkaaDoorLibI
namespace Go.Proofs.YtfloppipcahmkaaDoor
open Go.ChangeShapes Go.WideShapes Go.ChangeAt Go.RowKit
set_option linter.unusedSimpArgs false
set_option linter.unusedVariables false

theorem wf_in64 {a : Int} (h : (Lit.int .i64 a).wf = true) : In64 a := by
  have := bounds_i64 h
  exact ⟨by omega, by omega⟩
theorem wf_nat32 {A : Int} (h : (Lit.int .u32 A).wf = true) : ∃ a : Nat, A = (a : Int) ∧ a < 4294967296 := by
  have := bounds_u32 h
  exact ⟨A.toNat, by omega, by omega⟩
theorem rs_add_l (a b : Int) : rsZ (((rsZ a : Nat) : Int) + b) = rsZ (a + b) := by rw [rsZ_int]; unfold rsZ; omega
theorem rs_add_r (a b : Int) : rsZ (a + ((rsZ b : Nat) : Int)) = rsZ (a + b) := by rw [rsZ_int]; unfold rsZ; omega
theorem rs_mul_l (a b : Int) : rsZ (((rsZ a : Nat) : Int) * b) = rsZ (a * b) := by rw [rs_mul, rs_rest, rs_mul a b]
theorem rs_mul_r (a b : Int) : rsZ (a * ((rsZ b : Nat) : Int)) = rsZ (a * b) := by rw [rs_mul, rs_rest, rs_mul a b]
theorem in64_rest (a : Int) : In64 ((rsZ a : Nat) : Int) := by have := rsZ_lt a; exact ⟨by omega, by omega⟩
theorem pwZ_lt (a n : Int) : pwZ a n < 3329 := by
  unfold pwZ
  split
  · decide
  · exact Nat.mod_lt _ (by decide)
theorem inv_zero (a : Int) (h : rsZ a = 0) : rsZ (a * ((pwZ a 3327 : Nat) : Int)) = 0 := by
  rw [rs_mul, h, Nat.zero_mul]
theorem inv_one (a : Int) (h : rsZ a ≠ 0) : rsZ (a * ((pwZ a 3327 : Nat) : Int)) = 1 := by
  obtain ⟨n, hn⟩ : ∃ n : Nat, n = 3327 := ⟨_, rfl⟩
  have e : pwZ a 3327 = rsZ a ^ n % 3329 := by
    unfold pwZ
    rw [if_neg (by decide), hn]
    rfl
  rw [rs_mul, rsZ_nat, Nat.mod_eq_of_lt (pwZ_lt a 3327), e]
  exact inv_pow (rsZ a) n hn (by rw [Nat.mod_eq_of_lt (rsZ_lt a)]; exact h)
theorem rs_back (a b : Int) : rsZ (((rsZ (a - b) : Nat) : Int) + b) = rsZ a := by rw [rsZ_int]; unfold rsZ; omega
end Go.Proofs.YtfloppipcahmkaaDoor
