/- What functions of the program, or of the reference, answer: contracts; several texts in one. -/
import Derived.Test.YtliiofjcghdjoaaDoorBase
import Derived.Test.YtliiofjcghdjoaaDoorKec
import Derived.Test.YtliiofjcghdjoaaDoorRows

/- What the turning of a lane and the look at a round's number answer, and what the two tables hold: contracts of package keccak, first part. -/
namespace Go.Proofs.YtliiofjcghdjoaaDoor
open Go.ChangeShapes Go.WideShapes Go.ChangeAt Go.RowKit
set_option linter.unusedSimpArgs false
set_option linter.unusedVariables false

theorem or_turn (x n : Nat) (hx : x < 18446744073709551616) (hn : n < 64) : (x * 2 ^ n % 18446744073709551616) ||| (x / 2 ^ (64 - n)) = turnN x n := by
  unfold turnN
  split
  · rename_i h
    subst h
    rw [Nat.pow_zero, Nat.mul_one, Nat.mod_eq_of_lt hx, Nat.div_eq_of_lt (by simpa using hx), Nat.or_zero]
  · unfold rotN
    have h64 : (18446744073709551616 : Nat) = 2 ^ n * 2 ^ (64 - n) := by rw [← Nat.pow_add, show n + (64 - n) = 64 by omega]
    have hB : x / 2 ^ (64 - n) < 2 ^ n := by
      refine Nat.div_lt_of_lt_mul ?_
      rw [Nat.mul_comm, ← h64]
      exact hx
    rw [h64, Nat.mul_comm x, Nat.mul_mod_mul_left, Nat.two_pow_add_eq_or_of_lt hB]
theorem and63 (n : Nat) (hn : n < 64) : bits .and .u64 (n : Int) 63 = (n : Int) := by
  have h := u64_and_nat n 63 (by omega) (by decide)
  rw [show ((63 : Int)) = ((63 : Nat) : Int) from rfl, h, show (63 : Nat) = 2 ^ 6 - 1 from rfl, Nat.and_two_pow_sub_one_eq_mod, Nat.mod_eq_of_lt (by omega)]

end Go.Proofs.YtliiofjcghdjoaaDoor
