/- What package zq's powers and its rests without dividing answer: contracts, second part. -/
import Derived.Test.YtbladcgdbhogcabDoorZ10a
namespace Go.Proofs.YtbladcgdbhogcabDoor
open Go.ChangeShapes Go.WideShapes Go.ChangeAt Go.RowKit
set_option linter.unusedSimpArgs false
set_option linter.unusedVariables false

theorem pw_even (o r m : Nat) (h : m % 2 = 0) : o * (r * r % 3329) ^ (m / 2) % 3329 = o * r ^ m % 3329 := by
  rw [Nat.mul_mod, ← Nat.pow_mod, ← Nat.mul_mod]
  have h1 : (r * r) ^ (m / 2) = r ^ m := by
    rw [show r * r = r ^ 2 by rw [Nat.pow_succ, Nat.pow_one], ← Nat.pow_mul]
    congr 1
    omega
  rw [h1]
theorem pw_odd (o r m : Nat) (h : m % 2 = 1) : o * r % 3329 * (r * r % 3329) ^ (m / 2) % 3329 = o * r ^ m % 3329 := by
  rw [Nat.mul_mod, ← Nat.pow_mod, Nat.mod_mod, ← Nat.mul_mod]
  have h1 : r * (r * r) ^ (m / 2) = r ^ m := by
    rw [show r * r = r ^ 2 by rw [Nat.pow_succ, Nat.pow_one], ← Nat.pow_mul, Nat.mul_comm, ← Nat.pow_succ]
    congr 1
    omega
  rw [Nat.mul_assoc, h1]
theorem and_one (m : Nat) (h : m ≤ 9223372036854775807) : bits .and .i64 (m : Int) 1 = ((m % 2 : Nat) : Int) := by
  have h1 := and_low 1 (by decide) (m : Int) ⟨by omega, by omega⟩
  rw [show twZ 1 (m : Int) = m % 2 by unfold twZ; omega] at h1
  exact h1

end Go.Proofs.YtbladcgdbhogcabDoor
