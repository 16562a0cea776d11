/- Rests by 3329: powers, bits turned round, rounding: plain mathematics. No program's text is named. -/
import Derived.Test.YtbladcgdbhogcabDoorPrime
namespace Go.Proofs.YtbladcgdbhogcabDoor
set_option linter.unusedSimpArgs false
set_option linter.unusedVariables false

/-- A number's rest by 3329. -/
def rsZ (x : Int) : Nat := (x % 3329).toNat
theorem rsZ_lt (x : Int) : rsZ x < 3329 := by unfold rsZ; omega
theorem rsZ_int (x : Int) : ((rsZ x : Nat) : Int) = x % 3329 := by unfold rsZ; omega
theorem rsZ_nat (n : Nat) : rsZ (n : Int) = n % 3329 := by unfold rsZ; omega
/-- A power's rest; 0, where the exponent is below 0. -/
def pwZ (a n : Int) : Nat := if n < 0 then 0 else rsZ a ^ n.toNat % 3329
theorem pr3329 : Pr 3329 := pr_trial 3329 (by decide) (by decide +kernel)
theorem pow_one (a e : Nat) (he : e = 3328) (h : a % 3329 ≠ 0) : a ^ e % 3329 = 1 := by
  have h1 := fermat pr3329 a (fun hd => h (Nat.mod_eq_zero_of_dvd hd))
  have h2 : 3329 - 1 = e := by omega
  rw [h2] at h1
  exact h1
theorem pow_rest (a n : Nat) (h : a % 3329 ≠ 0) : a ^ n % 3329 = a ^ (n % 3328) % 3329 := by
  obtain ⟨e, he⟩ : ∃ e : Nat, e = 3328 := ⟨_, rfl⟩
  rw [← he]
  have h1 := pow_one a e he h
  have h2 : n = e * (n / e) + n % e := (Nat.div_add_mod n e).symm
  have h3 : a ^ n = (a ^ e) ^ (n / e) * a ^ (n % e) := by rw [← Nat.pow_mul, ← Nat.pow_add, ← h2]
  rw [h3, Nat.mul_mod, Nat.pow_mod, h1, Nat.one_pow]
  simp
/-- Bits turned round, so many of them. -/
def tnJ (m : Nat) : Nat → Nat
  | 0 => 0
  | j + 1 => tnJ m j * 2 + m / 2 ^ j % 2
theorem tnJ_lt (m : Nat) : ∀ j, tnJ m j < 2 ^ j
  | 0 => by simp [tnJ]
  | j + 1 => by
    have := tnJ_lt m j
    simp only [tnJ, Nat.pow_succ]
    omega
/-- A number, rounded to d bits. -/
def cpZ (d : Nat) (x : Int) : Nat := (2 ^ (d + 1) * rsZ x + 3329) / 6658 % 2 ^ d
/-- A number's rest by a power of 2. -/
def twZ (d : Nat) (y : Int) : Nat := (y % ((2 ^ d : Nat) : Int)).toNat
/-- The middle of what is rounded to a number of d bits. -/
def dcZ (d : Nat) (y : Int) : Nat := (6658 * twZ d y + 2 ^ d) / 2 ^ (d + 1)
/-- What times 65536 makes a number. -/
def mgZ (x : Nat) : Nat := x % 3329 * 169 % 3329
end Go.Proofs.YtbladcgdbhogcabDoor
