/- Rests by 3329: what follows: rounded and spread, powers that invert, low bits: plain mathematics. No program's text is named. -/
import Derived.Test.YtbladcgdbhogcabDoorZMath
import Derived.Test.YtbladcgdbhogcabDoorLib
namespace Go.Proofs.YtbladcgdbhogcabDoor
set_option linter.unusedSimpArgs false
set_option linter.unusedVariables false

/-- All numbers below some one. -/
def allB (p : Nat → Bool) : Nat → Bool
  | 0 => true
  | n + 1 => p n && allB p n
theorem allB_at {p : Nat → Bool} : ∀ {n : Nat}, allB p n = true → ∀ i, i < n → p i = true
  | 0, _, i, h => by omega
  | n + 1, h, i, hi => by
    simp only [allB, Bool.and_eq_true] at h
    rcases Nat.lt_or_ge i n with h1 | h1
    · exact allB_at h.2 i h1
    · have : i = n := by omega
      subst this
      exact h.1
/-- Spread and rounded again a number of d bits is what it was; spread it is a rest. -/
theorem cpdc_all : allB (fun d => allB (fun s => ((2 ^ (d + 1 + 1) * ((6658 * s + 2 ^ (d + 1)) / 2 ^ (d + 1 + 1)) + 3329) / 6658 % 2 ^ (d + 1) == s) && Nat.blt ((6658 * s + 2 ^ (d + 1)) / 2 ^ (d + 1 + 1)) 3329) (2 ^ (d + 1))) 11 = true := by decide +kernel
theorem twZ_lt (d : Nat) (y : Int) : twZ d y < 2 ^ d := by
  have h : (0 : Int) < ((2 ^ d : Nat) : Int) := by exact_mod_cast Nat.pow_pos (by decide)
  unfold twZ
  have := Int.emod_lt_of_pos y h
  have := Int.emod_nonneg y (by omega : ((2 ^ d : Nat) : Int) ≠ 0)
  omega
theorem dcZ_lt (d : Nat) (h1 : 1 ≤ d) (h2 : d ≤ 11) (y : Int) : dcZ d y < 3329 := by
  have h := allB_at (allB_at cpdc_all (d - 1) (by omega)) (twZ d y) (by rw [show d - 1 + 1 = d by omega]; exact twZ_lt d y)
  rw [show d - 1 + 1 = d by omega] at h
  simp only [Bool.and_eq_true] at h
  have h2 := h.2
  rw [Nat.blt_eq] at h2
  exact h2
theorem cp_dc (d : Nat) (h1 : 1 ≤ d) (h2 : d ≤ 11) (y : Int) : cpZ d ((dcZ d y : Nat) : Int) = twZ d y := by
  have h := allB_at (allB_at cpdc_all (d - 1) (by omega)) (twZ d y) (by rw [show d - 1 + 1 = d by omega]; exact twZ_lt d y)
  rw [show d - 1 + 1 = d by omega] at h
  simp only [Bool.and_eq_true, beq_iff_eq] at h
  unfold cpZ
  rw [rsZ_nat, Nat.mod_eq_of_lt (dcZ_lt d h1 h2 y)]
  exact h.1
/-- What a number times its power of 3327 is. -/
theorem inv_pow (a n : Nat) (hn : n = 3327) (h : a % 3329 ≠ 0) : a * (a ^ n % 3329) % 3329 = 1 := by
  have h1 := pow_one a (n + 1) (by omega) h
  rw [Nat.pow_succ, Nat.mul_comm] at h1
  rw [Nat.mul_mod_mod]
  exact h1
/-- The lowest bits of a number, also of one below 0. -/
theorem and_low (d : Nat) (hd : d ≤ 62) (y : Int) (hy : -9223372036854775808 ≤ y ∧ y ≤ 9223372036854775807) : bits .and .i64 y (((2 ^ d - 1 : Nat)) : Int) = ((twZ d y : Nat) : Int) := by
  have hp : 2 ^ d ≤ 2 ^ 62 := Nat.pow_le_pow_right (by decide) hd
  have hp1 : 1 ≤ 2 ^ d := Nat.pow_pos (by decide)
  have hp2 : (2 : Nat) ^ 62 = 4611686018427387904 := by decide
  have e1 : (BitVec.ofInt 64 (((2 ^ d - 1 : Nat)) : Int)).toNat = 2 ^ d - 1 := ofInt_u64 _ (by omega)
  have e2 : (BitVec.ofInt 64 y &&& BitVec.ofInt 64 (((2 ^ d - 1 : Nat)) : Int)).toNat = twZ d y := by
    rw [BitVec.toNat_and, e1, Nat.and_two_pow_sub_one_eq_mod, BitVec.toNat_ofInt]
    unfold twZ
    have hdv : ((2 ^ d : Nat) : Int) ∣ ((2 ^ 64 : Nat) : Int) := by
      refine Int.natCast_dvd_natCast.2 ⟨2 ^ (64 - d), ?_⟩
      rw [← Nat.pow_add]
      congr 1
      omega
    have h3 : (y % ((2 ^ 64 : Nat) : Int)) % ((2 ^ d : Nat) : Int) = y % ((2 ^ d : Nat) : Int) := Int.emod_emod_of_dvd y hdv
    have h4 : 0 ≤ y % ((2 ^ 64 : Nat) : Int) := Int.emod_nonneg y (by decide)
    rw [← h3]
    obtain ⟨q, hq⟩ := Int.eq_ofNat_of_zero_le h4
    rw [hq]
    simp only [Int.toNat_natCast]
    rw [← Int.natCast_emod, Int.toNat_natCast]
  have h5 := twZ_lt d y
  show IntKind.i64.wrap ((BitVec.ofInt 64 y &&& BitVec.ofInt 64 (((2 ^ d - 1 : Nat)) : Int)).toNat : Int) = _
  rw [e2]
  exact IntWalk.i64_in _ (by constructor <;> omega)
/-- Sums, differences and products by their rests. -/
theorem rs_add (a b : Int) : rsZ (a + b) = (rsZ a + rsZ b) % 3329 := by unfold rsZ; omega
theorem rs_sub (a b : Int) : rsZ (a - b) = (rsZ a + 3329 - rsZ b) % 3329 := by unfold rsZ; omega
theorem rs_mul (a b : Int) : rsZ (a * b) = rsZ a * rsZ b % 3329 := by
  have h : ((rsZ (a * b) : Nat) : Int) = ((rsZ a * rsZ b % 3329 : Nat) : Int) := by
    rw [rsZ_int, Int.natCast_emod, Int.natCast_mul, rsZ_int, rsZ_int]
    exact Int.mul_emod a b 3329
  exact_mod_cast h
theorem rs_rest (a : Int) : rsZ ((rsZ a : Nat) : Int) = rsZ a := by rw [rsZ_nat, Nat.mod_eq_of_lt (rsZ_lt a)]
end Go.Proofs.YtbladcgdbhogcabDoor
