/- Two words that are moved by one: plain mathematics. No program's text is named. -/
import Derived.Test.YtmgkocoemgpgbaaWnMath
namespace Go.Proofs.Ytmgkocoemgpgbaa
set_option linter.unusedSimpArgs false
set_option linter.unusedVariables false

/-- The bits of two words, the lower one first. -/
def wbF (a b : Nat) (j : Nat) : Bool := if j < 64 then a.testBit j else b.testBit (j - 64)
/-- They stand for which numbers came: bit j for the one j below the greatest one. -/
structure Wn (l : List Nat) (a b : Nat) : Prop where
  lo : a < 18446744073709551616
  hi : b < 18446744073709551616
  bits : ∀ j, j < 128 → (wbF a b j = true ↔ j ≤ tpN l ∧ tpN l - j ∈ l)
theorem two64 : (2 : Nat) ^ 64 = 18446744073709551616 := by decide
theorem tb_hi {a : Nat} (h : a < 18446744073709551616) {j : Nat} (hj : 64 ≤ j) : a.testBit j = false := Nat.testBit_lt_two_pow (Nat.lt_of_lt_of_le (by rw [← two64] at h; exact h) (Nat.pow_le_pow_right (by decide) hj))
/-- One step: both words by one, the lower one's highest bit into the upper one. -/
def mvA (a : Nat) : Nat := a * 2 % 18446744073709551616
def mvB (a b : Nat) : Nat := b * 2 % 18446744073709551616 ||| a / 9223372036854775808
theorem mvA_bit (a j : Nat) : (mvA a).testBit j = (decide (j < 64) && (decide (1 ≤ j) && a.testBit (j - 1))) := by
  unfold mvA
  rw [show 18446744073709551616 = 2 ^ 64 from two64.symm, Nat.testBit_mod_two_pow, show a * 2 = a * 2 ^ 1 by simp, ← Nat.shiftLeft_eq, Nat.testBit_shiftLeft]
theorem mvB_bit {a : Nat} (ha : a < 18446744073709551616) (b j : Nat) : (mvB a b).testBit j = ((decide (j < 64) && (decide (1 ≤ j) && b.testBit (j - 1))) || a.testBit (j + 63)) := by
  unfold mvB
  rw [Nat.testBit_or, show a / 9223372036854775808 = a >>> 63 by rw [Nat.shiftRight_eq_div_pow], Nat.testBit_shiftRight, Nat.add_comm 63 j]
  congr 1
  rw [show 18446744073709551616 = 2 ^ 64 from two64.symm, Nat.testBit_mod_two_pow, show b * 2 = b * 2 ^ 1 by simp, ← Nat.shiftLeft_eq, Nat.testBit_shiftLeft]
theorem mvA_lt (a : Nat) : mvA a < 18446744073709551616 := Nat.mod_lt _ (by decide)
theorem mvB_lt {a : Nat} (ha : a < 18446744073709551616) (b : Nat) : mvB a b < 18446744073709551616 := by
  rw [← two64]
  refine Nat.or_lt_two_pow ?_ ?_
  · rw [two64]; exact Nat.mod_lt _ (by decide)
  · rw [two64]; omega
/-- The bits, moved by one. -/
theorem mv_bits {a b : Nat} (ha : a < 18446744073709551616) (j : Nat) (hj : j < 128) : wbF (mvA a) (mvB a b) j = (decide (1 ≤ j) && wbF a b (j - 1)) := by
  unfold wbF
  by_cases h : j < 64
  · rw [if_pos h, mvA_bit, decide_eq_true h, Bool.true_and]
    by_cases h0 : 1 ≤ j
    · rw [if_pos (by omega)]
    · simp [h0]
  · rw [if_neg h, mvB_bit ha]
    have h0 : 1 ≤ j := by omega
    by_cases h1 : j = 64
    · subst h1
      simp
    · rw [tb_hi ha (by omega), if_neg (by omega), show j - 64 - 1 = j - 1 - 64 by omega]
      have h2 : j - 64 < 64 := by omega
      have h3 : 1 ≤ j - 64 := by omega
      simp [h2, h3, h0]
/-- So many steps. -/
def mvN : Nat → Nat × Nat → Nat × Nat
  | 0, p => p
  | n + 1, p => mvN n (mvA p.1, mvB p.1 p.2)
theorem mvN_succ : ∀ (n : Nat) (p : Nat × Nat), mvN (n + 1) p = (mvA (mvN n p).1, mvB (mvN n p).1 (mvN n p).2)
  | 0, p => rfl
  | n + 1, p => by rw [show mvN (n + 1 + 1) p = mvN (n + 1) (mvA p.1, mvB p.1 p.2) from rfl, mvN_succ n]; rfl
theorem mvN_lt : ∀ (n : Nat) (p : Nat × Nat), p.1 < 18446744073709551616 → p.2 < 18446744073709551616 → (mvN n p).1 < 18446744073709551616 ∧ (mvN n p).2 < 18446744073709551616
  | 0, p, h1, h2 => ⟨h1, h2⟩
  | n + 1, p, h1, h2 => mvN_lt n _ (mvA_lt _) (mvB_lt h1 _)
theorem mvN_bits : ∀ (n : Nat) (a b : Nat), a < 18446744073709551616 → b < 18446744073709551616 → ∀ j, j < 128 → wbF (mvN n (a, b)).1 (mvN n (a, b)).2 j = (decide (n ≤ j) && wbF a b (j - n))
  | 0, a, b, ha, hb, j, hj => by simp [mvN]
  | n + 1, a, b, ha, hb, j, hj => by
    rw [show mvN (n + 1) (a, b) = mvN n (mvA a, mvB a b) from rfl, mvN_bits n _ _ (mvA_lt a) (mvB_lt ha b) j hj]
    by_cases h : n ≤ j
    · rw [mv_bits ha _ (by omega), decide_eq_true h, Bool.true_and, show j - n - 1 = j - (n + 1) by omega]
      congr 1
      exact decide_eq_decide.2 (by omega)
    · rw [decide_eq_false h, decide_eq_false (by omega : ¬ n + 1 ≤ j)]
      rfl
end Go.Proofs.Ytmgkocoemgpgbaa
