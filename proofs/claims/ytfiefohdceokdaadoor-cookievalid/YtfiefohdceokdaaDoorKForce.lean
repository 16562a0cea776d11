/- A permutation reckoned whole by the kernel: each round's lanes are forced to numbers before the next one. No program's text is named. -/
import Derived.Test.YtfiefohdceokdaaDoorKec
namespace Go.Proofs.YtfiefohdceokdaaDoor
set_option linter.unusedVariables false

/-- Numbers are reckoned, one after another, then handed on. -/
def foL {β : Type} : List Nat → List Nat → (List Nat → β) → β
  | [], acc, k => k acc.reverse
  | x :: r, acc, k => match x with
    | 0 => foL r (0 :: acc) k
    | m + 1 => foL r ((m + 1) :: acc) k
theorem foL_eq {β : Type} (k : List Nat → β) : ∀ (l acc : List Nat), foL l acc k = k (acc.reverse ++ l)
  | [], acc => by simp [foL]
  | x :: r, acc => by
    cases x with
    | zero => simp [foL, foL_eq k r]
    | succ m => simp [foL, foL_eq k r]
/-- Rounds, from the i-th on. -/
def prG {β : Type} : Nat → Nat → List Nat → (List Nat → β) → β
  | 0, i, l, k => k l
  | n + 1, i, l, k => foL ((List.range 25).map (rdL (evS l) i)) [] fun m => prG n (i + 1) m k
/-- What the rounds come to. -/
theorem prG_all {β : Type} (f : Nat → Nat) (k : List Nat → β) : ∀ (n i : Nat) (l : List Nat), i + n ≤ 24 → (∀ j, evS l j < 18446744073709551616) → (∀ j, j < 25 → rdsF f i j = evS l j) →
    ∃ m, prG n i l k = k m ∧ (∀ j, evS m j < 18446744073709551616) ∧ ∀ j, j < 25 → rdsF f (i + n) j = evS m j
  | 0, i, l, _, hl, h => ⟨l, rfl, hl, h⟩
  | n + 1, i, l, hi, hl, h => by
    have hm : ∀ j, j < 25 → evS ((List.range 25).map (rdL (evS l) i)) j = rdL (evS l) i j := fun j hj => by
      unfold evS
      simp [List.getD, hj]
    have hb : ∀ j, evS ((List.range 25).map (rdL (evS l) i)) j < 18446744073709551616 := fun j => by
      by_cases hj : j < 25
      · rw [hm j hj]
        exact rdL_lt _ hl i (by omega) j
      · have e : evS ((List.range 25).map (rdL (evS l) i)) j = 0 := by
          unfold evS
          simp [List.getD, List.getElem?_eq_none (show (List.range 25).length ≤ j by simp; omega)]
        rw [e]
        decide
    have hs := evS_step f i (by omega) l ((List.range 25).map (rdL (evS l) i)) hl (fun j hj => (hm j hj).symm) h
    obtain ⟨m, h1, h2, h3⟩ := prG_all f k n (i + 1) _ (by omega) hb hs
    refine ⟨m, ?_, h2, ?_⟩
    · show foL _ [] _ = _
      rw [foL_eq]
      exact h1
    · rw [show i + (n + 1) = i + 1 + n by omega]
      exact h3
theorem kz_whole : prG 24 0 kz0 (fun l => decide (l = kz24)) = true := by decide +kernel
end Go.Proofs.YtfiefohdceokdaaDoor
