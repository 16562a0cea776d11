/- The document's step Iota, rounds, and all rounds: plain mathematics. No program's text is named. -/
import Derived.Test.YtkoecgoajbgkgaaDoorKMath2
namespace Go.Proofs.YtkoecgoajbgkgaaDoor
set_option linter.unusedSimpArgs false
set_option linter.unusedVariables false

/-- Bit t of the row that makes the constants. -/
def rcB (t : Nat) : Bool := decide ((rcS (t % 255)).getD 0 0 = 1)
def ioT (i J p : Nat) : Bool := (List.range J).any fun j => decide (p = 2 ^ j - 1) && rcB (j + 7 * i)
def ioG (x i J p : Nat) : Bool := Bool.xor (decide (x / 2 ^ p % 2 = 1)) (ioT i J p)
def ioL (x i J : Nat) : Nat := ofB (ioG x i J) 64
def ioF (f : Nat → Nat) (i k : Nat) : Nat := if k = 0 then ioL (f 0) i 7 else f k
def ioP (f : Nat → Nat) (i J k : Nat) : Nat := if k = 0 then ioL (f 0) i J else f k
theorem ioT_zero (i p : Nat) : ioT i 0 p = false := by simp [ioT]
theorem ioT_succ (i J p : Nat) : ioT i (J + 1) p = (ioT i J p || (decide (p = 2 ^ J - 1) && rcB (J + 7 * i))) := by
  simp [ioT, List.range_succ]
theorem ioT_fresh (i J : Nat) : ioT i J (2 ^ J - 1) = false := by
  unfold ioT
  rw [List.any_eq_false]
  intro j hj
  have hjJ := List.mem_range.1 hj
  have h1 := Nat.pow_lt_pow_right (show 1 < 2 by decide) hjJ
  have h2 := Nat.pow_pos (n := j) (show 0 < 2 by decide)
  have h3 : ¬ (2 ^ J - 1 = 2 ^ j - 1) := by omega
  simp [h3]
theorem ioL_zero (x i : Nat) (hx : x < 18446744073709551616) : ioL x i 0 = x := by
  have e := ofB_self x 64
  have h64 : (2 : Nat) ^ 64 = 18446744073709551616 := by decide
  rw [h64, Nat.mod_eq_of_lt hx] at e
  unfold ioL
  rw [← e]
  refine ofB_congr 64 fun p hp => ?_
  unfold ioG
  rw [ioT_zero, Bool.xor_false, e]
theorem ioL_skip (x i J : Nat) (h : rcB (J + 7 * i) = false) : ioL x i J = ioL x i (J + 1) := ofB_congr 64 fun p hp => by
  unfold ioG
  rw [ioT_succ, h]
  simp
theorem pos_lt (J : Nat) (hJ : J ≤ 6) : 2 ^ J - 1 < 64 := by
  have := Nat.pow_le_pow_right (show 0 < 2 by decide) hJ
  have h6 : 2 ^ 6 = 64 := by decide
  omega
theorem ioG_succ (x i J p : Nat) (h : rcB (J + 7 * i) = true) : ioG x i (J + 1) p = if p = 2 ^ J - 1 then !(ioG x i J p) else ioG x i J p := by
  unfold ioG
  rw [ioT_succ, h]
  by_cases e : p = 2 ^ J - 1
  · have hf := ioT_fresh i J
    rw [← e] at hf
    simp [e.symm, hf]
  · simp [e]
theorem ioL_up (x i J : Nat) (hJ : J ≤ 6) (h : rcB (J + 7 * i) = true) (hb : x / 2 ^ (2 ^ J - 1) % 2 = 0) : ioL x i (J + 1) = ioL x i J + 2 ^ (2 ^ J - 1) := by
  have hg : ioG x i J (2 ^ J - 1) = false := by unfold ioG; rw [ioT_fresh, hb]; rfl
  unfold ioL
  rw [← ofB_flip (ioG x i J) (2 ^ J - 1) hg 64 (pos_lt J hJ)]
  refine ofB_congr 64 fun p hp => ?_
  rw [ioG_succ x i J p h]
  by_cases e : p = 2 ^ J - 1
  · rw [if_pos e, if_pos e, e, hg]; rfl
  · rw [if_neg e, if_neg e]
theorem ioL_down (x i J : Nat) (hJ : J ≤ 6) (h : rcB (J + 7 * i) = true) (hb : x / 2 ^ (2 ^ J - 1) % 2 = 1) : ioL x i (J + 1) + 2 ^ (2 ^ J - 1) = ioL x i J := by
  have hg : ioG x i J (2 ^ J - 1) = true := by unfold ioG; rw [ioT_fresh, hb]; rfl
  have hg2 : ioG x i (J + 1) (2 ^ J - 1) = false := by rw [ioG_succ x i J _ h, if_pos rfl, hg]; rfl
  unfold ioL
  rw [← ofB_flip (ioG x i (J + 1)) (2 ^ J - 1) hg2 64 (pos_lt J hJ)]
  refine ofB_congr 64 fun p hp => ?_
  by_cases e : p = 2 ^ J - 1
  · rw [if_pos e, e, hg]
  · rw [if_neg e, ioG_succ x i J p h, if_neg e]
theorem ioL_lt (x i J : Nat) : ioL x i J < 18446744073709551616 := ofB_64 _ _ (Nat.le_refl _)
theorem ioP_zero (f : Nat → Nat) (i : Nat) (h0 : f 0 < 18446744073709551616) : stL f = stL (ioP f i 0) := stL_congr fun k hk => by
  unfold ioP
  by_cases e : k = 0
  · subst e; rw [if_pos rfl, ioL_zero _ _ h0]
  · rw [if_neg e]
theorem ioP_set (f : Nat → Nat) (i J : Nat) : (stL (ioP f i J)).set 0 ((ioL (f 0) i (J + 1) : Nat) : Int) = stL (ioP f i (J + 1)) := by
  rw [stL_set]
  refine stL_congr fun k hk => ?_
  unfold ioP
  by_cases e : k = 0 <;> simp [e]
theorem ioP_skip (f : Nat → Nat) (i J : Nat) (h : rcB (J + 7 * i) = false) : stL (ioP f i J) = stL (ioP f i (J + 1)) := stL_congr fun k hk => by
  unfold ioP
  rw [ioL_skip _ _ _ h]
theorem ioP_done (f : Nat → Nat) (i : Nat) : stL (ioP f i 7) = stL (ioF f i) := rfl

theorem thF_lt (f : Nat → Nat) (i : Nat) : thF f i < 18446744073709551616 := ofB_64 _ _ (Nat.le_refl _)
theorem chF_lt (f : Nat → Nat) (i : Nat) : chF f i < 18446744073709551616 := ofB_64 _ _ (Nat.le_refl _)
theorem rhF_lt (f : Nat → Nat) (hf : ∀ i, f i < 18446744073709551616) (i : Nat) : rhF f i < 18446744073709551616 := by
  unfold rhF
  split
  · exact hf 0
  · exact ofB_64 _ _ (Nat.le_refl _)
theorem piF_lt (f : Nat → Nat) (hf : ∀ i, f i < 18446744073709551616) (i : Nat) : piF f i < 18446744073709551616 := hf _
theorem ioF_lt (f : Nat → Nat) (hf : ∀ i, f i < 18446744073709551616) (j i : Nat) : ioF f j i < 18446744073709551616 := by
  unfold ioF
  split
  · exact ioL_lt _ _ _
  · exact hf i
/-- A round of a state. -/
def rdF (f : Nat → Nat) (i : Nat) : Nat → Nat := ioF (chF (piF (rhF (thF f)))) i
theorem rdF_lt (f : Nat → Nat) (j i : Nat) : rdF f j i < 18446744073709551616 := ioF_lt _ (chF_lt _) _ _
/-- The first n rounds. -/
def rdsF (f : Nat → Nat) : Nat → Nat → Nat
  | 0 => f
  | n + 1 => rdF (rdsF f n) n
theorem rdsF_lt (f : Nat → Nat) (hf : ∀ i, f i < 18446744073709551616) : ∀ n i, rdsF f n i < 18446744073709551616
  | 0, i => hf i
  | n + 1, i => rdF_lt _ _ _
end Go.Proofs.YtkoecgoajbgkgaaDoor
