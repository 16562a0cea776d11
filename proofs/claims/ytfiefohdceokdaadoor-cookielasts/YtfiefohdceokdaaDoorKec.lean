/- What the proofs of this seat stand on and that names no program: memory, rows, arrays, regions, and plain mathematics; several texts in one. -/
import Derived.Test.YtfiefohdceokdaaDoorBase
import Derived.WalkKit

/- The document's steps Rho, Pi, Chi and the constants' bits, as far as they are made at each point of their loops: plain mathematics. No program's text is named. -/
namespace Go.Proofs.YtfiefohdceokdaaDoor
set_option linter.unusedSimpArgs false
set_option linter.unusedVariables false

/-! ### One bit more anywhere -/
theorem ofB_flip (g : Nat → Bool) (p : Nat) (hg : g p = false) : ∀ n, p < n → ofB (fun i => if i = p then true else g i) n = ofB g n + 2 ^ p
  | 0, h => by omega
  | n + 1, h => by
    rw [ofB_succ, ofB_succ]
    by_cases e : p = n
    · subst e
      have h1 : ofB (fun i => if i = p then true else g i) p = ofB g p := ofB_congr p fun i hi => by simp [show i ≠ p by omega]
      rw [h1]
      simp [hg]
    · have ih := ofB_flip g p hg n (by omega)
      rw [ih]
      simp only [show n ≠ p from fun h => e h.symm, if_false]
      omega

/-! ### Pi -/
def piF (f : Nat → Nat) (i : Nat) : Nat := f ((i % 5 + 3 * (i / 5)) % 5 + 5 * (i % 5))
def piP (f : Nat → Nat) (X Y : Nat) (i : Nat) : Nat := if i % 5 < X ∨ (i % 5 = X ∧ i / 5 < Y) then piF f i else 0
theorem piP_start (f : Nat → Nat) : stL (fun _ => 0) = stL (piP f 0 0) := stL_congr fun i hi => by simp [piP]
theorem piP_end (f : Nat → Nat) (X : Nat) : stL (piP f X 5) = stL (piP f (X + 1) 0) := stL_congr fun i hi => by
  unfold piP
  have h1 : (i % 5 < X ∨ i % 5 = X ∧ i / 5 < 5) ↔ (i % 5 < X + 1 ∨ i % 5 = X + 1 ∧ i / 5 < 0) := by omega
  simp only [h1]
theorem piP_done (f : Nat → Nat) : stL (piP f 5 0) = stL (piF f) := stL_congr fun i hi => by
  unfold piP
  simp [show i % 5 < 5 by omega]
theorem piP_set (f : Nat → Nat) (X Y : Nat) (hX : X < 5) (hY : Y < 5) : (stL (piP f X Y)).set (X + 5 * Y) ((f ((X + 3 * Y) % 5 + 5 * X) : Nat) : Int) = stL (piP f X (Y + 1)) := by
  rw [stL_set]
  refine stL_congr fun i hi => ?_
  by_cases e : i = X + 5 * Y
  · subst e
    have e1 : (X + 5 * Y) % 5 = X := by omega
    have e2 : (X + 5 * Y) / 5 = Y := by omega
    simp [piP, piF, e1, e2]
  · simp only [e, if_false]
    unfold piP
    have h1 : (i % 5 < X ∨ i % 5 = X ∧ i / 5 < Y) ↔ (i % 5 < X ∨ i % 5 = X ∧ i / 5 < Y + 1) := by omega
    simp only [h1]

/-! ### Chi -/
def chB (f : Nat → Nat) (x y z : Nat) : Bool := decide ((bitN f x y z + if bitN f ((x + 1) % 5) y z = 0 ∧ bitN f ((x + 2) % 5) y z = 1 then 1 else 0) % 2 = 1)
def chF (f : Nat → Nat) (i : Nat) : Nat := ofB (chB f (i % 5) (i / 5)) 64
def chP (f : Nat → Nat) (X Y Z : Nat) (i : Nat) : Nat :=
  if i % 5 < X ∨ (i % 5 = X ∧ i / 5 < Y) then chF f i else if i % 5 = X ∧ i / 5 = Y then ofB (chB f X Y) Z else 0
theorem chP_start (f : Nat → Nat) : stL (fun _ => 0) = stL (chP f 0 0 0) := stL_congr fun i hi => by simp [chP, ofB]
theorem chP_laneEnd (f : Nat → Nat) (X Y : Nat) : stL (chP f X Y 64) = stL (chP f X (Y + 1) 0) := stL_congr fun i hi => by
  unfold chP
  by_cases h1 : i % 5 < X ∨ (i % 5 = X ∧ i / 5 < Y)
  · rw [if_pos h1, if_pos (by omega)]
  · by_cases h2 : i % 5 = X ∧ i / 5 = Y
    · rw [if_neg h1, if_pos h2, if_pos (by omega)]
      unfold chF
      rw [h2.1, h2.2]
    · rw [if_neg h1, if_neg h2, if_neg (by omega)]
      split <;> simp [ofB]
theorem chP_colEnd (f : Nat → Nat) (X : Nat) : stL (chP f X 5 0) = stL (chP f (X + 1) 0 0) := stL_congr fun i hi => by
  unfold chP
  by_cases h1 : i % 5 < X ∨ (i % 5 = X ∧ i / 5 < 5)
  · rw [if_pos h1, if_pos (by omega)]
  · rw [if_neg h1, if_neg (by omega), if_neg (by omega)]
    split <;> simp [ofB]
theorem chP_done (f : Nat → Nat) : stL (chP f 5 0 0) = stL (chF f) := stL_congr fun i hi => by
  unfold chP
  rw [if_pos (by omega)]
theorem chP_skip (f : Nat → Nat) (X Y Z : Nat) (h : chB f X Y Z = false) : stL (chP f X Y Z) = stL (chP f X Y (Z + 1)) := stL_congr fun i hi => by
  unfold chP
  by_cases h1 : i % 5 < X ∨ (i % 5 = X ∧ i / 5 < Y)
  · rw [if_pos h1, if_pos h1]
  · rw [if_neg h1, if_neg h1]
    simp [ofB_succ, h]
theorem chP_lane (f : Nat → Nat) (X Y Z : Nat) (hX : X < 5) : chP f X Y Z (X + 5 * Y) = ofB (chB f X Y) Z := by
  have e1 : (X + 5 * Y) % 5 = X := by omega
  have e2 : (X + 5 * Y) / 5 = Y := by omega
  simp [chP, e1, e2]
theorem chP_put (f : Nat → Nat) (X Y Z : Nat) (hX : X < 5) (h : chB f X Y Z = true) :
    (stL (chP f X Y Z)).set (X + 5 * Y) ((chP f X Y Z (X + 5 * Y) + 2 ^ Z : Nat) : Int) = stL (chP f X Y (Z + 1)) := by
  rw [stL_set]
  refine stL_congr fun i hi => ?_
  by_cases e : i = X + 5 * Y
  · subst e
    simp only [if_true]
    rw [chP_lane f X Y Z hX, chP_lane f X Y (Z + 1) hX, ofB_succ]
    simp [h]
  · simp only [e, if_false]
    unfold chP
    have h2 : ¬ (i % 5 = X ∧ i / 5 = Y) := by omega
    simp only [h2, if_false]
theorem pow_room (g : Nat → Bool) (Z : Nat) (hZ : Z < 64) : ofB g Z + 2 ^ Z < 18446744073709551616 := by
  have h1 := ofB_lt g Z
  have h2 := Nat.pow_le_pow_right (show 0 < 2 by decide) (show Z + 1 ≤ 64 by omega)
  have h3 : 2 ^ 64 = 18446744073709551616 := by decide
  rw [Nat.pow_succ] at h2
  omega

/-! ### Rho -/
/-- Where the walk over the lanes stands behind t steps, as x and y. -/
def rhXY : Nat → Nat × Nat
  | 0 => (1, 0)
  | t + 1 => ((rhXY t).2, (2 * (rhXY t).1 + 3 * (rhXY t).2) % 5)
def rhPos (t : Nat) : Nat := (rhXY t).1 + 5 * (rhXY t).2
def rhBy (t : Nat) : Nat := (t + 1) * (t + 2) / 2 % 64
/-- At which step lane i comes. -/
def rhTau (i : Nat) : Nat := (List.range 24).findIdx fun t => rhPos t == i
theorem rhXY_lt : ∀ t, t < 25 → (rhXY t).1 < 5 ∧ (rhXY t).2 < 5 := by decide
theorem rhTau_pos : ∀ t, t < 24 → rhTau (rhPos t) = t ∧ rhPos t ≠ 0 := by decide
theorem rhPos_tau : ∀ i, i < 25 → i ≠ 0 → rhTau i < 24 ∧ rhPos (rhTau i) = i := by decide
/-- The lane that is turned by step t, as far as its first z bits have come. -/
def rhG (f : Nat → Nat) (t z p : Nat) : Bool := decide ((p + 64 - rhBy t) % 64 < z) && decide (bitN f (rhXY t).1 (rhXY t).2 ((p + 64 - rhBy t) % 64) = 1)
def rhP (f : Nat → Nat) (t z : Nat) (i : Nat) : Nat :=
  if i = 0 then f 0 else if rhTau i < t then ofB (rhG f (rhTau i) 64) 64 else if rhTau i = t then ofB (rhG f t z) 64 else 0
def rhF (f : Nat → Nat) (i : Nat) : Nat := if i = 0 then f 0 else ofB (rhG f (rhTau i) 64) 64
theorem rhBy_lt (t : Nat) : rhBy t < 64 := Nat.mod_lt _ (by decide)
theorem rhG_zero (f : Nat → Nat) (t : Nat) : ofB (rhG f t 0) 64 = 0 := by
  have h : ∀ n, ofB (fun _ => false) n = 0 := by
    intro n
    induction n with
    | zero => rfl
    | succ n ih => simp [ofB_succ, ih]
  rw [ofB_congr (h := fun _ => false) 64 (fun i hi => by simp [rhG]), h]
theorem rhP_start (f : Nat → Nat) : (stL (fun _ => 0)).set 0 ((f 0 : Nat) : Int) = stL (rhP f 0 0) := by
  rw [stL_set]
  refine stL_congr fun i hi => ?_
  unfold rhP
  by_cases h : i = 0
  · simp [h]
  · simp only [h, if_false, Nat.not_lt_zero]
    split
    · exact (rhG_zero f 0).symm
    · rfl
theorem rhP_stepEnd (f : Nat → Nat) (t : Nat) (ht : t < 24) : stL (rhP f t 64) = stL (rhP f (t + 1) 0) := stL_congr fun i hi => by
  unfold rhP
  by_cases h : i = 0
  · simp [h]
  · simp only [h, if_false]
    by_cases h1 : rhTau i < t
    · simp [h1, show rhTau i < t + 1 by omega]
    · by_cases h2 : rhTau i = t
      · simp [h2]
      · simp only [h1, h2, show ¬ rhTau i < t + 1 by omega, if_false]
        split
        · exact (rhG_zero f (t + 1)).symm
        · rfl
theorem rhP_done (f : Nat → Nat) : stL (rhP f 24 0) = stL (rhF f) := stL_congr fun i hi => by
  unfold rhP rhF
  by_cases h : i = 0
  · simp [h]
  · simp [h, (rhPos_tau i hi h).1]
theorem rhG_succ (f : Nat → Nat) (t z : Nat) (hz : z < 64) (i : Nat) (hi : i < 64) :
    rhG f t (z + 1) i = if i = (z + rhBy t) % 64 then decide (bitN f (rhXY t).1 (rhXY t).2 z = 1) else rhG f t z i := by
  have hb := rhBy_lt t
  unfold rhG
  by_cases e : i = (z + rhBy t) % 64
  · have e2 : (i + 64 - rhBy t) % 64 = z := by omega
    simp [e2, e.symm]
  · have e2 : (i + 64 - rhBy t) % 64 ≠ z := by omega
    simp only [e, if_false]
    have e3 : ((i + 64 - rhBy t) % 64 < z + 1) ↔ ((i + 64 - rhBy t) % 64 < z) := by omega
    simp only [e3]
theorem rhG_fresh (f : Nat → Nat) (t z : Nat) (hz : z < 64) : rhG f t z ((z + rhBy t) % 64) = false := by
  have hb := rhBy_lt t
  unfold rhG
  have e2 : ((z + rhBy t) % 64 + 64 - rhBy t) % 64 = z := by omega
  simp [e2]
theorem rhG_skip (f : Nat → Nat) (t z : Nat) (hz : z < 64) (h : bitN f (rhXY t).1 (rhXY t).2 z ≠ 1) : ofB (rhG f t z) 64 = ofB (rhG f t (z + 1)) 64 :=
  ofB_congr 64 fun i hi => by
    rw [rhG_succ f t z hz i hi]
    by_cases e : i = (z + rhBy t) % 64
    · subst e
      rw [rhG_fresh f t z hz]
      simp [h]
    · simp [e]
theorem rhG_put (f : Nat → Nat) (t z : Nat) (hz : z < 64) (h : bitN f (rhXY t).1 (rhXY t).2 z = 1) : ofB (rhG f t z) 64 + 2 ^ ((z + rhBy t) % 64) = ofB (rhG f t (z + 1)) 64 := by
  rw [← ofB_flip (rhG f t z) ((z + rhBy t) % 64) (rhG_fresh f t z hz) 64 (Nat.mod_lt _ (by decide))]
  refine (ofB_congr 64 fun i hi => ?_).symm
  rw [rhG_succ f t z hz i hi]
  by_cases e : i = (z + rhBy t) % 64 <;> simp [e, h]
theorem rhP_lane (f : Nat → Nat) (t z : Nat) (ht : t < 24) : rhP f t z (rhPos t) = ofB (rhG f t z) 64 := by
  obtain ⟨h1, h2⟩ := rhTau_pos t ht
  simp [rhP, h1, h2]
theorem rhP_skip (f : Nat → Nat) (t z : Nat) (hz : z < 64) (h : bitN f (rhXY t).1 (rhXY t).2 z ≠ 1) : stL (rhP f t z) = stL (rhP f t (z + 1)) := stL_congr fun i hi => by
  unfold rhP
  rw [rhG_skip f t z hz h]
theorem rhP_put (f : Nat → Nat) (t z : Nat) (ht : t < 24) (hz : z < 64) (h : bitN f (rhXY t).1 (rhXY t).2 z = 1) :
    (stL (rhP f t z)).set ((rhXY t).1 + 5 * (rhXY t).2) ((rhP f t z ((rhXY t).1 + 5 * (rhXY t).2) + 2 ^ ((z + rhBy t) % 64) : Nat) : Int) = stL (rhP f t (z + 1)) := by
  have hp : (rhXY t).1 + 5 * (rhXY t).2 = rhPos t := rfl
  rw [hp, stL_set]
  refine stL_congr fun i hi => ?_
  by_cases e : i = rhPos t
  · subst e
    simp only [if_true]
    rw [rhP_lane f t z ht, rhP_lane f t (z + 1) ht]
    exact rhG_put f t z hz h
  · simp only [e, if_false]
    unfold rhP
    by_cases h0 : i = 0
    · simp [h0]
    · have h1 : rhTau i ≠ t := by
        intro h2
        exact e (by rw [← h2]; exact ((rhPos_tau i hi h0).2).symm)
      simp [h0, h1]
theorem rhP_room (f : Nat → Nat) (t z : Nat) (ht : t < 24) (hz : z < 64) (h : bitN f (rhXY t).1 (rhXY t).2 z = 1) : rhP f t z ((rhXY t).1 + 5 * (rhXY t).2) + 2 ^ ((z + rhBy t) % 64) < 18446744073709551616 := by
  have hp : (rhXY t).1 + 5 * (rhXY t).2 = rhPos t := rfl
  rw [hp, rhP_lane f t z ht, rhG_put f t z hz h]
  exact ofB_64 _ _ (Nat.le_refl _)

/-! ### The bits of the constants -/
def rcStep (r : List Int) : List Int :=
  [r.getD 7 0 % 2, r.getD 0 0, r.getD 1 0, r.getD 2 0, (r.getD 3 0 + r.getD 7 0) % 2, (r.getD 4 0 + r.getD 7 0) % 2, (r.getD 5 0 + r.getD 7 0) % 2, r.getD 6 0]
def rcS : Nat → List Int
  | 0 => [1, 0, 0, 0, 0, 0, 0, 0]
  | n + 1 => rcStep (rcS n)
theorem rcS_ok : ∀ n, ∃ a b c d e f g h : Int, rcS n = [a, b, c, d, e, f, g, h] ∧ (0 ≤ a ∧ a ≤ 1) ∧ (0 ≤ b ∧ b ≤ 1) ∧ (0 ≤ c ∧ c ≤ 1) ∧ (0 ≤ d ∧ d ≤ 1) ∧ (0 ≤ e ∧ e ≤ 1) ∧ (0 ≤ f ∧ f ≤ 1) ∧ (0 ≤ g ∧ g ≤ 1) ∧ (0 ≤ h ∧ h ≤ 1)
  | 0 => ⟨1, 0, 0, 0, 0, 0, 0, 0, rfl, by decide, by decide, by decide, by decide, by decide, by decide, by decide, by decide⟩
  | n + 1 => by
    obtain ⟨a, b, c, d, e, f, g, h, he, ha, hb, hc, hd, he', hf, hg, hh⟩ := rcS_ok n
    refine ⟨h % 2, a, b, c, (d + h) % 2, (e + h) % 2, (f + h) % 2, g, ?_, by omega, ha, hb, hc, by omega, by omega, by omega, hg⟩
    show rcStep (rcS n) = _
    rw [he]
    rfl
end Go.Proofs.YtfiefohdceokdaaDoor

/- The document's step Iota, rounds, and all rounds: plain mathematics. No program's text is named. -/
namespace Go.Proofs.YtfiefohdceokdaaDoor
set_option linter.unusedSimpArgs false
set_option linter.unusedVariables false

/-- Bit t of the row that makes the constants. -/
def rcB (t : Nat) : Bool := decide ((rcS (t % 255)).getD 0 0 = 1)
def ioT (i J p : Nat) : Bool := (List.range J).any fun j => decide (p = 2 ^ j - 1) && rcB (j + 7 * i)
def ioG (x i J p : Nat) : Bool := Bool.xor (decide (x / 2 ^ p % 2 = 1)) (ioT i J p)
def ioL (x i J : Nat) : Nat := ofB (ioG x i J) 64
def ioF (f : Nat → Nat) (i k : Nat) : Nat := if k = 0 then ioL (f 0) i 7 else f k
def ioP (f : Nat → Nat) (i J k : Nat) : Nat := if k = 0 then ioL (f 0) i J else f k
theorem ioT_zero (i p : Nat) : ioT i 0 p = false := by simp [ioT]
theorem ioT_succ (i J p : Nat) : ioT i (J + 1) p = (ioT i J p || (decide (p = 2 ^ J - 1) && rcB (J + 7 * i))) := by
  simp [ioT, List.range_succ]
theorem ioT_fresh (i J : Nat) : ioT i J (2 ^ J - 1) = false := by
  unfold ioT
  rw [List.any_eq_false]
  intro j hj
  have hjJ := List.mem_range.1 hj
  have h1 := Nat.pow_lt_pow_right (show 1 < 2 by decide) hjJ
  have h2 := Nat.pow_pos (n := j) (show 0 < 2 by decide)
  have h3 : ¬ (2 ^ J - 1 = 2 ^ j - 1) := by omega
  simp [h3]
theorem ioL_zero (x i : Nat) (hx : x < 18446744073709551616) : ioL x i 0 = x := by
  have e := ofB_self x 64
  have h64 : (2 : Nat) ^ 64 = 18446744073709551616 := by decide
  rw [h64, Nat.mod_eq_of_lt hx] at e
  unfold ioL
  rw [← e]
  refine ofB_congr 64 fun p hp => ?_
  unfold ioG
  rw [ioT_zero, Bool.xor_false, e]
theorem ioL_skip (x i J : Nat) (h : rcB (J + 7 * i) = false) : ioL x i J = ioL x i (J + 1) := ofB_congr 64 fun p hp => by
  unfold ioG
  rw [ioT_succ, h]
  simp
theorem pos_lt (J : Nat) (hJ : J ≤ 6) : 2 ^ J - 1 < 64 := by
  have := Nat.pow_le_pow_right (show 0 < 2 by decide) hJ
  have h6 : 2 ^ 6 = 64 := by decide
  omega
theorem ioG_succ (x i J p : Nat) (h : rcB (J + 7 * i) = true) : ioG x i (J + 1) p = if p = 2 ^ J - 1 then !(ioG x i J p) else ioG x i J p := by
  unfold ioG
  rw [ioT_succ, h]
  by_cases e : p = 2 ^ J - 1
  · have hf := ioT_fresh i J
    rw [← e] at hf
    simp [e.symm, hf]
  · simp [e]
theorem ioL_up (x i J : Nat) (hJ : J ≤ 6) (h : rcB (J + 7 * i) = true) (hb : x / 2 ^ (2 ^ J - 1) % 2 = 0) : ioL x i (J + 1) = ioL x i J + 2 ^ (2 ^ J - 1) := by
  have hg : ioG x i J (2 ^ J - 1) = false := by unfold ioG; rw [ioT_fresh, hb]; rfl
  unfold ioL
  rw [← ofB_flip (ioG x i J) (2 ^ J - 1) hg 64 (pos_lt J hJ)]
  refine ofB_congr 64 fun p hp => ?_
  rw [ioG_succ x i J p h]
  by_cases e : p = 2 ^ J - 1
  · rw [if_pos e, if_pos e, e, hg]; rfl
  · rw [if_neg e, if_neg e]
theorem ioL_down (x i J : Nat) (hJ : J ≤ 6) (h : rcB (J + 7 * i) = true) (hb : x / 2 ^ (2 ^ J - 1) % 2 = 1) : ioL x i (J + 1) + 2 ^ (2 ^ J - 1) = ioL x i J := by
  have hg : ioG x i J (2 ^ J - 1) = true := by unfold ioG; rw [ioT_fresh, hb]; rfl
  have hg2 : ioG x i (J + 1) (2 ^ J - 1) = false := by rw [ioG_succ x i J _ h, if_pos rfl, hg]; rfl
  unfold ioL
  rw [← ofB_flip (ioG x i (J + 1)) (2 ^ J - 1) hg2 64 (pos_lt J hJ)]
  refine ofB_congr 64 fun p hp => ?_
  by_cases e : p = 2 ^ J - 1
  · rw [if_pos e, e, hg]
  · rw [if_neg e, ioG_succ x i J p h, if_neg e]
theorem ioL_lt (x i J : Nat) : ioL x i J < 18446744073709551616 := ofB_64 _ _ (Nat.le_refl _)
theorem ioP_zero (f : Nat → Nat) (i : Nat) (h0 : f 0 < 18446744073709551616) : stL f = stL (ioP f i 0) := stL_congr fun k hk => by
  unfold ioP
  by_cases e : k = 0
  · subst e; rw [if_pos rfl, ioL_zero _ _ h0]
  · rw [if_neg e]
theorem ioP_set (f : Nat → Nat) (i J : Nat) : (stL (ioP f i J)).set 0 ((ioL (f 0) i (J + 1) : Nat) : Int) = stL (ioP f i (J + 1)) := by
  rw [stL_set]
  refine stL_congr fun k hk => ?_
  unfold ioP
  by_cases e : k = 0 <;> simp [e]
theorem ioP_skip (f : Nat → Nat) (i J : Nat) (h : rcB (J + 7 * i) = false) : stL (ioP f i J) = stL (ioP f i (J + 1)) := stL_congr fun k hk => by
  unfold ioP
  rw [ioL_skip _ _ _ h]
theorem ioP_done (f : Nat → Nat) (i : Nat) : stL (ioP f i 7) = stL (ioF f i) := rfl

theorem thF_lt (f : Nat → Nat) (i : Nat) : thF f i < 18446744073709551616 := ofB_64 _ _ (Nat.le_refl _)
theorem chF_lt (f : Nat → Nat) (i : Nat) : chF f i < 18446744073709551616 := ofB_64 _ _ (Nat.le_refl _)
theorem rhF_lt (f : Nat → Nat) (hf : ∀ i, f i < 18446744073709551616) (i : Nat) : rhF f i < 18446744073709551616 := by
  unfold rhF
  split
  · exact hf 0
  · exact ofB_64 _ _ (Nat.le_refl _)
theorem piF_lt (f : Nat → Nat) (hf : ∀ i, f i < 18446744073709551616) (i : Nat) : piF f i < 18446744073709551616 := hf _
theorem ioF_lt (f : Nat → Nat) (hf : ∀ i, f i < 18446744073709551616) (j i : Nat) : ioF f j i < 18446744073709551616 := by
  unfold ioF
  split
  · exact ioL_lt _ _ _
  · exact hf i
/-- A round of a state. -/
def rdF (f : Nat → Nat) (i : Nat) : Nat → Nat := ioF (chF (piF (rhF (thF f)))) i
theorem rdF_lt (f : Nat → Nat) (j i : Nat) : rdF f j i < 18446744073709551616 := ioF_lt _ (chF_lt _) _ _
/-- The first n rounds. -/
def rdsF (f : Nat → Nat) : Nat → Nat → Nat
  | 0 => f
  | n + 1 => rdF (rdsF f n) n
theorem rdsF_lt (f : Nat → Nat) (hf : ∀ i, f i < 18446744073709551616) : ∀ n i, rdsF f n i < 18446744073709551616
  | 0, i => hf i
  | n + 1, i => rdF_lt _ _ _
end Go.Proofs.YtfiefohdceokdaaDoor

/- Lane by lane what the document says bit by bit: sums, turned lanes, products of lanes, the constants: plain mathematics. No program's text is named. -/
namespace Go.Proofs.YtfiefohdceokdaaDoor
set_option linter.unusedSimpArgs false
set_option linter.unusedVariables false

/-- Bit z of a number, as a number. -/
def bt (x z : Nat) : Nat := x / 2 ^ z % 2
theorem bt_lt (x z : Nat) : bt x z < 2 := Nat.mod_lt _ (by decide)
theorem bt_test (x z : Nat) : x.testBit z = decide (bt x z = 1) := Nat.testBit_eq_decide_div_mod_eq
theorem bt_of (x z : Nat) : bt x z = (x.testBit z).toNat := by
  rw [bt_test]
  have := bt_lt x z
  have h : bt x z = 0 ∨ bt x z = 1 := by omega
  rcases h with h | h <;> simp [h]
theorem bitN_bt (f : Nat → Nat) (x y z : Nat) : bitN f x y z = bt (f (x + 5 * y)) z := rfl
theorem bt_xor (x y z : Nat) : bt (x ^^^ y) z = (bt x z + bt y z) % 2 := by
  simp only [bt_of, Nat.testBit_xor]
  cases x.testBit z <;> cases y.testBit z <;> rfl
theorem bt_and (x y z : Nat) : bt (x &&& y) z = bt x z * bt y z := by
  simp only [bt_of, Nat.testBit_and]
  cases x.testBit z <;> cases y.testBit z <;> rfl
theorem ext64 {x y : Nat} (hx : x < 18446744073709551616) (hy : y < 18446744073709551616) (h : ∀ z, z < 64 → bt x z = bt y z) : x = y := lanes_ext hx hy h
theorem xor_lt64 {x y : Nat} (hx : x < 18446744073709551616) (hy : y < 18446744073709551616) : x ^^^ y < 18446744073709551616 := by
  have h64 : (2 : Nat) ^ 64 = 18446744073709551616 := by decide
  rw [← h64] at *
  exact Nat.xor_lt_two_pow hx hy

/-! ### A lane that is turned -/
def rotN (x n : Nat) : Nat := x * 2 ^ n % 18446744073709551616 + x / 2 ^ (64 - n)
theorem rotN_bit (x n z : Nat) (hx : x < 18446744073709551616) (hn : n < 64) (hn0 : 0 < n) (hz : z < 64) : bt (rotN x n) z = bt x ((z + 64 - n) % 64) := by
  have h64 : (18446744073709551616 : Nat) = 2 ^ n * 2 ^ (64 - n) := by rw [← Nat.pow_add, show n + (64 - n) = 64 by omega]
  have hB : x / 2 ^ (64 - n) < 2 ^ n := by
    refine Nat.div_lt_of_lt_mul ?_
    rw [Nat.mul_comm, ← h64]
    exact hx
  have e1 : rotN x n = 2 ^ n * (x % 2 ^ (64 - n)) + x / 2 ^ (64 - n) := by
    unfold rotN
    rw [h64, Nat.mul_comm x, Nat.mul_mod_mul_left]
  rw [e1]
  by_cases h : z < n
  · have hz2 : (z + 64 - n) % 64 = 64 - n + z := by omega
    rw [hz2]
    unfold bt
    obtain ⟨d, hd⟩ : ∃ d, n = z + (d + 1) := ⟨n - z - 1, by omega⟩
    have e2 : 2 ^ n * (x % 2 ^ (64 - n)) = 2 ^ z * (2 * (2 ^ d * (x % 2 ^ (64 - n)))) := by
      rw [hd, Nat.pow_add, Nat.pow_succ]
      ac_rfl
    rw [e2, Nat.add_comm, Nat.add_mul_div_left _ _ (Nat.pow_pos (by decide)), Nat.add_mul_mod_self_left, Nat.div_div_eq_div_mul, ← Nat.pow_add]
  · have hz2 : (z + 64 - n) % 64 = z - n := by omega
    rw [hz2]
    have e3 : (2 ^ n * (x % 2 ^ (64 - n)) + x / 2 ^ (64 - n)) / 2 ^ z = x % 2 ^ (64 - n) / 2 ^ (z - n) := by
      obtain ⟨d, hd⟩ : ∃ d, z = n + d := ⟨z - n, by omega⟩
      rw [hd, Nat.pow_add, ← Nat.div_div_eq_div_mul, Nat.mul_add_div (Nat.pow_pos (by decide)), Nat.div_eq_of_lt hB, Nat.add_zero, Nat.add_sub_cancel_left]
    have e4 : bt (x % 2 ^ (64 - n)) (z - n) = bt x (z - n) := by
      rw [bt_of, bt_of, Nat.testBit_mod_two_pow]
      simp [show z - n < 64 - n by omega]
    unfold bt at e4 ⊢
    rw [e3]
    exact e4
theorem rotN_lt (x n : Nat) (hx : x < 18446744073709551616) (hn : n < 64) : rotN x n < 18446744073709551616 := by
  have h64 : (18446744073709551616 : Nat) = 2 ^ n * 2 ^ (64 - n) := by rw [← Nat.pow_add, show n + (64 - n) = 64 by omega]
  have hB : x / 2 ^ (64 - n) < 2 ^ n := by
    refine Nat.div_lt_of_lt_mul ?_
    rw [Nat.mul_comm, ← h64]
    exact hx
  have e1 : rotN x n = 2 ^ n * (x % 2 ^ (64 - n)) + x / 2 ^ (64 - n) := by
    unfold rotN
    rw [h64, Nat.mul_comm x, Nat.mul_mod_mul_left]
  have h2 : x % 2 ^ (64 - n) + 1 ≤ 2 ^ (64 - n) := Nat.mod_lt _ (Nat.pow_pos (by decide))
  have h3 := Nat.mul_le_mul_left (2 ^ n) h2
  rw [← h64, Nat.mul_add] at h3
  omega
/-- Turned by n, 0 too. -/
def turnN (x n : Nat) : Nat := if n = 0 then x else rotN x n
theorem turnN_bit (x n z : Nat) (hx : x < 18446744073709551616) (hn : n < 64) (hz : z < 64) : bt (turnN x n) z = bt x ((z + 64 - n) % 64) := by
  unfold turnN
  split
  · rename_i h; subst h; rw [show (z + 64 - 0) % 64 = z by omega]
  · exact rotN_bit x n z hx hn (by omega) hz
theorem turnN_lt (x n : Nat) (hx : x < 18446744073709551616) (hn : n < 64) : turnN x n < 18446744073709551616 := by
  unfold turnN
  split
  · exact hx
  · exact rotN_lt x n hx hn

/-! ### Theta, lane by lane -/
def colN (f : Nat → Nat) (x : Nat) : Nat := f x ^^^ f (x + 5) ^^^ f (x + 10) ^^^ f (x + 15) ^^^ f (x + 20)
def thL (f : Nat → Nat) (k : Nat) : Nat := f k ^^^ colN f ((k % 5 + 4) % 5) ^^^ turnN (colN f ((k % 5 + 1) % 5)) 1
theorem colN_lt (f : Nat → Nat) (hf : ∀ i, f i < 18446744073709551616) (x : Nat) : colN f x < 18446744073709551616 :=
  xor_lt64 (xor_lt64 (xor_lt64 (xor_lt64 (hf _) (hf _)) (hf _)) (hf _)) (hf _)
theorem colN_bit (f : Nat → Nat) (x z : Nat) : bt (colN f x) z = (bitN f x 0 z + bitN f x 1 z + bitN f x 2 z + bitN f x 3 z + bitN f x 4 z) % 2 := by
  unfold colN
  simp only [bt_xor, bitN_bt]
  simp only [Nat.mul_zero, Nat.add_zero, Nat.mul_one, show 5 * 2 = 10 from rfl, show 5 * 3 = 15 from rfl, show 5 * 4 = 20 from rfl]
  omega
theorem thL_lt (f : Nat → Nat) (hf : ∀ i, f i < 18446744073709551616) (k : Nat) : thL f k < 18446744073709551616 :=
  xor_lt64 (xor_lt64 (hf _) (colN_lt f hf _)) (turnN_lt _ _ (colN_lt f hf _) (by decide))
theorem ofB_bt (g : Nat → Bool) (z : Nat) (hz : z < 64) : bt (ofB g 64) z = if g z then 1 else 0 := ofB_bit g 64 z hz
theorem if_odd (n : Nat) (b : Bool) (h : b = decide (n % 2 = 1)) : (if b then 1 else 0) = n % 2 := by
  subst h
  have := Nat.mod_two_eq_zero_or_one n
  rcases this with h | h <;> simp [h]
theorem thL_eq (f : Nat → Nat) (hf : ∀ i, f i < 18446744073709551616) (k : Nat) (hk : k < 25) : thL f k = thF f k := by
  refine ext64 (thL_lt f hf k) (thF_lt f k) fun z hz => ?_
  unfold thL thF
  rw [bt_xor, bt_xor, turnN_bit _ _ _ (colN_lt f hf _) (by decide) hz, colN_bit, colN_bit, ofB_bt _ _ hz, if_odd (thN f (k % 5) z 5 + bitN f (k % 5) (k / 5) z) (thB f (k % 5) (k / 5) z) rfl]
  simp only [thN]
  have e : k % 5 + 5 * (k / 5) = k := by omega
  rw [show bt (f k) z = bitN f (k % 5) (k / 5) z from by rw [bitN_bt, e]]
  rw [show (z + 64 - 1) % 64 = (z + 63) % 64 by omega]
  omega

/-! ### Rho, lane by lane -/
def rhL (f : Nat → Nat) (i : Nat) : Nat := if i = 0 then f 0 else turnN (f i) (rhBy (rhTau i))
theorem rhL_lt (f : Nat → Nat) (hf : ∀ i, f i < 18446744073709551616) (k : Nat) : rhL f k < 18446744073709551616 := by
  unfold rhL
  split
  · exact hf 0
  · exact turnN_lt _ _ (hf _) (rhBy_lt _)
theorem rhL_eq (f : Nat → Nat) (hf : ∀ i, f i < 18446744073709551616) (k : Nat) (hk : k < 25) : rhL f k = rhF f k := by
  unfold rhL rhF
  split
  · rfl
  · rename_i h0
    refine ext64 (turnN_lt _ _ (hf _) (rhBy_lt _)) (ofB_64 _ _ (Nat.le_refl _)) fun z hz => ?_
    obtain ⟨h1, h2⟩ := rhPos_tau k hk h0
    rw [turnN_bit _ _ _ (hf _) (rhBy_lt _) hz, ofB_bt _ _ hz]
    unfold rhG
    rw [bitN_bt, show (rhXY (rhTau k)).1 + 5 * (rhXY (rhTau k)).2 = k from h2]
    have hlt : (z + 64 - rhBy (rhTau k)) % 64 < 64 := Nat.mod_lt _ (by decide)
    have hb := bt_lt (f k) ((z + 64 - rhBy (rhTau k)) % 64)
    have hc : bt (f k) ((z + 64 - rhBy (rhTau k)) % 64) = 0 ∨ bt (f k) ((z + 64 - rhBy (rhTau k)) % 64) = 1 := by omega
    rcases hc with hc | hc <;> simp [hlt, hc]

/-! ### Chi, lane by lane -/
theorem sub_and (x y : Nat) : x - (x &&& y) = x ^^^ (x &&& y) := by
  have h : (x ^^^ (x &&& y)) + (x &&& y) = x := by
    have hle : x < 2 ^ (x + 1) := Nat.lt_of_lt_of_le Nat.lt_two_pow_self (Nat.pow_le_pow_right (by decide) (by omega))
    have ha : x &&& y < 2 ^ (x + 1) := Nat.lt_of_le_of_lt Nat.and_le_left hle
    have hx : x ^^^ (x &&& y) < 2 ^ (x + 1) := Nat.xor_lt_two_pow hle ha
    have e0 : BitVec.ofNat (x + 1) (x ^^^ (x &&& y)) &&& BitVec.ofNat (x + 1) (x &&& y) = 0#(x + 1) := by
      apply BitVec.eq_of_getLsbD_eq
      intro i hi
      simp only [BitVec.getLsbD_and, BitVec.getLsbD_ofNat, Nat.testBit_xor, Nat.testBit_and, BitVec.getLsbD_zero]
      cases x.testBit i <;> cases y.testBit i <;> simp
    have e1 := BitVec.add_eq_or_of_and_eq_zero _ _ e0
    have e2 := congrArg BitVec.toNat e1
    rw [BitVec.toNat_add, BitVec.toNat_or, BitVec.toNat_ofNat, BitVec.toNat_ofNat, Nat.mod_eq_of_lt hx, Nat.mod_eq_of_lt ha] at e2
    have e3 : (x ^^^ (x &&& y)) ||| (x &&& y) = x := by
      apply Nat.eq_of_testBit_eq
      intro i
      simp only [Nat.testBit_or, Nat.testBit_xor, Nat.testBit_and]
      cases x.testBit i <;> cases y.testBit i <;> rfl
    rw [e3] at e2
    have hx2 : (x ^^^ (x &&& y)) ≤ x := by
      have := Nat.mod_le ((x ^^^ (x &&& y)) + (x &&& y)) (2 ^ (x + 1))
      have h1 : (x ^^^ (x &&& y)) ||| (x &&& y) = x := e3
      have h2 : (x ^^^ (x &&& y)) ≤ (x ^^^ (x &&& y)) ||| (x &&& y) := Nat.left_le_or
      omega
    have hsum : (x ^^^ (x &&& y)) + (x &&& y) < 2 ^ (x + 1) := by
      have h1 : x &&& y ≤ x := Nat.and_le_left
      have h2 : 2 * x < 2 ^ (x + 1) := by rw [Nat.pow_succ]; have := @Nat.lt_two_pow_self x; omega
      omega
    rwa [Nat.mod_eq_of_lt hsum] at e2
  omega
def chL (f : Nat → Nat) (k : Nat) : Nat := f k ^^^ (f (k - k % 5 + (k % 5 + 2) % 5) - (f (k - k % 5 + (k % 5 + 2) % 5) &&& f (k - k % 5 + (k % 5 + 1) % 5)))
theorem chL_lt (f : Nat → Nat) (hf : ∀ i, f i < 18446744073709551616) (k : Nat) : chL f k < 18446744073709551616 :=
  xor_lt64 (hf _) (Nat.lt_of_le_of_lt (Nat.sub_le _ _) (hf _))
theorem chL_eq (f : Nat → Nat) (hf : ∀ i, f i < 18446744073709551616) (k : Nat) (hk : k < 25) : chL f k = chF f k := by
  refine ext64 (chL_lt f hf k) (chF_lt f k) fun z hz => ?_
  unfold chL chF
  rw [bt_xor, sub_and, bt_xor, bt_and, ofB_bt _ _ hz]
  unfold chB
  have e0 : k % 5 + 5 * (k / 5) = k := by omega
  have e1 : k - k % 5 + (k % 5 + 1) % 5 = (k % 5 + 1) % 5 + 5 * (k / 5) := by omega
  have e2 : k - k % 5 + (k % 5 + 2) % 5 = (k % 5 + 2) % 5 + 5 * (k / 5) := by omega
  rw [e1, e2, bitN_bt, bitN_bt, bitN_bt, e0]
  have h0 := bt_lt (f k) z
  have h1 := bt_lt (f ((k % 5 + 1) % 5 + 5 * (k / 5))) z
  have h2 := bt_lt (f ((k % 5 + 2) % 5 + 5 * (k / 5))) z
  generalize bt (f k) z = a at *
  generalize bt (f ((k % 5 + 1) % 5 + 5 * (k / 5))) z = b at *
  generalize bt (f ((k % 5 + 2) % 5 + 5 * (k / 5))) z = c at *
  have ha : a = 0 ∨ a = 1 := by omega
  have hb : b = 0 ∨ b = 1 := by omega
  have hc : c = 0 ∨ c = 1 := by omega
  rcases ha with rfl | rfl <;> rcases hb with rfl | rfl <;> rcases hc with rfl | rfl <;> decide
end Go.Proofs.YtfiefohdceokdaaDoor

/- The constants of the rounds, and rounds lane by lane: plain mathematics. No program's text is named. -/
namespace Go.Proofs.YtfiefohdceokdaaDoor
set_option linter.unusedSimpArgs false
set_option linter.unusedVariables false

/-- What is added in each round. -/
def kst : List Nat := [0x0000000000000001, 0x0000000000008082, 0x800000000000808a, 0x8000000080008000, 0x000000000000808b, 0x0000000080000001, 0x8000000080008081, 0x8000000000008009,
  0x000000000000008a, 0x0000000000000088, 0x0000000080008009, 0x000000008000000a, 0x000000008000808b, 0x800000000000008b, 0x8000000000008089, 0x8000000000008003,
  0x8000000000008002, 0x8000000000000080, 0x000000000000800a, 0x800000008000000a, 0x8000000080008081, 0x8000000000008080, 0x0000000080000001, 0x8000000080008008]
theorem kst_eq : ∀ i, i < 24 → ofB (ioT i 7) 64 = kst.getD i 0 := by decide +kernel
theorem kst_lt : ∀ i, i < 24 → kst.getD i 0 < 18446744073709551616 := by decide
theorem ioL_xor (x i : Nat) (hx : x < 18446744073709551616) (hi : i < 24) : ioL x i 7 = x ^^^ kst.getD i 0 := by
  rw [← kst_eq i hi]
  refine ext64 (ioL_lt _ _ _) (xor_lt64 hx (ofB_64 _ _ (Nat.le_refl _))) fun z hz => ?_
  unfold ioL
  rw [bt_xor, ofB_bt _ _ hz, ofB_bt _ _ hz]
  unfold ioG
  have hb := bt_lt x z
  have hc : bt x z = 0 ∨ bt x z = 1 := by omega
  rw [show x / 2 ^ z % 2 = bt x z from rfl]
  rcases hc with hc | hc <;> cases ioT i 7 z <;> simp [hc]

/-! ### Only the 25 lanes count -/
theorem bitN_congr {f g : Nat → Nat} (h : ∀ i, i < 25 → f i = g i) (x y z : Nat) (hx : x < 5) (hy : y < 5) : bitN f x y z = bitN g x y z := by
  unfold bitN
  rw [h _ (by omega)]
theorem thN_congr {f g : Nat → Nat} (h : ∀ i, i < 25 → f i = g i) (x z : Nat) : ∀ Y, Y ≤ 5 → thN f x z Y = thN g x z Y
  | 0, _ => rfl
  | Y + 1, hY => by
    unfold thN
    rw [thN_congr h x z Y (by omega), bitN_congr h _ Y z (by omega) (by omega), bitN_congr h _ Y _ (by omega) (by omega)]
theorem thF_congr {f g : Nat → Nat} (h : ∀ i, i < 25 → f i = g i) (k : Nat) (hk : k < 25) : thF f k = thF g k := by
  unfold thF
  refine ofB_congr 64 fun z hz => ?_
  unfold thB
  rw [thN_congr h _ z 5 (Nat.le_refl _), bitN_congr h _ _ z (by omega) (by omega)]
theorem rhF_congr {f g : Nat → Nat} (h : ∀ i, i < 25 → f i = g i) (k : Nat) (hk : k < 25) : rhF f k = rhF g k := by
  unfold rhF
  split
  · exact h 0 (by omega)
  · rename_i h0
    refine ofB_congr 64 fun z hz => ?_
    unfold rhG
    have hxy := rhXY_lt (rhTau k) (by have := (rhPos_tau k hk h0).1; omega)
    rw [bitN_congr h _ _ _ hxy.1 hxy.2]
theorem piF_congr {f g : Nat → Nat} (h : ∀ i, i < 25 → f i = g i) (k : Nat) (hk : k < 25) : piF f k = piF g k := h _ (by omega)
theorem chF_congr {f g : Nat → Nat} (h : ∀ i, i < 25 → f i = g i) (k : Nat) (hk : k < 25) : chF f k = chF g k := by
  unfold chF
  refine ofB_congr 64 fun z hz => ?_
  unfold chB
  rw [bitN_congr h _ _ z (by omega) (by omega), bitN_congr h ((k % 5 + 1) % 5) _ z (by omega) (by omega), bitN_congr h ((k % 5 + 2) % 5) _ z (by omega) (by omega)]
theorem ioF_congr {f g : Nat → Nat} (h : ∀ i, i < 25 → f i = g i) (i k : Nat) (hk : k < 25) : ioF f i k = ioF g i k := by
  unfold ioF
  split
  · rw [h 0 (by omega)]
  · exact h k hk
theorem rdF_congr {f g : Nat → Nat} (h : ∀ i, i < 25 → f i = g i) (i k : Nat) (hk : k < 25) : rdF f i k = rdF g i k :=
  ioF_congr (fun _ h4 => chF_congr (fun _ h3 => piF_congr (fun _ h2 => rhF_congr (fun _ h1 => thF_congr h _ h1) _ h2) _ h3) _ h4) i k hk
theorem rdsF_congr {f g : Nat → Nat} (h : ∀ i, i < 25 → f i = g i) : ∀ n k, k < 25 → rdsF f n k = rdsF g n k
  | 0, k, hk => h k hk
  | n + 1, k, hk => rdF_congr (rdsF_congr h n) n k hk

/-! ### A round, lane by lane -/
def ioK (f : Nat → Nat) (i k : Nat) : Nat := if k = 0 then f 0 ^^^ kst.getD i 0 else f k
def rdL (f : Nat → Nat) (i : Nat) : Nat → Nat := ioK (chL (piF (rhL (thL f)))) i
theorem rdL_eq (f : Nat → Nat) (hf : ∀ i, f i < 18446744073709551616) (i : Nat) (hi : i < 24) (k : Nat) (hk : k < 25) : rdL f i k = rdF f i k := by
  have h1 : ∀ j, j < 25 → thL f j = thF f j := fun j hj => thL_eq f hf j hj
  have h2 : ∀ j, j < 25 → rhL (thL f) j = rhF (thF f) j := fun j hj => (rhL_eq _ (thL_lt f hf) j hj).trans (rhF_congr h1 j hj)
  have h3 : ∀ j, j < 25 → piF (rhL (thL f)) j = piF (rhF (thF f)) j := fun j hj => piF_congr h2 j hj
  have h4 : ∀ j, j < 25 → chL (piF (rhL (thL f))) j = chF (piF (rhF (thF f))) j := fun j hj =>
    (chL_eq _ (piF_lt _ (rhL_lt _ (thL_lt f hf))) j hj).trans (chF_congr h3 j hj)
  unfold rdL rdF ioK ioF
  by_cases e : k = 0
  · rw [if_pos e, if_pos e, ioL_xor _ _ (chF_lt _ _) hi, h4 0 (by omega)]
  · rw [if_neg e, if_neg e, h4 k hk]
theorem rdL_lt (f : Nat → Nat) (hf : ∀ i, f i < 18446744073709551616) (i : Nat) (hi : i < 24) (k : Nat) : rdL f i k < 18446744073709551616 := by
  unfold rdL ioK
  have h := chL_lt _ (piF_lt _ (rhL_lt _ (thL_lt f hf)))
  split
  · exact xor_lt64 (h 0) (kst_lt i hi)
  · exact h k
/-- The first n rounds, lane by lane. -/
def rdsL (f : Nat → Nat) : Nat → Nat → Nat
  | 0 => f
  | n + 1 => rdL (rdsL f n) n
theorem rdsL_lt (f : Nat → Nat) (hf : ∀ i, f i < 18446744073709551616) : ∀ n, n ≤ 24 → ∀ k, rdsL f n k < 18446744073709551616
  | 0, _, k => hf k
  | n + 1, hn, k => rdL_lt _ (rdsL_lt f hf n (by omega)) n (by omega) k
theorem rdsL_eq (f : Nat → Nat) (hf : ∀ i, f i < 18446744073709551616) : ∀ n, n ≤ 24 → ∀ k, k < 25 → rdsL f n k = rdsF f n k
  | 0, _, _, _ => rfl
  | n + 1, hn, k, hk => (rdL_eq _ (rdsL_lt f hf n (by omega)) n (by omega) k hk).trans (rdF_congr (rdsL_eq f hf n (by omega)) n k hk)
theorem rdsL_st (f : Nat → Nat) (hf : ∀ i, f i < 18446744073709551616) : stL (rdsL f 24) = stL (rdsF f 24) := stL_congr fun k hk => rdsL_eq f hf 24 (Nat.le_refl _) k hk
end Go.Proofs.YtfiefohdceokdaaDoor

/- The loops of all rounds lane by lane, as far as they have come: plain mathematics. No program's text is named. -/
namespace Go.Proofs.YtfiefohdceokdaaDoor
set_option linter.unusedSimpArgs false
set_option linter.unusedVariables false

/-! ### Sums of columns -/
def cP (f : Nat → Nat) (X : Nat) : List Int := (List.range 5).map fun x => ((if x < X then colN f x else 0 : Nat) : Int)
theorem cP_length (f : Nat → Nat) (X : Nat) : (cP f X).length = 5 := by simp [cP]
theorem cP_zero (f : Nat → Nat) : List.replicate 5 (0 : Int) = cP f 0 := by simp [cP, List.range_succ, List.replicate]
theorem cP_set (f : Nat → Nat) (X : Nat) : (cP f X).set X ((colN f X : Nat) : Int) = cP f (X + 1) := by
  refine List.ext_getElem (by simp [cP]) fun i h1 h2 => ?_
  simp only [cP, List.getElem_set, List.getElem_map, List.getElem_range]
  by_cases e : X = i
  · subst e; simp
  · have : (i < X + 1) ↔ i < X := by omega
    simp [e, this]
theorem cP_get (f : Nat → Nat) (i : Nat) (hi : i < 5) : (cP f 5).getD i 0 = ((colN f i : Nat) : Int) := by
  simp [cP, hi]

/-! ### Lanes that are replaced one after the other -/
def upQ (f g : Nat → Nat) (K i : Nat) : Nat := if i < K then g i else f i
theorem upQ_zero (f g : Nat → Nat) : stL f = stL (upQ f g 0) := stL_congr fun i hi => by simp [upQ]
theorem upQ_done (f g : Nat → Nat) : stL (upQ f g 25) = stL g := stL_congr fun i hi => by simp [upQ, hi]
theorem upQ_set (f g : Nat → Nat) (K : Nat) : (stL (upQ f g K)).set K ((g K : Nat) : Int) = stL (upQ f g (K + 1)) := by
  rw [stL_set]
  refine stL_congr fun i hi => ?_
  unfold upQ
  by_cases e : i = K
  · subst e; simp
  · have : (i < K + 1) ↔ i < K := by omega
    simp [e, this]
theorem upQ_get (f g : Nat → Nat) (K : Nat) : upQ f g K K = f K := by simp [upQ]

/-! ### Turned and put elsewhere -/
def ppQ (f : Nat → Nat) (T i : Nat) : Nat := if i = 0 then f 0 else if (List.range T).any (fun t => rhPos (t + 1) == i) then piF (rhL f) i else 0
theorem ppQ_zero (f : Nat → Nat) : (stL (fun _ => 0)).set 0 ((f 0 : Nat) : Int) = stL (ppQ f 0) := by
  rw [stL_set]
  exact stL_congr fun i hi => by by_cases e : i = 0 <;> simp [ppQ, e]
theorem pp_all : ∀ i, i < 25 → i ≠ 0 → (List.range 24).any (fun t => rhPos (t + 1) == i) = true := by decide
theorem ppQ_done (f : Nat → Nat) : stL (ppQ f 24) = stL (piF (rhL f)) := stL_congr fun i hi => by
  unfold ppQ
  by_cases e : i = 0
  · subst e; simp [piF, rhL]
  · rw [if_neg e, if_pos (pp_all i hi e)]
theorem pp_from : ∀ T, T < 24 → (rhPos (T + 1) % 5 + 3 * (rhPos (T + 1) / 5)) % 5 + 5 * (rhPos (T + 1) % 5) = rhPos T ∧ rhPos (T + 1) ≠ 0 ∧ rhPos T ≠ 0 ∧ rhTau (rhPos T) = T ∧ rhPos T < 25 ∧ rhPos (T + 1) < 25 := by decide
theorem ppQ_val (f : Nat → Nat) (T : Nat) (hT : T < 24) : piF (rhL f) (rhPos (T + 1)) = turnN (f (rhPos T)) (rhBy T) := by
  obtain ⟨h1, h2, h3, h4, _⟩ := pp_from T hT
  unfold piF
  rw [h1]
  unfold rhL
  rw [if_neg h3, h4]
theorem ppQ_set (f : Nat → Nat) (T : Nat) (hT : T < 24) : (stL (ppQ f T)).set (rhPos (T + 1)) ((turnN (f (rhPos T)) (rhBy T) : Nat) : Int) = stL (ppQ f (T + 1)) := by
  obtain ⟨h1, h2, h3, h4, _⟩ := pp_from T hT
  rw [← ppQ_val f T hT, stL_set]
  refine stL_congr fun i hi => ?_
  unfold ppQ
  by_cases e : i = rhPos (T + 1)
  · subst e
    have : (List.range (T + 1)).any (fun t => rhPos (t + 1) == rhPos (T + 1)) = true := by
      rw [List.any_eq_true]
      exact ⟨T, List.mem_range.2 (by omega), by simp⟩
    simp [h2, this]
  · have : (List.range (T + 1)).any (fun t => rhPos (t + 1) == i) = (List.range T).any (fun t => rhPos (t + 1) == i) := by
      rw [List.range_succ, List.any_append]
      simp [Ne.symm e]
    simp [e, this]

/-! ### Numbers of 64 bits -/
theorem xorI (a b : Nat) (ha : a < 18446744073709551616) (hb : b < 18446744073709551616) : bits .xor .u64 (a : Int) (b : Int) = ((a ^^^ b : Nat) : Int) := u64_xor_nat a b ha hb
theorem andI (a b : Nat) (ha : a < 18446744073709551616) (hb : b < 18446744073709551616) : bits .and .u64 (a : Int) (b : Int) = ((a &&& b : Nat) : Int) := u64_and_nat a b ha hb
theorem colI (f : Nat → Nat) (hf : ∀ i, f i < 18446744073709551616) (x : Nat) :
    bits .xor .u64 (bits .xor .u64 (bits .xor .u64 (bits .xor .u64 ((f x : Nat) : Int) ((f (x + 5) : Nat) : Int)) ((f (x + 10) : Nat) : Int)) ((f (x + 15) : Nat) : Int)) ((f (x + 20) : Nat) : Int) = ((colN f x : Nat) : Int) := by
  rw [xorI _ _ (hf _) (hf _), xorI _ _ (xor_lt64 (hf _) (hf _)) (hf _), xorI _ _ (xor_lt64 (xor_lt64 (hf _) (hf _)) (hf _)) (hf _), xorI _ _ (xor_lt64 (xor_lt64 (xor_lt64 (hf _) (hf _)) (hf _)) (hf _)) (hf _)]
  rfl
theorem thI (f : Nat → Nat) (hf : ∀ i, f i < 18446744073709551616) (k : Nat) :
    bits .xor .u64 (bits .xor .u64 ((f k : Nat) : Int) ((colN f ((k % 5 + 4) % 5) : Nat) : Int)) ((turnN (colN f ((k % 5 + 1) % 5)) 1 : Nat) : Int) = ((thL f k : Nat) : Int) := by
  rw [xorI _ _ (hf _) (colN_lt f hf _), xorI _ _ (xor_lt64 (hf _) (colN_lt f hf _)) (turnN_lt _ _ (colN_lt f hf _) (by decide))]
  rfl
theorem chI (f : Nat → Nat) (hf : ∀ i, f i < 18446744073709551616) (k : Nat) :
    bits .xor .u64 ((f k : Nat) : Int) (IntKind.u64.wrap (((f (k - k % 5 + (k % 5 + 2) % 5) : Nat) : Int) - bits .and .u64 ((f (k - k % 5 + (k % 5 + 2) % 5) : Nat) : Int) ((f (k - k % 5 + (k % 5 + 1) % 5) : Nat) : Int))) = ((chL f k : Nat) : Int) := by
  rw [andI _ _ (hf _) (hf _), IntKind.wrap_u64]
  have h1 := hf (k - k % 5 + (k % 5 + 2) % 5)
  have h2 : f (k - k % 5 + (k % 5 + 2) % 5) &&& f (k - k % 5 + (k % 5 + 1) % 5) ≤ f (k - k % 5 + (k % 5 + 2) % 5) := Nat.and_le_left
  have e : (((f (k - k % 5 + (k % 5 + 2) % 5) : Nat) : Int) - ((f (k - k % 5 + (k % 5 + 2) % 5) &&& f (k - k % 5 + (k % 5 + 1) % 5) : Nat) : Int)) % 18446744073709551616 =
      ((f (k - k % 5 + (k % 5 + 2) % 5) - (f (k - k % 5 + (k % 5 + 2) % 5) &&& f (k - k % 5 + (k % 5 + 1) % 5)) : Nat) : Int) := by omega
  rw [e, xorI _ _ (hf _) (Nat.lt_of_le_of_lt (Nat.sub_le _ _) h1)]
  rfl
theorem ioKI (f : Nat → Nat) (i : Nat) : (stL f).set 0 ((f 0 ^^^ kst.getD i 0 : Nat) : Int) = stL (ioK f i) := by
  rw [stL_set]
  exact stL_congr fun k hk => by by_cases e : k = 0 <;> simp [ioK, e]
end Go.Proofs.YtfiefohdceokdaaDoor

/- A state's bytes, bytes' state, bytes that are padded and taken in, and what comes out without end: plain mathematics. No program's text is named. -/
namespace Go.Proofs.YtfiefohdceokdaaDoor
set_option linter.unusedSimpArgs false
set_option linter.unusedVariables false

/-! ### A state's bytes -/
def byF (f : Nat → Nat) (k : Nat) : UInt8 := stB (f (k / 8)) (k % 8)
def bsP (f : Nat → Nat) (n : Nat) : List UInt8 := (List.range n).map (byF f)
theorem bsP_length (f : Nat → Nat) (n : Nat) : (bsP f n).length = n := by simp [bsP]
theorem bsP_next (f : Nat → Nat) (i : Nat) : bsP f (8 * i) ++ (List.range 8).map (stB (f i)) = bsP f (8 * (i + 1)) := by
  unfold bsP
  rw [show 8 * (i + 1) = 8 * i + 8 by omega, List.range_add, List.map_append, List.map_map]
  congr 1
  refine List.map_congr_left fun t ht => ?_
  have := List.mem_range.1 ht
  simp only [Function.comp, byF]
  rw [show (8 * i + t) / 8 = i by omega, show (8 * i + t) % 8 = t by omega]
theorem bsP_get (f : Nat → Nat) (n k : Nat) (hk : k < n) : (bsP f n).getD k 0 = byF f k := by simp [bsP, hk]

/-! ### Bytes' state -/
def stF (l : List UInt8) (i : Nat) : Nat := leN ((l.drop (8 * i)).take 8)
theorem stF_lt (l : List UInt8) (i : Nat) : stF l i < 18446744073709551616 := by
  unfold stF
  exact leN_take_lt _ 8 (Nat.le_refl _)
def stP (l : List UInt8) (n : Nat) : List Int := (List.range n).map fun i => ((stF l i : Nat) : Int)
theorem stP_next (l : List UInt8) (n : Nat) : stP l n ++ [((stF l n : Nat) : Int)] = stP l (n + 1) := by
  unfold stP
  rw [List.range_succ, List.map_append]
  rfl
theorem stP_length (l : List UInt8) (n : Nat) : (stP l n).length = n := by simp [stP]
theorem stP_done (l : List UInt8) : stP l 25 = stL (stF l) := rfl

/-! ### One byte laid over another, as far as that has come -/
def xhP (s p : List UInt8) (i K : Nat) : List UInt8 := (List.range 200).map fun k => if k < K then s.getD k 0 ^^^ p.getD (i + k) 0 else s.getD k 0
theorem xhP_length (s p : List UInt8) (i K : Nat) : (xhP s p i K).length = 200 := by simp [xhP]
theorem xhP_zero (s p : List UInt8) (i : Nat) (hs : s.length = 200) : s = xhP s p i 0 := by
  refine List.ext_getElem (by simp [xhP, hs]) fun k h1 h2 => ?_
  simp [xhP, h1]
theorem xhP_get (s p : List UInt8) (i K : Nat) (hK : K < 200) : (xhP s p i K).getD K 0 = s.getD K 0 := by simp [xhP, hK]
theorem xhP_set (s p : List UInt8) (i K : Nat) : (xhP s p i K).set K (s.getD K 0 ^^^ p.getD (i + K) 0) = xhP s p i (K + 1) := by
  refine List.ext_getElem (by simp [xhP]) fun k h1 h2 => ?_
  simp only [xhP, List.getElem_set, List.getElem_map, List.getElem_range]
  by_cases e : K = k
  · subst e; simp
  · have : (k < K + 1) ↔ k < K := by omega
    simp [e, this]

/-! ### Padded bytes -/
/-- How many noughts stand behind the suffix. -/
def zN (r n : Nat) : Nat := (r - (n + 1) % r) % r
theorem zN_full (r n : Nat) (hr : 0 < r) : (n + 1 + zN r n) % r = 0 := by
  unfold zN
  have h1 : (n + 1) % r < r := Nat.mod_lt _ hr
  by_cases h : (n + 1) % r = 0
  · rw [h, Nat.sub_zero, Nat.mod_self, Nat.add_zero, h]
  · rw [Nat.mod_eq_of_lt (by omega : r - (n + 1) % r < r)]
    have h2 := Nat.div_add_mod (n + 1) r
    have h3 : n + 1 + (r - (n + 1) % r) = r * ((n + 1) / r + 1) := by rw [Nat.mul_add, Nat.mul_one]; omega
    rw [h3, Nat.mul_mod_right]
theorem zN_least (r n z : Nat) (hr : 0 < r) (hz : z < zN r n) : (n + 1 + z) % r ≠ 0 := by
  unfold zN at hz
  have h1 : (n + 1) % r < r := Nat.mod_lt _ hr
  by_cases h : (n + 1) % r = 0
  · rw [h, Nat.sub_zero, Nat.mod_self] at hz
    omega
  · rw [Nat.mod_eq_of_lt (by omega : r - (n + 1) % r < r)] at hz
    have h2 := Nat.div_add_mod (n + 1) r
    have h3 : n + 1 + z = r * ((n + 1) / r) + ((n + 1) % r + z) := by omega
    rw [h3, Nat.mul_add_mod, Nat.mod_eq_of_lt (by omega)]
    omega
theorem zN_lt (r n : Nat) (hr : 0 < r) : zN r n < r := Nat.mod_lt _ hr
/-- Padded, but for the last byte's highest bit. -/
def pdP (s : UInt8) (l : List UInt8) (z : Nat) : List UInt8 := l ++ [s] ++ List.replicate z 0
theorem pdP_length (s : UInt8) (l : List UInt8) (z : Nat) : (pdP s l z).length = l.length + 1 + z := by simp [pdP]; omega
theorem pdP_next (s : UInt8) (l : List UInt8) (z : Nat) : pdP s l z ++ [0] = pdP s l (z + 1) := by
  unfold pdP
  rw [List.append_assoc, List.replicate_succ']
def padL (r : Nat) (s : UInt8) (l : List UInt8) : List UInt8 := (pdP s l (zN r l.length)).set (l.length + zN r l.length) ((pdP s l (zN r l.length)).getD (l.length + zN r l.length) 0 ^^^ 128)
theorem padL_length (r : Nat) (s : UInt8) (l : List UInt8) : (padL r s l).length = l.length + 1 + zN r l.length := by simp [padL, pdP_length]
/-- How many blocks. -/
def blN (r : Nat) (l : List UInt8) : Nat := (l.length + 1 + zN r l.length) / r
theorem blN_mul (r : Nat) (l : List UInt8) (hr : 0 < r) : blN r l * r = l.length + 1 + zN r l.length := by
  unfold blN
  exact Nat.div_mul_cancel (Nat.dvd_of_mod_eq_zero (zN_full r _ hr))

/-! ### Taken in -/
def abN (r : Nat) (p : List UInt8) : Nat → Nat → Nat
  | 0 => fun _ => 0
  | b + 1 => rdsF (stF (xhP (bsP (abN r p b) 200) p (b * r) r)) 24
def abF (r : Int) (s : UInt8) (l : List UInt8) : Nat → Nat := if 1 ≤ r ∧ r ≤ 200 then abN r.toNat (padL r.toNat s l) (blN r.toNat l) else fun _ => 0

/-! ### What comes out -/
def itF (f : Nat → Nat) : Nat → Nat → Nat
  | 0 => f
  | t + 1 => rdsF (itF f t) 24
def smF (f : Nat → Nat) (r k : Nat) : UInt8 := byF (itF f (k / r)) (k % r)
def otL (f : Nat → Nat) (r n : Nat) : List UInt8 := (List.range n).map (smF f r)
theorem otL_length (f : Nat → Nat) (r n : Nat) : (otL f r n).length = n := by simp [otL]
theorem otL_take (f : Nat → Nat) (r n m : Nat) (h : n ≤ m) : (otL f r m).take n = otL f r n := by
  unfold otL
  rw [← List.map_take, List.take_range, Nat.min_eq_left h]
theorem bsP_take (f : Nat → Nat) (n m : Nat) (h : n ≤ m) : (bsP f m).take n = bsP f n := by
  unfold bsP
  rw [← List.map_take, List.take_range, Nat.min_eq_left h]
theorem otL_next (f : Nat → Nat) (r m : Nat) (hr : 0 < r) : otL f r (m * r) ++ bsP (itF f m) r = otL f r ((m + 1) * r) := by
  unfold otL bsP
  rw [Nat.add_mul, Nat.one_mul, List.range_add, List.map_append, List.map_map]
  congr 1
  refine List.map_congr_left fun t ht => ?_
  have h := List.mem_range.1 ht
  simp only [Function.comp, smF]
  rw [Nat.mul_comm m r, Nat.mul_add_div hr, Nat.mul_add_mod, Nat.div_eq_of_lt h, Nat.mod_eq_of_lt h, Nat.add_zero]
/-! ### Lanes have 64 bits -/
theorem itF_lt (f : Nat → Nat) (hf : ∀ i, f i < 18446744073709551616) : ∀ t k, itF f t k < 18446744073709551616
  | 0, k => hf k
  | t + 1, k => rdsF_lt _ (itF_lt f hf t) 24 k
theorem abN_lt (r : Nat) (p : List UInt8) : ∀ b k, abN r p b k < 18446744073709551616
  | 0, _ => by simp [abN]
  | b + 1, k => rdsF_lt _ (stF_lt _) 24 k
theorem abF_lt (R : Int) (s : UInt8) (l : List UInt8) (k : Nat) : abF R s l k < 18446744073709551616 := by
  unfold abF
  split
  · exact abN_lt _ _ _ k
  · show 0 < _
    decide
end Go.Proofs.YtfiefohdceokdaaDoor

/- Bytes taken in block by block and lane by lane: plain mathematics. No program's text is named. -/
namespace Go.Proofs.YtfiefohdceokdaaDoor
set_option linter.unusedSimpArgs false
set_option linter.unusedVariables false

/-! ### Laid over one another, lane by lane -/
theorem leN_xor : ∀ (a b : List UInt8), a.length = b.length → leN (List.zipWith (· ^^^ ·) a b) = leN a ^^^ leN b
  | [], [], _ => rfl
  | x :: a, y :: b, h => by
    have ih := leN_xor a b (by simpa using h)
    have e : ∀ (u : UInt8) (n : Nat), u.toNat + 256 * n = 2 ^ 8 * n ||| u.toNat := fun u n => by
      rw [← Nat.two_pow_add_eq_or_of_lt (show u.toNat < 2 ^ 8 from u.toNat_lt)]
      omega
    show (x ^^^ y).toNat + 256 * leN (List.zipWith (· ^^^ ·) a b) = (x.toNat + 256 * leN a) ^^^ (y.toNat + 256 * leN b)
    rw [ih, e, e, e]
    apply Nat.eq_of_testBit_eq
    intro i
    simp only [Nat.testBit_or, Nat.testBit_xor, Nat.testBit_two_pow_mul, UInt8.toNat_xor]
    by_cases hi : 8 ≤ i
    · have h8 : ∀ u : UInt8, u.toNat.testBit i = false := fun u => Nat.testBit_lt_two_pow (Nat.lt_of_lt_of_le u.toNat_lt (Nat.pow_le_pow_right (by decide) hi))
      simp [hi, h8]
    · simp [hi]
  | [], _ :: _, h => by simp at h
  | _ :: _, [], h => by simp at h
theorem leN_cons (x : UInt8) (l : List UInt8) : leN (x :: l) = x.toNat + 256 * leN l := rfl
/-- Lane j of the first r bytes of a block. -/
def xbl (blk : Nat → UInt8) (r j : Nat) : Nat := leN ((List.range 8).map fun t => if 8 * j + t < r then blk (8 * j + t) else 0)
theorem xbl_lt (blk : Nat → UInt8) (r j : Nat) : xbl blk r j < 18446744073709551616 := by
  have h := leN_lt ((List.range 8).map fun t => if 8 * j + t < r then blk (8 * j + t) else 0)
  have e : (256 : Nat) ^ ((List.range 8).map fun t => if 8 * j + t < r then blk (8 * j + t) else 0).length = 18446744073709551616 := by
    rw [List.length_map, List.length_range]
  rw [e] at h
  exact h
theorem xbl_congr {b1 b2 : Nat → UInt8} (r j : Nat) (h : ∀ k, k < r → b1 k = b2 k) : xbl b1 r j = xbl b2 r j := by
  unfold xbl
  congr 1
  refine List.map_congr_left fun t _ => ?_
  by_cases e : 8 * j + t < r
  · rw [if_pos e, if_pos e, h _ e]
  · rw [if_neg e, if_neg e]
theorem stF_xor (f : Nat → Nat) (hf : ∀ i, f i < 18446744073709551616) (p : List UInt8) (i r j : Nat) (hj : j < 25) :
    stF (xhP (bsP f 200) p i r) j = f j ^^^ xbl (fun k => p.getD (i + k) 0) r j := by
  have e1 : ((xhP (bsP f 200) p i r).drop (8 * j)).take 8 = List.zipWith (· ^^^ ·) ((List.range 8).map (stB (f j))) ((List.range 8).map fun t => if 8 * j + t < r then p.getD (i + (8 * j + t)) 0 else 0) := by
    refine List.ext_getElem (by simp [xhP_length]; omega) fun t h1 h2 => ?_
    have ht : t < 8 := by simp at h1; omega
    have hk : 8 * j + t < 200 := by omega
    have e2 : byF f (8 * j + t) = stB (f j) t := by
      unfold byF
      rw [show (8 * j + t) / 8 = j by omega, show (8 * j + t) % 8 = t by omega]
    simp only [List.getElem_take, List.getElem_drop, xhP, List.getElem_map, List.getElem_range, List.getElem_zipWith]
    rw [bsP_get f 200 _ hk, e2]
    split
    · rfl
    · simp
  unfold stF
  have h8 : f j < 256 ^ 8 := hf j
  rw [e1, leN_xor _ _ (by simp), leN_stB, Nat.mod_eq_of_lt h8]
  rfl

/-! ### The blocks of padded bytes -/
/-- Byte k of the last block. -/
def lasB (r : Nat) (s : UInt8) (l : List UInt8) (k : Nat) : UInt8 :=
  (if k < l.length % r then l.getD (l.length / r * r + k) 0 else if k = l.length % r then s else 0) ^^^ (if k = r - 1 then 128 else 0)
theorem zN_eq (r n : Nat) (hr : 0 < r) : zN r n = r - 1 - n % r := by
  unfold zN
  have h1 : n % r < r := Nat.mod_lt _ hr
  have h2 := Nat.div_add_mod n r
  have h3 : n + 1 = r * (n / r) + (n % r + 1) := by omega
  rw [h3, Nat.mul_add_mod]
  by_cases h : n % r + 1 = r
  · rw [h, Nat.mod_self, Nat.sub_zero, Nat.mod_self]
    omega
  · rw [Nat.mod_eq_of_lt (by omega : n % r + 1 < r), Nat.mod_eq_of_lt (by omega)]
    omega
theorem blN_eq (r : Nat) (l : List UInt8) (hr : 0 < r) : blN r l = l.length / r + 1 := by
  unfold blN
  rw [zN_eq r _ hr]
  have h1 : l.length % r < r := Nat.mod_lt _ hr
  have h2 := Nat.div_add_mod l.length r
  have h3 : l.length + 1 + (r - 1 - l.length % r) = r * (l.length / r + 1) := by rw [Nat.mul_add, Nat.mul_one]; omega
  rw [h3, Nat.mul_div_cancel_left _ hr]
theorem pdP_get (s : UInt8) (l : List UInt8) (z k : Nat) : (pdP s l z).getD k 0 = if k < l.length then l.getD k 0 else if k = l.length then s else 0 := by
  unfold pdP
  by_cases h : k < l.length
  · rw [if_pos h]
    simp [List.getElem?_append, h, show k < l.length + 1 by omega]
  · rw [if_neg h]
    by_cases h2 : k = l.length
    · subst h2
      simp [List.getElem?_append]
    · rw [if_neg h2]
      have h3 : ¬ k < l.length + 1 := by omega
      obtain ⟨d, hd⟩ : ∃ d, k - l.length = d + 1 := ⟨k - l.length - 1, by omega⟩
      by_cases h4 : d < z
      · simp [List.getElem?_append, h, hd, List.getElem?_replicate, h4]
      · simp [List.getElem?_append, h, hd, List.getElem?_replicate, h4]
theorem padL_get (r : Nat) (s : UInt8) (l : List UInt8) (k : Nat) (hk : k < l.length + 1 + zN r l.length) :
    (padL r s l).getD k 0 = (if k < l.length then l.getD k 0 else if k = l.length then s else 0) ^^^ (if k = l.length + zN r l.length then 128 else 0) := by
  unfold padL
  rw [← pdP_get s l (zN r l.length)]
  have hlen := pdP_length s l (zN r l.length)
  by_cases e : k = l.length + zN r l.length
  · rw [if_pos e, ← e]
    have h1 : k < (pdP s l (zN r l.length)).length := by omega
    simp [List.getElem?_set, h1]
  · rw [if_neg e]
    simp [List.getElem?_set, Ne.symm e]
theorem pad_full (r : Nat) (s : UInt8) (l : List UInt8) (hr : 0 < r) (b k : Nat) (hb : b < l.length / r) (hk : k < r) : (padL r s l).getD (b * r + k) 0 = l.getD (b * r + k) 0 := by
  have h1 : (b + 1) * r ≤ l.length / r * r := Nat.mul_le_mul_right r hb
  have h2 := Nat.div_mul_le_self l.length r
  rw [Nat.add_mul, Nat.one_mul] at h1
  rw [padL_get r s l _ (by omega), if_pos (by omega), if_neg (by omega)]
  simp
theorem pad_last (r : Nat) (s : UInt8) (l : List UInt8) (hr : 0 < r) (k : Nat) (hk : k < r) : (padL r s l).getD (l.length / r * r + k) 0 = lasB r s l k := by
  have h0 := Nat.div_add_mod l.length r
  rw [Nat.mul_comm] at h0
  have h1 : l.length % r < r := Nat.mod_lt _ hr
  have hz := zN_eq r l.length hr
  rw [padL_get r s l _ (by omega)]
  unfold lasB
  have c1 : (l.length / r * r + k < l.length) ↔ k < l.length % r := by omega
  have c2 : (l.length / r * r + k = l.length) ↔ k = l.length % r := by omega
  have c3 : (l.length / r * r + k = l.length + zN r l.length) ↔ k = r - 1 := by omega
  simp only [c1, c2, c3]
/-- One block taken in. -/
def tkF (f : Nat → Nat) (blk : Nat → UInt8) (r : Nat) : Nat → Nat := rdsF (fun j => f j ^^^ xbl blk r j) 24
theorem abN_tk (r : Nat) (p : List UInt8) (b : Nat) (k : Nat) (hk : k < 25) : abN r p (b + 1) k = tkF (abN r p b) (fun t => p.getD (b * r + t) 0) r k := by
  show rdsF (stF (xhP (bsP (abN r p b) 200) p (b * r) r)) 24 k = _
  have hlt : ∀ b k, abN r p b k < 18446744073709551616 := by
    intro b
    cases b with
    | zero => intro k; simp [abN]
    | succ b => intro k; exact rdsF_lt _ (stF_lt _) 24 k
  exact rdsF_congr (fun j hj => stF_xor _ (hlt b) p (b * r) r j hj) 24 k hk
theorem tkF_congr {f g : Nat → Nat} {b1 b2 : Nat → UInt8} (r : Nat) (h : ∀ j, j < 25 → f j = g j) (hb : ∀ k, k < r → b1 k = b2 k) (k : Nat) (hk : k < 25) : tkF f b1 r k = tkF g b2 r k :=
  rdsF_congr (fun j hj => by rw [h j hj, xbl_congr r j hb]) 24 k hk
/-- The whole blocks of the bytes themselves, taken in. -/
def fuN (r : Nat) (l : List UInt8) : Nat → Nat → Nat
  | 0 => fun _ => 0
  | b + 1 => tkF (fuN r l b) (fun t => l.getD (b * r + t) 0) r
theorem fuN_eq (r : Nat) (s : UInt8) (l : List UInt8) (hr : 0 < r) : ∀ b, b ≤ l.length / r → ∀ k, k < 25 → abN r (padL r s l) b k = fuN r l b k
  | 0, _, _, _ => rfl
  | b + 1, hb, k, hk => (abN_tk r _ b k hk).trans (tkF_congr r (fuN_eq r s l hr b (by omega)) (fun t ht => pad_full r s l hr b t (by omega) ht) k hk)
/-- All blocks: the whole ones, then the last. -/
theorem abs_eq (r : Nat) (s : UInt8) (l : List UInt8) (hr : 0 < r) (k : Nat) (hk : k < 25) : abN r (padL r s l) (blN r l) k = tkF (fuN r l (l.length / r)) (lasB r s l) r k := by
  rw [blN_eq r l hr]
  exact (abN_tk r _ _ k hk).trans (tkF_congr r (fuN_eq r s l hr _ (Nat.le_refl _)) (fun t ht => pad_last r s l hr t ht) k hk)
theorem fuN_lt (r : Nat) (l : List UInt8) : ∀ b k, fuN r l b k < 18446744073709551616
  | 0, _ => by simp [fuN]
  | b + 1, k => rdsF_lt _ (fun j => xor_lt64 (fuN_lt r l b j) (xbl_lt _ _ _)) 24 k

/-! ### Read in pieces -/
theorem otL_split (f : Nat → Nat) (r a b : Nat) : otL f r (a + b) = otL f r a ++ (List.range b).map (fun k => smF f r (a + k)) := by
  unfold otL
  rw [List.range_add, List.map_append, List.map_map]
  rfl
end Go.Proofs.YtfiefohdceokdaaDoor

/- The code of a key and bytes, and the keys that follow from a chaining key: plain mathematics. No program's text is named. -/
namespace Go.Proofs.YtfiefohdceokdaaDoor
set_option linter.unusedSimpArgs false
set_option linter.unusedVariables false

/-- The sum of 32 bytes. -/
def s2L (l : List UInt8) : List UInt8 := otL (abF 136 6 l) 136 32
theorem s2L_length (l : List UInt8) : (s2L l).length = 32 := otL_length _ _ _
/-- A key as it counts, without noughts behind it, and with them. -/
def kyS (k : List UInt8) : List UInt8 := if 136 < k.length then s2L k else k
theorem kyS_length (k : List UInt8) : (kyS k).length ≤ 136 := by
  unfold kyS
  split
  · rw [s2L_length]; decide
  · omega
def kyL (k : List UInt8) : List UInt8 := kyS k ++ List.replicate (136 - (kyS k).length) 0
theorem kyL_length (k : List UInt8) : (kyL k).length = 136 := by
  have := kyS_length k
  simp [kyL]
  omega
def mxP (K : List UInt8) (c : UInt8) (j : Nat) : List UInt8 := (List.range j).map fun t => K.getD t 0 ^^^ c
theorem mxP_next (K : List UInt8) (c : UInt8) (j : Nat) : mxP K c j ++ [K.getD j 0 ^^^ c] = mxP K c (j + 1) := by
  unfold mxP
  rw [List.range_succ, List.map_append]
  rfl
theorem mxP_length (K : List UInt8) (c : UInt8) (j : Nat) : (mxP K c j).length = j := by simp [mxP]
/-- The code. -/
def mcF (k b : List UInt8) : List UInt8 := s2L (mxP (kyL k) 92 136 ++ s2L (mxP (kyL k) 54 136 ++ b))
theorem mcF_length (k b : List UInt8) : (mcF k b).length = 32 := s2L_length _
theorem mxP_get (K : List UInt8) (c : UInt8) (j t : Nat) (h : t < j) : (mxP K c j).getD t 0 = K.getD t 0 ^^^ c := by simp [mxP, h]
/-- The three keys. -/
def k1F (ck b : List UInt8) : List UInt8 := mcF (mcF ck b) [1]
def k2F (ck b : List UInt8) : List UInt8 := mcF (mcF ck b) (k1F ck b ++ [2])
def k3F (ck b : List UInt8) : List UInt8 := mcF (mcF ck b) (k2F ck b ++ [3])
/-- Noughts behind a key change nothing. -/
theorem kyL_noughts (k : List UInt8) (n : Nat) (h : k.length + n ≤ 136) : kyL (k ++ List.replicate n 0) = kyL k := by
  have e1 : kyS (k ++ List.replicate n 0) = k ++ List.replicate n 0 := by
    unfold kyS
    rw [if_neg (by simp; omega)]
  have e2 : kyS k = k := by
    unfold kyS
    rw [if_neg (by omega)]
  unfold kyL
  rw [e1, e2, List.append_assoc, List.replicate_append_replicate]
  congr 2
  simp
  omega
theorem mcF_noughts (k b : List UInt8) (n : Nat) (h : k.length + n ≤ 136) : mcF (k ++ List.replicate n 0) b = mcF k b := by
  unfold mcF
  rw [kyL_noughts k n h]
/-- A longer key counts as its sum. -/
theorem mcF_long (k b : List UInt8) (h : 136 < k.length) : mcF k b = mcF (s2L k) b := by
  have e : kyL k = kyL (s2L k) := by
    have e1 : kyS k = s2L k := by unfold kyS; rw [if_pos h]
    have e2 : kyS (s2L k) = s2L k := by unfold kyS; rw [if_neg (by rw [s2L_length]; omega)]
    unfold kyL
    rw [e1, e2]
  unfold mcF
  rw [e]
end Go.Proofs.YtfiefohdceokdaaDoor

/- What follows of the permutation: three steps add up, every step can be taken back, turning and putting elsewhere keep how many bits are 1, noughts stay noughts: plain mathematics. No program's text is named. -/
namespace Go.Proofs.YtfiefohdceokdaaDoor
set_option linter.unusedSimpArgs false
set_option linter.unusedVariables false

/-! ### Sums of two states -/
def addS (f g : Nat → Nat) (i : Nat) : Nat := f i ^^^ g i
theorem addS_lt (f g : Nat → Nat) (hf : ∀ i, f i < 18446744073709551616) (hg : ∀ i, g i < 18446744073709551616) (i : Nat) : addS f g i < 18446744073709551616 := xor_lt64 (hf i) (hg i)
theorem xor_four (a b c d : Nat) : a ^^^ b ^^^ (c ^^^ d) = a ^^^ c ^^^ (b ^^^ d) := by
  apply Nat.eq_of_testBit_eq
  intro i
  simp only [Nat.testBit_xor]
  cases a.testBit i <;> cases b.testBit i <;> cases c.testBit i <;> cases d.testBit i <;> rfl
theorem turnN_add (x y n : Nat) (hx : x < 18446744073709551616) (hy : y < 18446744073709551616) (hn : n < 64) : turnN (x ^^^ y) n = turnN x n ^^^ turnN y n := by
  refine ext64 (turnN_lt _ _ (xor_lt64 hx hy) hn) (xor_lt64 (turnN_lt _ _ hx hn) (turnN_lt _ _ hy hn)) fun z hz => ?_
  rw [turnN_bit _ _ _ (xor_lt64 hx hy) hn hz, bt_xor, bt_xor, turnN_bit _ _ _ hx hn hz, turnN_bit _ _ _ hy hn hz]
theorem colN_add (f g : Nat → Nat) (x : Nat) : colN (addS f g) x = colN f x ^^^ colN g x := by
  unfold colN addS
  apply Nat.eq_of_testBit_eq
  intro i
  simp only [Nat.testBit_xor]
  generalize (f x).testBit i = a1
  generalize (f (x + 5)).testBit i = a2
  generalize (f (x + 10)).testBit i = a3
  generalize (f (x + 15)).testBit i = a4
  generalize (f (x + 20)).testBit i = a5
  generalize (g x).testBit i = b1
  generalize (g (x + 5)).testBit i = b2
  generalize (g (x + 10)).testBit i = b3
  generalize (g (x + 15)).testBit i = b4
  generalize (g (x + 20)).testBit i = b5
  revert a1 a2 a3 a4 a5 b1 b2 b3 b4 b5
  decide +kernel
theorem thL_add (f g : Nat → Nat) (hf : ∀ i, f i < 18446744073709551616) (hg : ∀ i, g i < 18446744073709551616) (k : Nat) : thL (addS f g) k = thL f k ^^^ thL g k := by
  unfold thL
  rw [colN_add, colN_add, turnN_add _ _ _ (colN_lt f hf _) (colN_lt g hg _) (by decide)]
  unfold addS
  rw [xor_four (f k), xor_four (f k ^^^ _)]
theorem rhL_add (f g : Nat → Nat) (hf : ∀ i, f i < 18446744073709551616) (hg : ∀ i, g i < 18446744073709551616) (k : Nat) : rhL (addS f g) k = rhL f k ^^^ rhL g k := by
  unfold rhL
  split
  · rfl
  · exact turnN_add _ _ _ (hf _) (hg _) (rhBy_lt _)
theorem piF_add (f g : Nat → Nat) (k : Nat) : piF (addS f g) k = piF f k ^^^ piF g k := rfl

/-! ### Noughts -/
theorem turnN_zero (n : Nat) : turnN 0 n = 0 := by
  unfold turnN rotN
  split <;> simp
theorem thL_zero (f : Nat → Nat) (h : ∀ i, f i = 0) (k : Nat) : thL f k = 0 := by
  unfold thL colN
  simp [h, turnN_zero]
theorem rhL_zero (f : Nat → Nat) (h : ∀ i, f i = 0) (k : Nat) : rhL f k = 0 := by
  unfold rhL
  simp [h, turnN_zero]
theorem piF_zero (f : Nat → Nat) (h : ∀ i, f i = 0) (k : Nat) : piF f k = 0 := h _
theorem chL_zero (f : Nat → Nat) (h : ∀ i, f i = 0) (k : Nat) : chL f k = 0 := by
  unfold chL
  simp [h]
theorem noughts_kept (k : Nat) : chL (piF (rhL (thL fun _ => 0))) k = 0 := chL_zero _ (piF_zero _ (rhL_zero _ (thL_zero _ fun _ => rfl))) k
theorem rdL_noughts (i : Nat) : rdL (fun _ => 0) i = ioK (fun _ => 0) i := by
  unfold rdL
  congr 1
  funext k
  exact noughts_kept k

/-! ### Every step can be taken back -/
theorem tri_zero : ∀ a b c d e : Bool, a = (b ^^ e) → b = (c ^^ a) → c = (d ^^ b) → d = (e ^^ c) → e = (a ^^ d) → a = false := by decide
theorem double_step (E : Nat → Nat → Bool) (s t : Nat) (h : ∀ x z, E x z = (E (x + 4 * s) z ^^ E (x + s) (z + 63 * t))) :
    ∀ x z, E x z = (E (x + 4 * (2 * s)) z ^^ E (x + 2 * s) (z + 63 * (2 * t))) := by
  intro x z
  rw [h x z, h (x + 4 * s) z, h (x + s) (z + 63 * t)]
  rw [show x + 4 * s + 4 * s = x + 4 * (2 * s) by omega, show x + s + 4 * s = x + 4 * s + s by omega, show x + s + s = x + 2 * s by omega, show z + 63 * t + 63 * t = z + 63 * (2 * t) by omega]
  generalize E (x + 4 * s + s) (z + 63 * t) = a
  generalize E (x + 4 * (2 * s)) z = b
  generalize E (x + 2 * s) (z + 63 * (2 * t)) = c
  cases a <;> cases b <;> cases c <;> rfl
theorem wheel_zero (E : Nat → Nat → Bool) (h5 : ∀ x z, E (x % 5) z = E x z) (h64 : ∀ x z, E x (z % 64) = E x z)
    (h : ∀ x z, E x z = (E (x + 4) z ^^ E (x + 1) (z + 63))) (x z : Nat) : E x z = false := by
  have r1 := double_step E 1 1 h
  have r2 := double_step E 2 2 r1
  have r3 := double_step E 4 4 r2
  have r4 := double_step E 8 8 r3
  have r5 := double_step E 16 16 r4
  have r6 := double_step E 32 32 r5
  have r : ∀ x z, E x z = (E (x + 1) z ^^ E (x + 4) z) := by
    intro x z
    rw [r6 x z]
    rw [← h5 (x + 4 * (2 * 32)) z, ← h5 (x + 1) z, ← h5 (x + 4) z, ← h64 (x + 2 * 32), ← h5 (x + 2 * 32)]
    rw [show (x + 4 * (2 * 32)) % 5 = (x + 1) % 5 by omega, show (x + 2 * 32) % 5 = (x + 4) % 5 by omega, show (z + 63 * (2 * 32)) % 64 = z % 64 by omega, h64]
  have p : ∀ n, E (x + (n + 5)) z = E (x + n) z := fun n => by rw [← h5 (x + (n + 5)), ← h5 (x + n), show (x + (n + 5)) % 5 = (x + n) % 5 by omega]
  have q0 := r x z
  have q1 := r (x + 1) z
  have q2 := r (x + 2) z
  have q3 := r (x + 3) z
  have q4 := r (x + 4) z
  have p0 := p 0
  have p1 := p 1
  have p2 := p 2
  have p3 := p 3
  simp only [Nat.add_assoc] at q0 q1 q2 q3 q4
  simp only [show 1 + 4 = 0 + 5 from rfl, show 2 + 4 = 1 + 5 from rfl, show 3 + 4 = 2 + 5 from rfl, show 4 + 4 = 3 + 5 from rfl, show 4 + 1 = 0 + 5 from rfl, show 1 + 1 = 2 from rfl, show 2 + 1 = 3 from rfl, show 3 + 1 = 4 from rfl, p0, p1, p2, p3, Nat.add_zero] at q0 q1 q2 q3 q4
  exact tri_zero _ _ _ _ _ q0 q1 q2 q3 q4
theorem xor_zero_eq {a b : Nat} (h : a ^^^ b = 0) : a = b := by
  apply Nat.eq_of_testBit_eq
  intro i
  have := congrArg (fun n => n.testBit i) h
  simp only [Nat.testBit_xor, Nat.zero_testBit] at this
  cases ha : a.testBit i <;> cases hb : b.testBit i <;> simp_all
theorem thL_ker (f : Nat → Nat) (hf : ∀ i, f i < 18446744073709551616) (h : ∀ k, k < 25 → thL f k = 0) (k : Nat) (hk : k < 25) : f k = 0 := by
  have h1 : ∀ k, k < 25 → f k = colN f ((k % 5 + 4) % 5) ^^^ turnN (colN f ((k % 5 + 1) % 5)) 1 := fun k hk => by
    have := h k hk
    unfold thL at this
    rw [Nat.xor_assoc] at this
    exact xor_zero_eq this
  have h2 : ∀ x, x < 5 → colN f x = colN f ((x + 4) % 5) ^^^ turnN (colN f ((x + 1) % 5)) 1 := fun x hx => by
    have e0 := h1 x (by omega)
    have e1 := h1 (x + 5) (by omega)
    have e2 := h1 (x + 10) (by omega)
    have e3 := h1 (x + 15) (by omega)
    have e4 := h1 (x + 20) (by omega)
    rw [show x % 5 = x by omega] at e0
    rw [show (x + 5) % 5 = x by omega] at e1
    rw [show (x + 10) % 5 = x by omega] at e2
    rw [show (x + 15) % 5 = x by omega] at e3
    rw [show (x + 20) % 5 = x by omega] at e4
    generalize hD : colN f ((x + 4) % 5) ^^^ turnN (colN f ((x + 1) % 5)) 1 = D at *
    unfold colN
    rw [e0, e1, e2, e3, e4]
    simp
  have hE := wheel_zero (fun x z => (colN f (x % 5)).testBit (z % 64)) (fun x z => by simp) (fun x z => by simp) (fun x z => by
    have := h2 (x % 5) (by omega)
    show (colN f (x % 5)).testBit (z % 64) = ((colN f ((x + 4) % 5)).testBit (z % 64) ^^ (colN f ((x + 1) % 5)).testBit ((z + 63) % 64))
    conv => lhs; rw [this]
    rw [Nat.testBit_xor, bt_test (turnN _ _), turnN_bit _ _ _ (colN_lt f hf _) (by decide) (by omega), ← bt_test]
    rw [show (x % 5 + 4) % 5 = (x + 4) % 5 by omega, show (x % 5 + 1) % 5 = (x + 1) % 5 by omega, show (z % 64 + 64 - 1) % 64 = (z + 63) % 64 by omega])
  have hC : ∀ x, x < 5 → colN f x = 0 := fun x hx => by
    refine ext64 (colN_lt f hf x) (by decide) fun z hz => ?_
    have : (colN f (x % 5)).testBit (z % 64) = false := hE x z
    rw [show x % 5 = x by omega, show z % 64 = z by omega] at this
    rw [bt_of, this]
    unfold bt
    simp
  rw [h1 k hk, hC _ (by omega), hC _ (by omega), turnN_zero]
  rfl
theorem thL_inj (f g : Nat → Nat) (hf : ∀ i, f i < 18446744073709551616) (hg : ∀ i, g i < 18446744073709551616) (h : ∀ k, k < 25 → thL f k = thL g k) (k : Nat) (hk : k < 25) : f k = g k := by
  refine xor_zero_eq (thL_ker (addS f g) (addS_lt f g hf hg) (fun j hj => ?_) k hk)
  rw [thL_add f g hf hg, h j hj, Nat.xor_self]
theorem turnN_inj {x y n : Nat} (hx : x < 18446744073709551616) (hy : y < 18446744073709551616) (hn : n < 64) (h : turnN x n = turnN y n) : x = y := by
  refine ext64 hx hy fun z hz => ?_
  have e1 := turnN_bit x n ((z + n) % 64) hx hn (by omega)
  have e2 := turnN_bit y n ((z + n) % 64) hy hn (by omega)
  rw [show ((z + n) % 64 + 64 - n) % 64 = z by omega] at e1 e2
  rw [← e1, ← e2, h]
theorem rhL_inj (f g : Nat → Nat) (hf : ∀ i, f i < 18446744073709551616) (hg : ∀ i, g i < 18446744073709551616) (h : ∀ k, k < 25 → rhL f k = rhL g k) (k : Nat) (hk : k < 25) : f k = g k := by
  have := h k hk
  unfold rhL at this
  by_cases e : k = 0
  · subst e; simpa using this
  · rw [if_neg e, if_neg e] at this
    exact turnN_inj (hf k) (hg k) (rhBy_lt _) this
theorem pi_back : ∀ j, j < 25 → ((j / 5 + 3 * ((2 * (j % 5) + 3 * (j / 5)) % 5)) % 5 = j % 5) := by decide
theorem piF_inj (f g : Nat → Nat) (h : ∀ k, k < 25 → piF f k = piF g k) (k : Nat) (hk : k < 25) : f k = g k := by
  have := h (k / 5 + 5 * ((2 * (k % 5) + 3 * (k / 5)) % 5)) (by omega)
  unfold piF at this
  have hb := pi_back k hk
  rw [show (k / 5 + 5 * ((2 * (k % 5) + 3 * (k / 5)) % 5)) % 5 = k / 5 by omega, show (k / 5 + 5 * ((2 * (k % 5) + 3 * (k / 5)) % 5)) / 5 = (2 * (k % 5) + 3 * (k / 5)) % 5 by omega, hb, show k % 5 + 5 * (k / 5) = k by omega] at this
  exact this
theorem chi_five : ∀ a0 a1 a2 a3 a4 b0 b1 b2 b3 b4 : Bool, (a0 ^^ (a2 ^^ (a2 && a1))) = (b0 ^^ (b2 ^^ (b2 && b1))) → (a1 ^^ (a3 ^^ (a3 && a2))) = (b1 ^^ (b3 ^^ (b3 && b2))) → (a2 ^^ (a4 ^^ (a4 && a3))) = (b2 ^^ (b4 ^^ (b4 && b3))) →
    (a3 ^^ (a0 ^^ (a0 && a4))) = (b3 ^^ (b0 ^^ (b0 && b4))) → (a4 ^^ (a1 ^^ (a1 && a0))) = (b4 ^^ (b1 ^^ (b1 && b0))) → a0 = b0 ∧ a1 = b1 ∧ a2 = b2 ∧ a3 = b3 ∧ a4 = b4 := by decide +kernel
theorem chL_test (f : Nat → Nat) (k z : Nat) : (chL f k).testBit z = ((f k).testBit z ^^ ((f (k - k % 5 + (k % 5 + 2) % 5)).testBit z ^^ ((f (k - k % 5 + (k % 5 + 2) % 5)).testBit z && (f (k - k % 5 + (k % 5 + 1) % 5)).testBit z))) := by
  unfold chL
  rw [sub_and, Nat.testBit_xor, Nat.testBit_xor, Nat.testBit_and]
theorem chL_inj (f g : Nat → Nat) (h : ∀ k, k < 25 → chL f k = chL g k) (k : Nat) (hk : k < 25) : f k = g k := by
  apply Nat.eq_of_testBit_eq
  intro z
  obtain ⟨y, hy⟩ : ∃ y, y = k / 5 := ⟨_, rfl⟩
  have e : ∀ x, x < 5 → (chL f (x + 5 * y)).testBit z = (chL g (x + 5 * y)).testBit z := fun x hx => by rw [h (x + 5 * y) (by omega)]
  have t : ∀ (u : Nat → Nat) x, x < 5 → (chL u (x + 5 * y)).testBit z = ((u (x + 5 * y)).testBit z ^^ ((u ((x + 2) % 5 + 5 * y)).testBit z ^^ ((u ((x + 2) % 5 + 5 * y)).testBit z && (u ((x + 1) % 5 + 5 * y)).testBit z))) := fun u x hx => by
    rw [chL_test, show x + 5 * y - (x + 5 * y) % 5 + ((x + 5 * y) % 5 + 2) % 5 = (x + 2) % 5 + 5 * y by omega, show x + 5 * y - (x + 5 * y) % 5 + ((x + 5 * y) % 5 + 1) % 5 = (x + 1) % 5 + 5 * y by omega]
  have e0 := e 0 (by decide)
  have e1 := e 1 (by decide)
  have e2 := e 2 (by decide)
  have e3 := e 3 (by decide)
  have e4 := e 4 (by decide)
  rw [t f 0 (by decide), t g 0 (by decide)] at e0
  rw [t f 1 (by decide), t g 1 (by decide)] at e1
  rw [t f 2 (by decide), t g 2 (by decide)] at e2
  rw [t f 3 (by decide), t g 3 (by decide)] at e3
  rw [t f 4 (by decide), t g 4 (by decide)] at e4
  obtain ⟨r0, r1, r2, r3, r4⟩ := chi_five _ _ _ _ _ _ _ _ _ _ e0 e1 e2 e3 e4
  have hx : k % 5 = 0 ∨ k % 5 = 1 ∨ k % 5 = 2 ∨ k % 5 = 3 ∨ k % 5 = 4 := by omega
  rcases hx with hx | hx | hx | hx | hx
  · rw [show k = 0 + 5 * y by omega]; exact r0
  · rw [show k = 1 + 5 * y by omega]; exact r1
  · rw [show k = 2 + 5 * y by omega]; exact r2
  · rw [show k = 3 + 5 * y by omega]; exact r3
  · rw [show k = 4 + 5 * y by omega]; exact r4
theorem ioK_inj (f g : Nat → Nat) (i : Nat) (h : ∀ k, k < 25 → ioK f i k = ioK g i k) (k : Nat) (hk : k < 25) : f k = g k := by
  have := h k hk
  unfold ioK at this
  by_cases e : k = 0
  · subst e
    simp only [if_true] at this
    refine xor_zero_eq ?_
    have h2 := congrArg (fun n => n ^^^ (g 0 ^^^ kst.getD i 0)) this
    simp only [Nat.xor_self] at h2
    rwa [xor_four, Nat.xor_self, Nat.xor_zero] at h2
  · rwa [if_neg e, if_neg e] at this
theorem rdL_inj (f g : Nat → Nat) (hf : ∀ i, f i < 18446744073709551616) (hg : ∀ i, g i < 18446744073709551616) (i : Nat) (h : ∀ k, k < 25 → rdL f i k = rdL g i k) (k : Nat) (hk : k < 25) : f k = g k :=
  thL_inj f g hf hg (fun _ h1 => rhL_inj _ _ (thL_lt f hf) (thL_lt g hg) (fun _ h2 => piF_inj _ _ (fun _ h3 => chL_inj _ _ (fun _ h4 => ioK_inj _ _ i h _ h4) _ h3) _ h2) _ h1) k hk
theorem rdsL_inj (f g : Nat → Nat) (hf : ∀ i, f i < 18446744073709551616) (hg : ∀ i, g i < 18446744073709551616) : ∀ n, n ≤ 24 → (∀ k, k < 25 → rdsL f n k = rdsL g n k) → ∀ k, k < 25 → f k = g k
  | 0, _, h => h
  | n + 1, hn, h => rdsL_inj f g hf hg n (by omega) fun k hk => rdL_inj _ _ (rdsL_lt f hf n (by omega)) (rdsL_lt g hg n (by omega)) n h k hk
/-- All rounds of two states are the same just if they are. -/
theorem same_just (f g : Nat → Nat) (hf : ∀ i, f i < 18446744073709551616) (hg : ∀ i, g i < 18446744073709551616) : (stL (rdsL f 24) = stL (rdsL g 24)) ↔ stL f = stL g := by
  refine ⟨fun h => stL_congr fun k hk => rdsL_inj f g hf hg 24 (Nat.le_refl _) (fun j hj => stL_inj h j hj) k hk, fun h => ?_⟩
  refine stL_congr fun k hk => ?_
  rw [rdsL_eq f hf 24 (Nat.le_refl _) k hk, rdsL_eq g hg 24 (Nat.le_refl _) k hk]
  exact rdsF_congr (fun j hj => stL_inj h j hj) 24 k hk

/-! ### How many bits are 1 -/
def pc : Nat → Nat
  | 0 => 0
  | n + 1 => (n + 1) % 2 + pc ((n + 1) / 2)
decreasing_by omega
theorem pc_zero : pc 0 = 0 := by unfold pc; rfl
theorem pc_step (n : Nat) : pc n = n % 2 + pc (n / 2) := by
  cases n with
  | zero => simp [pc_zero]
  | succ n => rw [pc]
theorem pc_join (a b : Nat) : ∀ n, b < 2 ^ n → ∀ b', b' = b → pc (2 ^ n * a + b') = pc a + pc b' := by
  intro n
  induction n generalizing b with
  | zero =>
    intro h b' e
    have : b' = 0 := by simp at h; omega
    subst this
    simp [pc_zero]
  | succ n ih =>
    intro h b' e
    subst e
    rw [pc_step (2 ^ (n + 1) * a + b'), pc_step b']
    have e1 : (2 ^ (n + 1) * a + b') % 2 = b' % 2 := by
      rw [Nat.pow_succ, Nat.mul_comm (2 ^ n) 2, Nat.mul_assoc, Nat.mul_add_mod]
    have e2 : (2 ^ (n + 1) * a + b') / 2 = 2 ^ n * a + b' / 2 := by
      rw [Nat.pow_succ, Nat.mul_comm (2 ^ n) 2, Nat.mul_assoc, Nat.mul_add_div (by decide)]
    rw [e1, e2, ih (b' / 2) (by rw [Nat.pow_succ] at h; omega) _ rfl]
    omega
theorem pc_turn (x n : Nat) (hx : x < 18446744073709551616) (hn : n < 64) : pc (turnN x n) = pc x := by
  unfold turnN
  split
  · rfl
  · have h64 : (18446744073709551616 : Nat) = 2 ^ n * 2 ^ (64 - n) := by rw [← Nat.pow_add, show n + (64 - n) = 64 by omega]
    have hB : x / 2 ^ (64 - n) < 2 ^ n := by
      refine Nat.div_lt_of_lt_mul ?_
      rw [Nat.mul_comm, ← h64]
      exact hx
    have e1 : rotN x n = 2 ^ n * (x % 2 ^ (64 - n)) + x / 2 ^ (64 - n) := by
      unfold rotN
      rw [h64, Nat.mul_comm x, Nat.mul_mod_mul_left]
    rw [e1, pc_join _ _ n hB _ rfl]
    have h2 := pc_join (x / 2 ^ (64 - n)) (x % 2 ^ (64 - n)) (64 - n) (Nat.mod_lt _ (Nat.pow_pos (by decide))) _ rfl
    rw [Nat.div_add_mod] at h2
    omega
theorem pc_le (n : Nat) : ∀ x, x < 2 ^ n → pc x ≤ n := by
  induction n with
  | zero => intro x h; have : x = 0 := by simp at h; exact h
            subst this; simp [pc_zero]
  | succ n ih =>
    intro x h
    rw [pc_step]
    have := ih (x / 2) (by rw [Nat.pow_succ] at h; omega)
    omega
/-- How many bits of the first n lanes are 1. -/
def pcs (f : Nat → Nat) : Nat → Nat
  | 0 => 0
  | n + 1 => pcs f n + pc (f n)
theorem pcs_le (f : Nat → Nat) (hf : ∀ i, f i < 18446744073709551616) : ∀ n, pcs f n ≤ 64 * n
  | 0 => by simp [pcs]
  | n + 1 => by
    have h1 := pcs_le f hf n
    have h2 := pc_le 64 (f n) (hf n)
    unfold pcs
    omega
theorem pcs_rho (f : Nat → Nat) (hf : ∀ i, f i < 18446744073709551616) : ∀ n, pcs (rhL f) n = pcs f n
  | 0 => rfl
  | n + 1 => by
    unfold pcs
    rw [pcs_rho f hf n]
    congr 1
    unfold rhL
    split
    · rename_i h; subst h; rfl
    · exact pc_turn _ _ (hf n) (rhBy_lt _)
theorem pcs_pi (f : Nat → Nat) : pcs (piF f) 25 = pcs f 25 := by
  simp only [pcs, piF]
  simp only [Nat.reduceMod, Nat.reduceDiv, Nat.reduceMul, Nat.reduceAdd, Nat.mul_zero, Nat.add_zero, Nat.zero_add]
  omega
end Go.Proofs.YtfiefohdceokdaaDoor

/- The permutation of noughts, round by round, reckoned: plain mathematics. No program's text is named. -/
namespace Go.Proofs.YtfiefohdceokdaaDoor
set_option linter.unusedSimpArgs false
set_option linter.unusedVariables false
/-- A row of lanes as a state. -/
def evS (l : List Nat) (k : Nat) : Nat := l.getD k 0
theorem evS_lt (l : List Nat) (h : ∀ x ∈ l, x < 18446744073709551616) (k : Nat) : evS l k < 18446744073709551616 := by
  unfold evS
  rcases Nat.lt_or_ge k l.length with hk | hk
  · simp only [List.getD_eq_getElem?_getD, List.getElem?_eq_getElem hk, Option.getD_some]
    exact h _ (List.getElem_mem hk)
  · simp [List.getElem?_eq_none hk]
theorem evS_step (f : Nat → Nat) (i : Nat) (hi : i < 24) (l m : List Nat) (hl : ∀ k, evS l k < 18446744073709551616) (hs : ∀ k, k < 25 → rdL (evS l) i k = evS m k) (h : ∀ k, k < 25 → rdsF f i k = evS l k) : ∀ k, k < 25 → rdsF f (i + 1) k = evS m k :=
  fun k hk => (rdF_congr h i k hk).trans ((rdL_eq (evS l) hl i hi k hk).symm.trans (hs k hk))
def kz0 : List Nat := [0, 0, 0, 0, 0, 0, 0, 0, 0, 0, 0, 0, 0, 0, 0, 0, 0, 0, 0, 0, 0, 0, 0, 0, 0]
def kz1 : List Nat := [1, 0, 0, 0, 0, 0, 0, 0, 0, 0, 0, 0, 0, 0, 0, 0, 0, 0, 0, 0, 0, 0, 0, 0, 0]
def kz2 : List Nat := [32899, 17592186044416, 32768, 1, 17592186077184, 0, 35184374185984, 0, 35184372088832, 2097152, 2, 512, 0, 514, 0, 268436480, 0, 1024, 268435456, 0, 1099511627776, 0, 1099511627780, 0, 4]
def kz3 : List Nat := [9236970796698600460, 4092250545529553158, 626057523912327425, 2306538108895626371, 1173341635645358336, 1293304092434976, 1266393375296193026, 4612686711565066480, 3572814934320349200, 6918386853474468034, 181437471070544, 17451689225912448, 14123431978033217603, 9612137362626578, 14131171423402623105, 109225863298950544, 4469910934709993472, 291608492588557700, 4143342752895270928, 722898250671538564, 9260980282462904729, 14339470011802853602, 37581858268459548, 4683770000893804961, 432358761588732518]
def kz4 : List Nat := [592319258926211651, 14940587067404002452, 6163873250186209783, 9133172271835791495, 13983250434949586883, 10037245043040796116, 14625807227073111006, 9517639169617348992, 10802803781493464979, 1170967630360556906, 4833658608200494670, 14411270558251773425, 10413092914151648788, 6324505867985343017, 15456637871614865798, 15961727220218474669, 12219779720573097889, 13453918774002596887, 11249665490274026413, 16763947842887530834, 9348458261315236693, 11269932799224724130, 5725669273397430228, 16793563075160212879, 7296601056617420707]
def kz5 : List Nat := [7638250137956199023, 17990125325728205105, 7906499215270811140, 10861036725959346835, 11195520138696188958, 8358174899797462070, 8135952663530915624, 1143978644753002443, 15662404937588594201, 16535557756827863490, 2821756897662528488, 12114361851460063201, 8845673958919045506, 13942698502943567537, 11656387723772272466, 13322614738909770079, 2086432298574777049, 17543636310180418713, 1178364895537752846, 10832164025006223835, 2030143342952750111, 12360607886846421348, 10479039689777663018, 16563260862735374768, 7279885679800479721]
def kz6 : List Nat := [4891766363406797400, 15439122233753343804, 13823342620960621853, 11746433691194652646, 4017314498112237324, 815207819430446539, 4967747420293129338, 3818588911347179217, 12982395987346120149, 8831006501622048216, 3273200702990303769, 11925911941096385939, 11818410238024184151, 6855937196075990472, 6813782227838587502, 5749709705375199086, 198532287281302992, 3986921420170929948, 2084732521627207926, 3955984847012879536, 17540298648724239738, 14973796877054370773, 9207394463793105740, 13336242423054526618, 2223831538796077986]
def kz7 : List Nat := [898454936699210940, 8026835929569667841, 7594412717710188589, 17691297879001667639, 12039682773981733750, 4806751406901749727, 11830785691895369039, 6215100860000502273, 3084694277248389144, 16700214332683074198, 1701067029580549681, 2935021215067160996, 10064659787097191500, 7604822824502759976, 1494105689337672248, 12626178481354463734, 2395136601172298592, 4068135589652482799, 15567196270789777948, 4732526861918809121, 2821496240805205513, 5710775155925759758, 9794593245826189275, 17281148776925903127, 7447477925633355381]
def kz8 : List Nat := [16652500485267009945, 10958849981877258258, 8853714237097736841, 2003963211515332167, 18104358148906917239, 11379445100294208094, 10437317241808364805, 8212908831415405867, 9091928497337800534, 14059751231478270153, 15001885449949867721, 6759228644865529140, 11075707692260412524, 3034373526708073059, 4872532784904879032, 4459999803740524546, 41374170015054282, 7214229506690688943, 13879932992727109603, 15786098323946766905, 12482833305138999423, 7737943208738395468, 10835449165856946809, 6784889229701620112, 2508743159882295470]
def kz9 : List Nat := [3501041463853948136, 10866310098799002248, 13309280585677824928, 8654994258840324854, 6845067337239913332, 10088136376365509866, 8098513356096791269, 6638350475764314625, 16001711104195941451, 10607400498603605150, 5131225480281754274, 5160469520704435485, 15018657285952792984, 16484085553422753372, 5931322006392875968, 3577803676181472141, 4870467447592949037, 5364253307864407449, 3089172411618606127, 16799288664504418060, 17410098619877022889, 17855808120993975832, 4231817637990851498, 8355222551094640687, 5005734266266153514]
def kz10 : List Nat := [3588163770990522304, 16479335626328639697, 11358907911893817070, 9119139129432285044, 13070366473402436328, 892731343442222162, 3690821324981009122, 15080028204771130150, 10354797854562857201, 10559463638913953956, 1883451539796691472, 2574107618984411294, 8774546256790412988, 17323304761403437493, 6567054393697289103, 8473902787459112510, 11348671707764966528, 10848509050259388225, 11998475766630087972, 13057299392584623156, 7315709613345793070, 2954040636079341264, 13505517057123953559, 6991998196266149583, 1779899004829303985]
def kz11 : List Nat := [8317352591327817587, 3347101423491892088, 13812284588227636790, 6672945709382097013, 14828349229463845968, 17723229868831098326, 17401130588186959855, 16478565068789518457, 6492452647977334912, 11881899180789479218, 16234817029224417455, 15219752985751753243, 7353976000907867650, 14188031598247865105, 15212311666827251122, 11629652489896499652, 9435989968869629838, 3918343313233240239, 7628695717460153542, 12309003921403265649, 345338872853187944, 12040357248728011954, 3576113714317971609, 6768822272106030756, 5816751084285246094]
def kz12 : List Nat := [4650443609753860646, 9514407034135748299, 1325603491995511509, 5593257647634540243, 4316689694591141959, 7056436588513633967, 3922974518795920519, 9361284003398536963, 12348570714043139801, 9410505497913992340, 3614675582850630850, 6265106893083717952, 15812212848177019826, 5971330993120196744, 10998285978683370913, 11166777828240479175, 7385351289822635840, 13873470266315090419, 6746683412968993695, 16204117485081817578, 8627448812002334210, 5809981248579074143, 17919282347891220598, 3921880343594863541, 4864618403575458388]
def kz13 : List Nat := [7245703133969760514, 7308377745558090787, 3024039199793975669, 10475161913693405315, 2229594443943537715, 1378705438878885022, 8836084697270343616, 11673226748516941160, 18083512963210699487, 12838525556441833447, 5648153304207930123, 200746312536593849, 7587304358451870209, 653040454587139786, 1931695478642165446, 3646385758086716037, 12146637998669364084, 17157368884712978469, 149421579872863289, 4990703509122231361, 15561585888115575213, 8444020517878950322, 591672357007603357, 17168445266072961336, 4351942371301754975]
def kz14 : List Nat := [17439252233509255564, 225517064072369678, 15197560361869801136, 8492230603760171635, 10118468664873174202, 12554236390675866429, 12173151878110805572, 9455058762890676721, 9002967087103684324, 9992720627576564325, 17592825898690150793, 4755568919312351197, 9828710851794728048, 16554068888394836059, 8580092000238620822, 4104430996807219279, 11083037563608643568, 16029629053423442691, 18027075810091538878, 321245942758965115, 12925451596010538097, 3580536083181318658, 13705588460631989968, 2207116526748302063, 11336349477551892250]
def kz15 : List Nat := [499396319318338511, 16598296433848699861, 15691981808115297129, 10697062245742628075, 17662185775433183365, 15198026603042879035, 17681084710937697917, 17755093159386811165, 14547892052690005938, 15104501572478572213, 286948984759750043, 4662839012690330110, 7340557698684567957, 6044892770335615963, 10415756869583199755, 17381047550606275810, 5486050556617844861, 5053899052200358206, 1279029575438066304, 5815463311262729061, 11540426632486290650, 3026182386453255318, 16537225085018891701, 7167013066012819519, 10141258868901884673]
def kz16 : List Nat := [186002755084198633, 7875549592229816171, 9703448628059580448, 6646444096150176270, 3615341345388919404, 3313702318915902065, 10134537690255397471, 8650438741776573648, 4390978572871648799, 14217650920017756974, 9087041697269418990, 14373159467704673966, 5255045852942200727, 10258247457295693610, 15892810380627109876, 14111119864122843793, 7843847541910009792, 8089379539919030870, 1834752850737808486, 14947608865877749509, 110835202157518283, 4177540581383386439, 8393105401651434609, 3159292081379106824, 13891385438665554005]
def kz17 : List Nat := [6716291398528649463, 16391965146650181165, 2794497005640006125, 11710730763712689336, 4037405288066120869, 3403361017319292852, 13180373384165051230, 10233231434755573125, 10963788867206603626, 8589604176294192504, 3829608956599346575, 17426361824248781213, 16313352582187060622, 4388287183312660536, 9780889371646087808, 11263013982753163662, 1208546673079813604, 8050592666418949312, 272947985853373533, 9534150378871926847, 10754727055769708014, 16852918939728349808, 6914530605635947640, 3357021228669245880, 8102025041947792827]
def kz18 : List Nat := [18149280721822949722, 539526793548296401, 11661866098113585304, 7100884252528479893, 7469495395882332108, 5460818120427043918, 8742384449443698268, 1361554367008491383, 7085858075342652681, 11138928806790670707, 10459659801701106666, 6179385343127973987, 5123603521173107509, 9266642088453662825, 3610247510912169124, 17535552123380205002, 6248378395162313301, 9561200739418372520, 9600864127987880469, 5804043717017853077, 8306236823340613794, 9785417608908625087, 4206999055586865845, 7900798310843028543, 14412064137475721620]
def kz19 : List Nat := [6457439440067997249, 13777849160320812261, 616247764888011782, 18194773996632560686, 4317179055567775779, 10083899805088772974, 7405719902982344870, 16100953298539987401, 12973085787754562031, 11972577103329552289, 7125480735910323634, 8219049419739706134, 3736733898207096611, 5913531013532143610, 3781114905091265875, 6693617783122012049, 10606185885997594585, 1219971372489852293, 10293467154871768158, 14810438646472817735, 11677429713754339580, 7135791663349222731, 13948538720430871162, 8962078475333775097, 10458764881410098076]
def kz20 : List Nat := [1881051358956524749, 8572342599578983420, 11933814230067883054, 16408968794787853844, 14082361430812143700, 7538106832265153721, 8793108538781928194, 10043264159957555297, 3887159526106900527, 10326454849488601812, 7145899200533365357, 3103641480972357220, 6151549654018979848, 7808537864706395097, 426832309038534551, 1752534105689487068, 12346090185973467920, 12393401280729133898, 3970681348523150730, 6388263871030754969, 12292229775085606426, 2429580131723667355, 12176686534785315901, 6767971518393992046, 5431456042628866740]
def kz21 : List Nat := [14670043827740809541, 10264481673677809263, 17289506751991670883, 14686210873594737935, 17309737919434675575, 8558224471215489306, 9867857203901322237, 665584300878412199, 12663381835802215442, 4375065056720982241, 6610362230856625798, 17129996464193748975, 17482660416114875713, 16106443241972327496, 12838202336223410952, 10866956683475865697, 5817714534208750732, 14903195188729727398, 1181230696816515997, 7674637775517888862, 11697750878443596454, 17842043107102873364, 12213993094098217275, 14655586352935638098, 15842378043616538049]
def kz22 : List Nat := [2149020316059959583, 4480083049744348910, 1273588417966463296, 15766972460458433346, 8560527992384500625, 3686627936143892766, 8755611411202149012, 2832524706795739853, 11201653529761616664, 9520020058357152317, 17377655190274623177, 3088928373660210309, 9529232775671115915, 16066398500001929518, 13818642385023979371, 6938803179744280570, 6153620101357422073, 9113291186175413007, 598736750830588311, 6631432716220780029, 12726974436539949356, 5810384416721007283, 3145999531509890666, 14700409590898811427, 835051425122426489]
def kz23 : List Nat := [1021834983209491063, 271587765569717919, 4776059245685303294, 6929972956618907976, 15632760037079799599, 335373011243745427, 4458191160998101431, 1054086133152375554, 2747216341432570284, 16716089959809353091, 18427037088977732910, 8502882582543089190, 15262916258997799331, 1649067881221390653, 16305756012321036251, 6396788823285448910, 16280709970257755463, 968684198036765735, 17453107891981340679, 14208300252181521039, 8344225276973693085, 15466940913106191879, 9691424745450112199, 11326521537916162858, 14617465633943149704]
def kz24 : List Nat := [17376452488221285863, 9571781953733019530, 15391093639620504046, 13624874521033984333, 10027350355371872343, 18417369716475457492, 10448040663659726788, 10113917136857017974, 12479658147685402012, 3500241080921619556, 16959053435453822517, 12224711289652453635, 9342009439668884831, 4879704952849025062, 140226327413610143, 424854978622500449, 7259519967065370866, 7004910057750291985, 13293599522548616907, 10105770293752443592, 10668034807192757780, 1747952066141424100, 1654286879329379778, 8500057116360352059, 16929593379567477321]
theorem kz_step0 : ∀ k, k < 25 → rdL (evS kz0) 0 k = evS kz1 k := by decide +kernel
theorem kz_step1 : ∀ k, k < 25 → rdL (evS kz1) 1 k = evS kz2 k := by decide +kernel
theorem kz_step2 : ∀ k, k < 25 → rdL (evS kz2) 2 k = evS kz3 k := by decide +kernel
theorem kz_step3 : ∀ k, k < 25 → rdL (evS kz3) 3 k = evS kz4 k := by decide +kernel
theorem kz_step4 : ∀ k, k < 25 → rdL (evS kz4) 4 k = evS kz5 k := by decide +kernel
theorem kz_step5 : ∀ k, k < 25 → rdL (evS kz5) 5 k = evS kz6 k := by decide +kernel
theorem kz_step6 : ∀ k, k < 25 → rdL (evS kz6) 6 k = evS kz7 k := by decide +kernel
theorem kz_step7 : ∀ k, k < 25 → rdL (evS kz7) 7 k = evS kz8 k := by decide +kernel
theorem kz_step8 : ∀ k, k < 25 → rdL (evS kz8) 8 k = evS kz9 k := by decide +kernel
theorem kz_step9 : ∀ k, k < 25 → rdL (evS kz9) 9 k = evS kz10 k := by decide +kernel
theorem kz_step10 : ∀ k, k < 25 → rdL (evS kz10) 10 k = evS kz11 k := by decide +kernel
theorem kz_step11 : ∀ k, k < 25 → rdL (evS kz11) 11 k = evS kz12 k := by decide +kernel
theorem kz_step12 : ∀ k, k < 25 → rdL (evS kz12) 12 k = evS kz13 k := by decide +kernel
theorem kz_step13 : ∀ k, k < 25 → rdL (evS kz13) 13 k = evS kz14 k := by decide +kernel
theorem kz_step14 : ∀ k, k < 25 → rdL (evS kz14) 14 k = evS kz15 k := by decide +kernel
theorem kz_step15 : ∀ k, k < 25 → rdL (evS kz15) 15 k = evS kz16 k := by decide +kernel
theorem kz_step16 : ∀ k, k < 25 → rdL (evS kz16) 16 k = evS kz17 k := by decide +kernel
theorem kz_step17 : ∀ k, k < 25 → rdL (evS kz17) 17 k = evS kz18 k := by decide +kernel
theorem kz_step18 : ∀ k, k < 25 → rdL (evS kz18) 18 k = evS kz19 k := by decide +kernel
theorem kz_step19 : ∀ k, k < 25 → rdL (evS kz19) 19 k = evS kz20 k := by decide +kernel
theorem kz_step20 : ∀ k, k < 25 → rdL (evS kz20) 20 k = evS kz21 k := by decide +kernel
theorem kz_step21 : ∀ k, k < 25 → rdL (evS kz21) 21 k = evS kz22 k := by decide +kernel
theorem kz_step22 : ∀ k, k < 25 → rdL (evS kz22) 22 k = evS kz23 k := by decide +kernel
theorem kz_step23 : ∀ k, k < 25 → rdL (evS kz23) 23 k = evS kz24 k := by decide +kernel
theorem kz_lt0 : ∀ k, evS kz0 k < 18446744073709551616 := evS_lt _ (by decide)
theorem kz_lt1 : ∀ k, evS kz1 k < 18446744073709551616 := evS_lt _ (by decide)
theorem kz_lt2 : ∀ k, evS kz2 k < 18446744073709551616 := evS_lt _ (by decide)
theorem kz_lt3 : ∀ k, evS kz3 k < 18446744073709551616 := evS_lt _ (by decide)
theorem kz_lt4 : ∀ k, evS kz4 k < 18446744073709551616 := evS_lt _ (by decide)
theorem kz_lt5 : ∀ k, evS kz5 k < 18446744073709551616 := evS_lt _ (by decide)
theorem kz_lt6 : ∀ k, evS kz6 k < 18446744073709551616 := evS_lt _ (by decide)
theorem kz_lt7 : ∀ k, evS kz7 k < 18446744073709551616 := evS_lt _ (by decide)
theorem kz_lt8 : ∀ k, evS kz8 k < 18446744073709551616 := evS_lt _ (by decide)
theorem kz_lt9 : ∀ k, evS kz9 k < 18446744073709551616 := evS_lt _ (by decide)
theorem kz_lt10 : ∀ k, evS kz10 k < 18446744073709551616 := evS_lt _ (by decide)
theorem kz_lt11 : ∀ k, evS kz11 k < 18446744073709551616 := evS_lt _ (by decide)
theorem kz_lt12 : ∀ k, evS kz12 k < 18446744073709551616 := evS_lt _ (by decide)
theorem kz_lt13 : ∀ k, evS kz13 k < 18446744073709551616 := evS_lt _ (by decide)
theorem kz_lt14 : ∀ k, evS kz14 k < 18446744073709551616 := evS_lt _ (by decide)
theorem kz_lt15 : ∀ k, evS kz15 k < 18446744073709551616 := evS_lt _ (by decide)
theorem kz_lt16 : ∀ k, evS kz16 k < 18446744073709551616 := evS_lt _ (by decide)
theorem kz_lt17 : ∀ k, evS kz17 k < 18446744073709551616 := evS_lt _ (by decide)
theorem kz_lt18 : ∀ k, evS kz18 k < 18446744073709551616 := evS_lt _ (by decide)
theorem kz_lt19 : ∀ k, evS kz19 k < 18446744073709551616 := evS_lt _ (by decide)
theorem kz_lt20 : ∀ k, evS kz20 k < 18446744073709551616 := evS_lt _ (by decide)
theorem kz_lt21 : ∀ k, evS kz21 k < 18446744073709551616 := evS_lt _ (by decide)
theorem kz_lt22 : ∀ k, evS kz22 k < 18446744073709551616 := evS_lt _ (by decide)
theorem kz_lt23 : ∀ k, evS kz23 k < 18446744073709551616 := evS_lt _ (by decide)
theorem kz_lt24 : ∀ k, evS kz24 k < 18446744073709551616 := evS_lt _ (by decide)
theorem kz_all (f : Nat → Nat) (hf : ∀ k, k < 25 → f k = evS kz0 k) : ∀ k, k < 25 → rdsF f 24 k = evS kz24 k := by
  have h0 := hf
  have h1 : ∀ k, k < 25 → rdsF f 1 k = evS kz1 k := evS_step f 0 (by decide) kz0 kz1 kz_lt0 kz_step0 h0
  have h2 : ∀ k, k < 25 → rdsF f 2 k = evS kz2 k := evS_step f 1 (by decide) kz1 kz2 kz_lt1 kz_step1 h1
  have h3 : ∀ k, k < 25 → rdsF f 3 k = evS kz3 k := evS_step f 2 (by decide) kz2 kz3 kz_lt2 kz_step2 h2
  have h4 : ∀ k, k < 25 → rdsF f 4 k = evS kz4 k := evS_step f 3 (by decide) kz3 kz4 kz_lt3 kz_step3 h3
  have h5 : ∀ k, k < 25 → rdsF f 5 k = evS kz5 k := evS_step f 4 (by decide) kz4 kz5 kz_lt4 kz_step4 h4
  have h6 : ∀ k, k < 25 → rdsF f 6 k = evS kz6 k := evS_step f 5 (by decide) kz5 kz6 kz_lt5 kz_step5 h5
  have h7 : ∀ k, k < 25 → rdsF f 7 k = evS kz7 k := evS_step f 6 (by decide) kz6 kz7 kz_lt6 kz_step6 h6
  have h8 : ∀ k, k < 25 → rdsF f 8 k = evS kz8 k := evS_step f 7 (by decide) kz7 kz8 kz_lt7 kz_step7 h7
  have h9 : ∀ k, k < 25 → rdsF f 9 k = evS kz9 k := evS_step f 8 (by decide) kz8 kz9 kz_lt8 kz_step8 h8
  have h10 : ∀ k, k < 25 → rdsF f 10 k = evS kz10 k := evS_step f 9 (by decide) kz9 kz10 kz_lt9 kz_step9 h9
  have h11 : ∀ k, k < 25 → rdsF f 11 k = evS kz11 k := evS_step f 10 (by decide) kz10 kz11 kz_lt10 kz_step10 h10
  have h12 : ∀ k, k < 25 → rdsF f 12 k = evS kz12 k := evS_step f 11 (by decide) kz11 kz12 kz_lt11 kz_step11 h11
  have h13 : ∀ k, k < 25 → rdsF f 13 k = evS kz13 k := evS_step f 12 (by decide) kz12 kz13 kz_lt12 kz_step12 h12
  have h14 : ∀ k, k < 25 → rdsF f 14 k = evS kz14 k := evS_step f 13 (by decide) kz13 kz14 kz_lt13 kz_step13 h13
  have h15 : ∀ k, k < 25 → rdsF f 15 k = evS kz15 k := evS_step f 14 (by decide) kz14 kz15 kz_lt14 kz_step14 h14
  have h16 : ∀ k, k < 25 → rdsF f 16 k = evS kz16 k := evS_step f 15 (by decide) kz15 kz16 kz_lt15 kz_step15 h15
  have h17 : ∀ k, k < 25 → rdsF f 17 k = evS kz17 k := evS_step f 16 (by decide) kz16 kz17 kz_lt16 kz_step16 h16
  have h18 : ∀ k, k < 25 → rdsF f 18 k = evS kz18 k := evS_step f 17 (by decide) kz17 kz18 kz_lt17 kz_step17 h17
  have h19 : ∀ k, k < 25 → rdsF f 19 k = evS kz19 k := evS_step f 18 (by decide) kz18 kz19 kz_lt18 kz_step18 h18
  have h20 : ∀ k, k < 25 → rdsF f 20 k = evS kz20 k := evS_step f 19 (by decide) kz19 kz20 kz_lt19 kz_step19 h19
  have h21 : ∀ k, k < 25 → rdsF f 21 k = evS kz21 k := evS_step f 20 (by decide) kz20 kz21 kz_lt20 kz_step20 h20
  have h22 : ∀ k, k < 25 → rdsF f 22 k = evS kz22 k := evS_step f 21 (by decide) kz21 kz22 kz_lt21 kz_step21 h21
  have h23 : ∀ k, k < 25 → rdsF f 23 k = evS kz23 k := evS_step f 22 (by decide) kz22 kz23 kz_lt22 kz_step22 h22
  have h24 : ∀ k, k < 25 → rdsF f 24 k = evS kz24 k := evS_step f 23 (by decide) kz23 kz24 kz_lt23 kz_step23 h23
  exact h24
end Go.Proofs.YtfiefohdceokdaaDoor
