/- What the proofs of this seat stand on and that names no program: memory, rows, arrays, regions, and plain mathematics; several texts in one. -/
import Derived.Test.YtliiofjcghdjoaaDoorBase
import Derived.WalkKit

/- The document's steps Rho, Pi, Chi and the constants' bits, as far as they are made at each point of their loops: plain mathematics. No program's text is named. -/
namespace Go.Proofs.YtliiofjcghdjoaaDoor
set_option linter.unusedSimpArgs false
set_option linter.unusedVariables false

/-! ### One bit more anywhere -/
theorem ofB_flip (g : Nat → Bool) (p : Nat) (hg : g p = false) : ∀ n, p < n → ofB (fun i => if i = p then true else g i) n = ofB g n + 2 ^ p
  | 0, h => by omega
  | n + 1, h => by
    rw [ofB_succ, ofB_succ]
    by_cases e : p = n
    · subst e
      have h1 : ofB (fun i => if i = p then true else g i) p = ofB g p := ofB_congr p fun i hi => by simp [show i ≠ p by omega]
      rw [h1]
      simp [hg]
    · have ih := ofB_flip g p hg n (by omega)
      rw [ih]
      simp only [show n ≠ p from fun h => e h.symm, if_false]
      omega

/-! ### Pi -/
def piF (f : Nat → Nat) (i : Nat) : Nat := f ((i % 5 + 3 * (i / 5)) % 5 + 5 * (i % 5))
def piP (f : Nat → Nat) (X Y : Nat) (i : Nat) : Nat := if i % 5 < X ∨ (i % 5 = X ∧ i / 5 < Y) then piF f i else 0
theorem piP_start (f : Nat → Nat) : stL (fun _ => 0) = stL (piP f 0 0) := stL_congr fun i hi => by simp [piP]
theorem piP_end (f : Nat → Nat) (X : Nat) : stL (piP f X 5) = stL (piP f (X + 1) 0) := stL_congr fun i hi => by
  unfold piP
  have h1 : (i % 5 < X ∨ i % 5 = X ∧ i / 5 < 5) ↔ (i % 5 < X + 1 ∨ i % 5 = X + 1 ∧ i / 5 < 0) := by omega
  simp only [h1]
theorem piP_done (f : Nat → Nat) : stL (piP f 5 0) = stL (piF f) := stL_congr fun i hi => by
  unfold piP
  simp [show i % 5 < 5 by omega]
theorem piP_set (f : Nat → Nat) (X Y : Nat) (hX : X < 5) (hY : Y < 5) : (stL (piP f X Y)).set (X + 5 * Y) ((f ((X + 3 * Y) % 5 + 5 * X) : Nat) : Int) = stL (piP f X (Y + 1)) := by
  rw [stL_set]
  refine stL_congr fun i hi => ?_
  by_cases e : i = X + 5 * Y
  · subst e
    have e1 : (X + 5 * Y) % 5 = X := by omega
    have e2 : (X + 5 * Y) / 5 = Y := by omega
    simp [piP, piF, e1, e2]
  · simp only [e, if_false]
    unfold piP
    have h1 : (i % 5 < X ∨ i % 5 = X ∧ i / 5 < Y) ↔ (i % 5 < X ∨ i % 5 = X ∧ i / 5 < Y + 1) := by omega
    simp only [h1]

/-! ### Chi -/
def chB (f : Nat → Nat) (x y z : Nat) : Bool := decide ((bitN f x y z + if bitN f ((x + 1) % 5) y z = 0 ∧ bitN f ((x + 2) % 5) y z = 1 then 1 else 0) % 2 = 1)
def chF (f : Nat → Nat) (i : Nat) : Nat := ofB (chB f (i % 5) (i / 5)) 64
def chP (f : Nat → Nat) (X Y Z : Nat) (i : Nat) : Nat :=
  if i % 5 < X ∨ (i % 5 = X ∧ i / 5 < Y) then chF f i else if i % 5 = X ∧ i / 5 = Y then ofB (chB f X Y) Z else 0
theorem chP_start (f : Nat → Nat) : stL (fun _ => 0) = stL (chP f 0 0 0) := stL_congr fun i hi => by simp [chP, ofB]
theorem chP_laneEnd (f : Nat → Nat) (X Y : Nat) : stL (chP f X Y 64) = stL (chP f X (Y + 1) 0) := stL_congr fun i hi => by
  unfold chP
  by_cases h1 : i % 5 < X ∨ (i % 5 = X ∧ i / 5 < Y)
  · rw [if_pos h1, if_pos (by omega)]
  · by_cases h2 : i % 5 = X ∧ i / 5 = Y
    · rw [if_neg h1, if_pos h2, if_pos (by omega)]
      unfold chF
      rw [h2.1, h2.2]
    · rw [if_neg h1, if_neg h2, if_neg (by omega)]
      split <;> simp [ofB]
theorem chP_colEnd (f : Nat → Nat) (X : Nat) : stL (chP f X 5 0) = stL (chP f (X + 1) 0 0) := stL_congr fun i hi => by
  unfold chP
  by_cases h1 : i % 5 < X ∨ (i % 5 = X ∧ i / 5 < 5)
  · rw [if_pos h1, if_pos (by omega)]
  · rw [if_neg h1, if_neg (by omega), if_neg (by omega)]
    split <;> simp [ofB]
theorem chP_done (f : Nat → Nat) : stL (chP f 5 0 0) = stL (chF f) := stL_congr fun i hi => by
  unfold chP
  rw [if_pos (by omega)]
theorem chP_skip (f : Nat → Nat) (X Y Z : Nat) (h : chB f X Y Z = false) : stL (chP f X Y Z) = stL (chP f X Y (Z + 1)) := stL_congr fun i hi => by
  unfold chP
  by_cases h1 : i % 5 < X ∨ (i % 5 = X ∧ i / 5 < Y)
  · rw [if_pos h1, if_pos h1]
  · rw [if_neg h1, if_neg h1]
    simp [ofB_succ, h]
theorem chP_lane (f : Nat → Nat) (X Y Z : Nat) (hX : X < 5) : chP f X Y Z (X + 5 * Y) = ofB (chB f X Y) Z := by
  have e1 : (X + 5 * Y) % 5 = X := by omega
  have e2 : (X + 5 * Y) / 5 = Y := by omega
  simp [chP, e1, e2]
theorem chP_put (f : Nat → Nat) (X Y Z : Nat) (hX : X < 5) (h : chB f X Y Z = true) :
    (stL (chP f X Y Z)).set (X + 5 * Y) ((chP f X Y Z (X + 5 * Y) + 2 ^ Z : Nat) : Int) = stL (chP f X Y (Z + 1)) := by
  rw [stL_set]
  refine stL_congr fun i hi => ?_
  by_cases e : i = X + 5 * Y
  · subst e
    simp only [if_true]
    rw [chP_lane f X Y Z hX, chP_lane f X Y (Z + 1) hX, ofB_succ]
    simp [h]
  · simp only [e, if_false]
    unfold chP
    have h2 : ¬ (i % 5 = X ∧ i / 5 = Y) := by omega
    simp only [h2, if_false]
theorem pow_room (g : Nat → Bool) (Z : Nat) (hZ : Z < 64) : ofB g Z + 2 ^ Z < 18446744073709551616 := by
  have h1 := ofB_lt g Z
  have h2 := Nat.pow_le_pow_right (show 0 < 2 by decide) (show Z + 1 ≤ 64 by omega)
  have h3 : 2 ^ 64 = 18446744073709551616 := by decide
  rw [Nat.pow_succ] at h2
  omega

/-! ### Rho -/
/-- Where the walk over the lanes stands behind t steps, as x and y. -/
def rhXY : Nat → Nat × Nat
  | 0 => (1, 0)
  | t + 1 => ((rhXY t).2, (2 * (rhXY t).1 + 3 * (rhXY t).2) % 5)
def rhPos (t : Nat) : Nat := (rhXY t).1 + 5 * (rhXY t).2
def rhBy (t : Nat) : Nat := (t + 1) * (t + 2) / 2 % 64
/-- At which step lane i comes. -/
def rhTau (i : Nat) : Nat := (List.range 24).findIdx fun t => rhPos t == i
theorem rhXY_lt : ∀ t, t < 25 → (rhXY t).1 < 5 ∧ (rhXY t).2 < 5 := by decide
theorem rhTau_pos : ∀ t, t < 24 → rhTau (rhPos t) = t ∧ rhPos t ≠ 0 := by decide
theorem rhPos_tau : ∀ i, i < 25 → i ≠ 0 → rhTau i < 24 ∧ rhPos (rhTau i) = i := by decide
/-- The lane that is turned by step t, as far as its first z bits have come. -/
def rhG (f : Nat → Nat) (t z p : Nat) : Bool := decide ((p + 64 - rhBy t) % 64 < z) && decide (bitN f (rhXY t).1 (rhXY t).2 ((p + 64 - rhBy t) % 64) = 1)
def rhP (f : Nat → Nat) (t z : Nat) (i : Nat) : Nat :=
  if i = 0 then f 0 else if rhTau i < t then ofB (rhG f (rhTau i) 64) 64 else if rhTau i = t then ofB (rhG f t z) 64 else 0
def rhF (f : Nat → Nat) (i : Nat) : Nat := if i = 0 then f 0 else ofB (rhG f (rhTau i) 64) 64
theorem rhBy_lt (t : Nat) : rhBy t < 64 := Nat.mod_lt _ (by decide)
theorem rhG_zero (f : Nat → Nat) (t : Nat) : ofB (rhG f t 0) 64 = 0 := by
  have h : ∀ n, ofB (fun _ => false) n = 0 := by
    intro n
    induction n with
    | zero => rfl
    | succ n ih => simp [ofB_succ, ih]
  rw [ofB_congr (h := fun _ => false) 64 (fun i hi => by simp [rhG]), h]
theorem rhP_start (f : Nat → Nat) : (stL (fun _ => 0)).set 0 ((f 0 : Nat) : Int) = stL (rhP f 0 0) := by
  rw [stL_set]
  refine stL_congr fun i hi => ?_
  unfold rhP
  by_cases h : i = 0
  · simp [h]
  · simp only [h, if_false, Nat.not_lt_zero]
    split
    · exact (rhG_zero f 0).symm
    · rfl
theorem rhP_stepEnd (f : Nat → Nat) (t : Nat) (ht : t < 24) : stL (rhP f t 64) = stL (rhP f (t + 1) 0) := stL_congr fun i hi => by
  unfold rhP
  by_cases h : i = 0
  · simp [h]
  · simp only [h, if_false]
    by_cases h1 : rhTau i < t
    · simp [h1, show rhTau i < t + 1 by omega]
    · by_cases h2 : rhTau i = t
      · simp [h2]
      · simp only [h1, h2, show ¬ rhTau i < t + 1 by omega, if_false]
        split
        · exact (rhG_zero f (t + 1)).symm
        · rfl
theorem rhP_done (f : Nat → Nat) : stL (rhP f 24 0) = stL (rhF f) := stL_congr fun i hi => by
  unfold rhP rhF
  by_cases h : i = 0
  · simp [h]
  · simp [h, (rhPos_tau i hi h).1]
theorem rhG_succ (f : Nat → Nat) (t z : Nat) (hz : z < 64) (i : Nat) (hi : i < 64) :
    rhG f t (z + 1) i = if i = (z + rhBy t) % 64 then decide (bitN f (rhXY t).1 (rhXY t).2 z = 1) else rhG f t z i := by
  have hb := rhBy_lt t
  unfold rhG
  by_cases e : i = (z + rhBy t) % 64
  · have e2 : (i + 64 - rhBy t) % 64 = z := by omega
    simp [e2, e.symm]
  · have e2 : (i + 64 - rhBy t) % 64 ≠ z := by omega
    simp only [e, if_false]
    have e3 : ((i + 64 - rhBy t) % 64 < z + 1) ↔ ((i + 64 - rhBy t) % 64 < z) := by omega
    simp only [e3]
theorem rhG_fresh (f : Nat → Nat) (t z : Nat) (hz : z < 64) : rhG f t z ((z + rhBy t) % 64) = false := by
  have hb := rhBy_lt t
  unfold rhG
  have e2 : ((z + rhBy t) % 64 + 64 - rhBy t) % 64 = z := by omega
  simp [e2]
theorem rhG_skip (f : Nat → Nat) (t z : Nat) (hz : z < 64) (h : bitN f (rhXY t).1 (rhXY t).2 z ≠ 1) : ofB (rhG f t z) 64 = ofB (rhG f t (z + 1)) 64 :=
  ofB_congr 64 fun i hi => by
    rw [rhG_succ f t z hz i hi]
    by_cases e : i = (z + rhBy t) % 64
    · subst e
      rw [rhG_fresh f t z hz]
      simp [h]
    · simp [e]
theorem rhG_put (f : Nat → Nat) (t z : Nat) (hz : z < 64) (h : bitN f (rhXY t).1 (rhXY t).2 z = 1) : ofB (rhG f t z) 64 + 2 ^ ((z + rhBy t) % 64) = ofB (rhG f t (z + 1)) 64 := by
  rw [← ofB_flip (rhG f t z) ((z + rhBy t) % 64) (rhG_fresh f t z hz) 64 (Nat.mod_lt _ (by decide))]
  refine (ofB_congr 64 fun i hi => ?_).symm
  rw [rhG_succ f t z hz i hi]
  by_cases e : i = (z + rhBy t) % 64 <;> simp [e, h]
theorem rhP_lane (f : Nat → Nat) (t z : Nat) (ht : t < 24) : rhP f t z (rhPos t) = ofB (rhG f t z) 64 := by
  obtain ⟨h1, h2⟩ := rhTau_pos t ht
  simp [rhP, h1, h2]
theorem rhP_skip (f : Nat → Nat) (t z : Nat) (hz : z < 64) (h : bitN f (rhXY t).1 (rhXY t).2 z ≠ 1) : stL (rhP f t z) = stL (rhP f t (z + 1)) := stL_congr fun i hi => by
  unfold rhP
  rw [rhG_skip f t z hz h]
theorem rhP_put (f : Nat → Nat) (t z : Nat) (ht : t < 24) (hz : z < 64) (h : bitN f (rhXY t).1 (rhXY t).2 z = 1) :
    (stL (rhP f t z)).set ((rhXY t).1 + 5 * (rhXY t).2) ((rhP f t z ((rhXY t).1 + 5 * (rhXY t).2) + 2 ^ ((z + rhBy t) % 64) : Nat) : Int) = stL (rhP f t (z + 1)) := by
  have hp : (rhXY t).1 + 5 * (rhXY t).2 = rhPos t := rfl
  rw [hp, stL_set]
  refine stL_congr fun i hi => ?_
  by_cases e : i = rhPos t
  · subst e
    simp only [if_true]
    rw [rhP_lane f t z ht, rhP_lane f t (z + 1) ht]
    exact rhG_put f t z hz h
  · simp only [e, if_false]
    unfold rhP
    by_cases h0 : i = 0
    · simp [h0]
    · have h1 : rhTau i ≠ t := by
        intro h2
        exact e (by rw [← h2]; exact ((rhPos_tau i hi h0).2).symm)
      simp [h0, h1]
theorem rhP_room (f : Nat → Nat) (t z : Nat) (ht : t < 24) (hz : z < 64) (h : bitN f (rhXY t).1 (rhXY t).2 z = 1) : rhP f t z ((rhXY t).1 + 5 * (rhXY t).2) + 2 ^ ((z + rhBy t) % 64) < 18446744073709551616 := by
  have hp : (rhXY t).1 + 5 * (rhXY t).2 = rhPos t := rfl
  rw [hp, rhP_lane f t z ht, rhG_put f t z hz h]
  exact ofB_64 _ _ (Nat.le_refl _)

/-! ### The bits of the constants -/
def rcStep (r : List Int) : List Int :=
  [r.getD 7 0 % 2, r.getD 0 0, r.getD 1 0, r.getD 2 0, (r.getD 3 0 + r.getD 7 0) % 2, (r.getD 4 0 + r.getD 7 0) % 2, (r.getD 5 0 + r.getD 7 0) % 2, r.getD 6 0]
def rcS : Nat → List Int
  | 0 => [1, 0, 0, 0, 0, 0, 0, 0]
  | n + 1 => rcStep (rcS n)
theorem rcS_ok : ∀ n, ∃ a b c d e f g h : Int, rcS n = [a, b, c, d, e, f, g, h] ∧ (0 ≤ a ∧ a ≤ 1) ∧ (0 ≤ b ∧ b ≤ 1) ∧ (0 ≤ c ∧ c ≤ 1) ∧ (0 ≤ d ∧ d ≤ 1) ∧ (0 ≤ e ∧ e ≤ 1) ∧ (0 ≤ f ∧ f ≤ 1) ∧ (0 ≤ g ∧ g ≤ 1) ∧ (0 ≤ h ∧ h ≤ 1)
  | 0 => ⟨1, 0, 0, 0, 0, 0, 0, 0, rfl, by decide, by decide, by decide, by decide, by decide, by decide, by decide, by decide⟩
  | n + 1 => by
    obtain ⟨a, b, c, d, e, f, g, h, he, ha, hb, hc, hd, he', hf, hg, hh⟩ := rcS_ok n
    refine ⟨h % 2, a, b, c, (d + h) % 2, (e + h) % 2, (f + h) % 2, g, ?_, by omega, ha, hb, hc, by omega, by omega, by omega, hg⟩
    show rcStep (rcS n) = _
    rw [he]
    rfl
end Go.Proofs.YtliiofjcghdjoaaDoor

/- The document's step Iota, rounds, and all rounds: plain mathematics. No program's text is named. -/
namespace Go.Proofs.YtliiofjcghdjoaaDoor
set_option linter.unusedSimpArgs false
set_option linter.unusedVariables false

/-- Bit t of the row that makes the constants. -/
def rcB (t : Nat) : Bool := decide ((rcS (t % 255)).getD 0 0 = 1)
def ioT (i J p : Nat) : Bool := (List.range J).any fun j => decide (p = 2 ^ j - 1) && rcB (j + 7 * i)
def ioG (x i J p : Nat) : Bool := Bool.xor (decide (x / 2 ^ p % 2 = 1)) (ioT i J p)
def ioL (x i J : Nat) : Nat := ofB (ioG x i J) 64
def ioF (f : Nat → Nat) (i k : Nat) : Nat := if k = 0 then ioL (f 0) i 7 else f k
def ioP (f : Nat → Nat) (i J k : Nat) : Nat := if k = 0 then ioL (f 0) i J else f k
theorem ioT_zero (i p : Nat) : ioT i 0 p = false := by simp [ioT]
theorem ioT_succ (i J p : Nat) : ioT i (J + 1) p = (ioT i J p || (decide (p = 2 ^ J - 1) && rcB (J + 7 * i))) := by
  simp [ioT, List.range_succ]
theorem ioT_fresh (i J : Nat) : ioT i J (2 ^ J - 1) = false := by
  unfold ioT
  rw [List.any_eq_false]
  intro j hj
  have hjJ := List.mem_range.1 hj
  have h1 := Nat.pow_lt_pow_right (show 1 < 2 by decide) hjJ
  have h2 := Nat.pow_pos (n := j) (show 0 < 2 by decide)
  have h3 : ¬ (2 ^ J - 1 = 2 ^ j - 1) := by omega
  simp [h3]
theorem ioL_zero (x i : Nat) (hx : x < 18446744073709551616) : ioL x i 0 = x := by
  have e := ofB_self x 64
  have h64 : (2 : Nat) ^ 64 = 18446744073709551616 := by decide
  rw [h64, Nat.mod_eq_of_lt hx] at e
  unfold ioL
  rw [← e]
  refine ofB_congr 64 fun p hp => ?_
  unfold ioG
  rw [ioT_zero, Bool.xor_false, e]
theorem ioL_skip (x i J : Nat) (h : rcB (J + 7 * i) = false) : ioL x i J = ioL x i (J + 1) := ofB_congr 64 fun p hp => by
  unfold ioG
  rw [ioT_succ, h]
  simp
theorem pos_lt (J : Nat) (hJ : J ≤ 6) : 2 ^ J - 1 < 64 := by
  have := Nat.pow_le_pow_right (show 0 < 2 by decide) hJ
  have h6 : 2 ^ 6 = 64 := by decide
  omega
theorem ioG_succ (x i J p : Nat) (h : rcB (J + 7 * i) = true) : ioG x i (J + 1) p = if p = 2 ^ J - 1 then !(ioG x i J p) else ioG x i J p := by
  unfold ioG
  rw [ioT_succ, h]
  by_cases e : p = 2 ^ J - 1
  · have hf := ioT_fresh i J
    rw [← e] at hf
    simp [e.symm, hf]
  · simp [e]
theorem ioL_up (x i J : Nat) (hJ : J ≤ 6) (h : rcB (J + 7 * i) = true) (hb : x / 2 ^ (2 ^ J - 1) % 2 = 0) : ioL x i (J + 1) = ioL x i J + 2 ^ (2 ^ J - 1) := by
  have hg : ioG x i J (2 ^ J - 1) = false := by unfold ioG; rw [ioT_fresh, hb]; rfl
  unfold ioL
  rw [← ofB_flip (ioG x i J) (2 ^ J - 1) hg 64 (pos_lt J hJ)]
  refine ofB_congr 64 fun p hp => ?_
  rw [ioG_succ x i J p h]
  by_cases e : p = 2 ^ J - 1
  · rw [if_pos e, if_pos e, e, hg]; rfl
  · rw [if_neg e, if_neg e]
theorem ioL_down (x i J : Nat) (hJ : J ≤ 6) (h : rcB (J + 7 * i) = true) (hb : x / 2 ^ (2 ^ J - 1) % 2 = 1) : ioL x i (J + 1) + 2 ^ (2 ^ J - 1) = ioL x i J := by
  have hg : ioG x i J (2 ^ J - 1) = true := by unfold ioG; rw [ioT_fresh, hb]; rfl
  have hg2 : ioG x i (J + 1) (2 ^ J - 1) = false := by rw [ioG_succ x i J _ h, if_pos rfl, hg]; rfl
  unfold ioL
  rw [← ofB_flip (ioG x i (J + 1)) (2 ^ J - 1) hg2 64 (pos_lt J hJ)]
  refine ofB_congr 64 fun p hp => ?_
  by_cases e : p = 2 ^ J - 1
  · rw [if_pos e, e, hg]
  · rw [if_neg e, ioG_succ x i J p h, if_neg e]
theorem ioL_lt (x i J : Nat) : ioL x i J < 18446744073709551616 := ofB_64 _ _ (Nat.le_refl _)
theorem ioP_zero (f : Nat → Nat) (i : Nat) (h0 : f 0 < 18446744073709551616) : stL f = stL (ioP f i 0) := stL_congr fun k hk => by
  unfold ioP
  by_cases e : k = 0
  · subst e; rw [if_pos rfl, ioL_zero _ _ h0]
  · rw [if_neg e]
theorem ioP_set (f : Nat → Nat) (i J : Nat) : (stL (ioP f i J)).set 0 ((ioL (f 0) i (J + 1) : Nat) : Int) = stL (ioP f i (J + 1)) := by
  rw [stL_set]
  refine stL_congr fun k hk => ?_
  unfold ioP
  by_cases e : k = 0 <;> simp [e]
theorem ioP_skip (f : Nat → Nat) (i J : Nat) (h : rcB (J + 7 * i) = false) : stL (ioP f i J) = stL (ioP f i (J + 1)) := stL_congr fun k hk => by
  unfold ioP
  rw [ioL_skip _ _ _ h]
theorem ioP_done (f : Nat → Nat) (i : Nat) : stL (ioP f i 7) = stL (ioF f i) := rfl

theorem thF_lt (f : Nat → Nat) (i : Nat) : thF f i < 18446744073709551616 := ofB_64 _ _ (Nat.le_refl _)
theorem chF_lt (f : Nat → Nat) (i : Nat) : chF f i < 18446744073709551616 := ofB_64 _ _ (Nat.le_refl _)
theorem rhF_lt (f : Nat → Nat) (hf : ∀ i, f i < 18446744073709551616) (i : Nat) : rhF f i < 18446744073709551616 := by
  unfold rhF
  split
  · exact hf 0
  · exact ofB_64 _ _ (Nat.le_refl _)
theorem piF_lt (f : Nat → Nat) (hf : ∀ i, f i < 18446744073709551616) (i : Nat) : piF f i < 18446744073709551616 := hf _
theorem ioF_lt (f : Nat → Nat) (hf : ∀ i, f i < 18446744073709551616) (j i : Nat) : ioF f j i < 18446744073709551616 := by
  unfold ioF
  split
  · exact ioL_lt _ _ _
  · exact hf i
/-- A round of a state. -/
def rdF (f : Nat → Nat) (i : Nat) : Nat → Nat := ioF (chF (piF (rhF (thF f)))) i
theorem rdF_lt (f : Nat → Nat) (j i : Nat) : rdF f j i < 18446744073709551616 := ioF_lt _ (chF_lt _) _ _
/-- The first n rounds. -/
def rdsF (f : Nat → Nat) : Nat → Nat → Nat
  | 0 => f
  | n + 1 => rdF (rdsF f n) n
theorem rdsF_lt (f : Nat → Nat) (hf : ∀ i, f i < 18446744073709551616) : ∀ n i, rdsF f n i < 18446744073709551616
  | 0, i => hf i
  | n + 1, i => rdF_lt _ _ _
end Go.Proofs.YtliiofjcghdjoaaDoor

/- Lane by lane what the document says bit by bit: sums, turned lanes, products of lanes, the constants: plain mathematics. No program's text is named. -/
namespace Go.Proofs.YtliiofjcghdjoaaDoor
set_option linter.unusedSimpArgs false
set_option linter.unusedVariables false

/-- Bit z of a number, as a number. -/
def bt (x z : Nat) : Nat := x / 2 ^ z % 2
theorem bt_lt (x z : Nat) : bt x z < 2 := Nat.mod_lt _ (by decide)
theorem bt_test (x z : Nat) : x.testBit z = decide (bt x z = 1) := Nat.testBit_eq_decide_div_mod_eq
theorem bt_of (x z : Nat) : bt x z = (x.testBit z).toNat := by
  rw [bt_test]
  have := bt_lt x z
  have h : bt x z = 0 ∨ bt x z = 1 := by omega
  rcases h with h | h <;> simp [h]
theorem bitN_bt (f : Nat → Nat) (x y z : Nat) : bitN f x y z = bt (f (x + 5 * y)) z := rfl
theorem bt_xor (x y z : Nat) : bt (x ^^^ y) z = (bt x z + bt y z) % 2 := by
  simp only [bt_of, Nat.testBit_xor]
  cases x.testBit z <;> cases y.testBit z <;> rfl
theorem bt_and (x y z : Nat) : bt (x &&& y) z = bt x z * bt y z := by
  simp only [bt_of, Nat.testBit_and]
  cases x.testBit z <;> cases y.testBit z <;> rfl
theorem ext64 {x y : Nat} (hx : x < 18446744073709551616) (hy : y < 18446744073709551616) (h : ∀ z, z < 64 → bt x z = bt y z) : x = y := lanes_ext hx hy h
theorem xor_lt64 {x y : Nat} (hx : x < 18446744073709551616) (hy : y < 18446744073709551616) : x ^^^ y < 18446744073709551616 := by
  have h64 : (2 : Nat) ^ 64 = 18446744073709551616 := by decide
  rw [← h64] at *
  exact Nat.xor_lt_two_pow hx hy

/-! ### A lane that is turned -/
def rotN (x n : Nat) : Nat := x * 2 ^ n % 18446744073709551616 + x / 2 ^ (64 - n)
theorem rotN_bit (x n z : Nat) (hx : x < 18446744073709551616) (hn : n < 64) (hn0 : 0 < n) (hz : z < 64) : bt (rotN x n) z = bt x ((z + 64 - n) % 64) := by
  have h64 : (18446744073709551616 : Nat) = 2 ^ n * 2 ^ (64 - n) := by rw [← Nat.pow_add, show n + (64 - n) = 64 by omega]
  have hB : x / 2 ^ (64 - n) < 2 ^ n := by
    refine Nat.div_lt_of_lt_mul ?_
    rw [Nat.mul_comm, ← h64]
    exact hx
  have e1 : rotN x n = 2 ^ n * (x % 2 ^ (64 - n)) + x / 2 ^ (64 - n) := by
    unfold rotN
    rw [h64, Nat.mul_comm x, Nat.mul_mod_mul_left]
  rw [e1]
  by_cases h : z < n
  · have hz2 : (z + 64 - n) % 64 = 64 - n + z := by omega
    rw [hz2]
    unfold bt
    obtain ⟨d, hd⟩ : ∃ d, n = z + (d + 1) := ⟨n - z - 1, by omega⟩
    have e2 : 2 ^ n * (x % 2 ^ (64 - n)) = 2 ^ z * (2 * (2 ^ d * (x % 2 ^ (64 - n)))) := by
      rw [hd, Nat.pow_add, Nat.pow_succ]
      ac_rfl
    rw [e2, Nat.add_comm, Nat.add_mul_div_left _ _ (Nat.pow_pos (by decide)), Nat.add_mul_mod_self_left, Nat.div_div_eq_div_mul, ← Nat.pow_add]
  · have hz2 : (z + 64 - n) % 64 = z - n := by omega
    rw [hz2]
    have e3 : (2 ^ n * (x % 2 ^ (64 - n)) + x / 2 ^ (64 - n)) / 2 ^ z = x % 2 ^ (64 - n) / 2 ^ (z - n) := by
      obtain ⟨d, hd⟩ : ∃ d, z = n + d := ⟨z - n, by omega⟩
      rw [hd, Nat.pow_add, ← Nat.div_div_eq_div_mul, Nat.mul_add_div (Nat.pow_pos (by decide)), Nat.div_eq_of_lt hB, Nat.add_zero, Nat.add_sub_cancel_left]
    have e4 : bt (x % 2 ^ (64 - n)) (z - n) = bt x (z - n) := by
      rw [bt_of, bt_of, Nat.testBit_mod_two_pow]
      simp [show z - n < 64 - n by omega]
    unfold bt at e4 ⊢
    rw [e3]
    exact e4
theorem rotN_lt (x n : Nat) (hx : x < 18446744073709551616) (hn : n < 64) : rotN x n < 18446744073709551616 := by
  have h64 : (18446744073709551616 : Nat) = 2 ^ n * 2 ^ (64 - n) := by rw [← Nat.pow_add, show n + (64 - n) = 64 by omega]
  have hB : x / 2 ^ (64 - n) < 2 ^ n := by
    refine Nat.div_lt_of_lt_mul ?_
    rw [Nat.mul_comm, ← h64]
    exact hx
  have e1 : rotN x n = 2 ^ n * (x % 2 ^ (64 - n)) + x / 2 ^ (64 - n) := by
    unfold rotN
    rw [h64, Nat.mul_comm x, Nat.mul_mod_mul_left]
  have h2 : x % 2 ^ (64 - n) + 1 ≤ 2 ^ (64 - n) := Nat.mod_lt _ (Nat.pow_pos (by decide))
  have h3 := Nat.mul_le_mul_left (2 ^ n) h2
  rw [← h64, Nat.mul_add] at h3
  omega
/-- Turned by n, 0 too. -/
def turnN (x n : Nat) : Nat := if n = 0 then x else rotN x n
theorem turnN_bit (x n z : Nat) (hx : x < 18446744073709551616) (hn : n < 64) (hz : z < 64) : bt (turnN x n) z = bt x ((z + 64 - n) % 64) := by
  unfold turnN
  split
  · rename_i h; subst h; rw [show (z + 64 - 0) % 64 = z by omega]
  · exact rotN_bit x n z hx hn (by omega) hz
theorem turnN_lt (x n : Nat) (hx : x < 18446744073709551616) (hn : n < 64) : turnN x n < 18446744073709551616 := by
  unfold turnN
  split
  · exact hx
  · exact rotN_lt x n hx hn

/-! ### Theta, lane by lane -/
def colN (f : Nat → Nat) (x : Nat) : Nat := f x ^^^ f (x + 5) ^^^ f (x + 10) ^^^ f (x + 15) ^^^ f (x + 20)
def thL (f : Nat → Nat) (k : Nat) : Nat := f k ^^^ colN f ((k % 5 + 4) % 5) ^^^ turnN (colN f ((k % 5 + 1) % 5)) 1
theorem colN_lt (f : Nat → Nat) (hf : ∀ i, f i < 18446744073709551616) (x : Nat) : colN f x < 18446744073709551616 :=
  xor_lt64 (xor_lt64 (xor_lt64 (xor_lt64 (hf _) (hf _)) (hf _)) (hf _)) (hf _)
theorem colN_bit (f : Nat → Nat) (x z : Nat) : bt (colN f x) z = (bitN f x 0 z + bitN f x 1 z + bitN f x 2 z + bitN f x 3 z + bitN f x 4 z) % 2 := by
  unfold colN
  simp only [bt_xor, bitN_bt]
  simp only [Nat.mul_zero, Nat.add_zero, Nat.mul_one, show 5 * 2 = 10 from rfl, show 5 * 3 = 15 from rfl, show 5 * 4 = 20 from rfl]
  omega
theorem thL_lt (f : Nat → Nat) (hf : ∀ i, f i < 18446744073709551616) (k : Nat) : thL f k < 18446744073709551616 :=
  xor_lt64 (xor_lt64 (hf _) (colN_lt f hf _)) (turnN_lt _ _ (colN_lt f hf _) (by decide))
theorem ofB_bt (g : Nat → Bool) (z : Nat) (hz : z < 64) : bt (ofB g 64) z = if g z then 1 else 0 := ofB_bit g 64 z hz
theorem if_odd (n : Nat) (b : Bool) (h : b = decide (n % 2 = 1)) : (if b then 1 else 0) = n % 2 := by
  subst h
  have := Nat.mod_two_eq_zero_or_one n
  rcases this with h | h <;> simp [h]
theorem thL_eq (f : Nat → Nat) (hf : ∀ i, f i < 18446744073709551616) (k : Nat) (hk : k < 25) : thL f k = thF f k := by
  refine ext64 (thL_lt f hf k) (thF_lt f k) fun z hz => ?_
  unfold thL thF
  rw [bt_xor, bt_xor, turnN_bit _ _ _ (colN_lt f hf _) (by decide) hz, colN_bit, colN_bit, ofB_bt _ _ hz, if_odd (thN f (k % 5) z 5 + bitN f (k % 5) (k / 5) z) (thB f (k % 5) (k / 5) z) rfl]
  simp only [thN]
  have e : k % 5 + 5 * (k / 5) = k := by omega
  rw [show bt (f k) z = bitN f (k % 5) (k / 5) z from by rw [bitN_bt, e]]
  rw [show (z + 64 - 1) % 64 = (z + 63) % 64 by omega]
  omega

/-! ### Rho, lane by lane -/
def rhL (f : Nat → Nat) (i : Nat) : Nat := if i = 0 then f 0 else turnN (f i) (rhBy (rhTau i))
theorem rhL_lt (f : Nat → Nat) (hf : ∀ i, f i < 18446744073709551616) (k : Nat) : rhL f k < 18446744073709551616 := by
  unfold rhL
  split
  · exact hf 0
  · exact turnN_lt _ _ (hf _) (rhBy_lt _)
theorem rhL_eq (f : Nat → Nat) (hf : ∀ i, f i < 18446744073709551616) (k : Nat) (hk : k < 25) : rhL f k = rhF f k := by
  unfold rhL rhF
  split
  · rfl
  · rename_i h0
    refine ext64 (turnN_lt _ _ (hf _) (rhBy_lt _)) (ofB_64 _ _ (Nat.le_refl _)) fun z hz => ?_
    obtain ⟨h1, h2⟩ := rhPos_tau k hk h0
    rw [turnN_bit _ _ _ (hf _) (rhBy_lt _) hz, ofB_bt _ _ hz]
    unfold rhG
    rw [bitN_bt, show (rhXY (rhTau k)).1 + 5 * (rhXY (rhTau k)).2 = k from h2]
    have hlt : (z + 64 - rhBy (rhTau k)) % 64 < 64 := Nat.mod_lt _ (by decide)
    have hb := bt_lt (f k) ((z + 64 - rhBy (rhTau k)) % 64)
    have hc : bt (f k) ((z + 64 - rhBy (rhTau k)) % 64) = 0 ∨ bt (f k) ((z + 64 - rhBy (rhTau k)) % 64) = 1 := by omega
    rcases hc with hc | hc <;> simp [hlt, hc]

/-! ### Chi, lane by lane -/
theorem sub_and (x y : Nat) : x - (x &&& y) = x ^^^ (x &&& y) := by
  have h : (x ^^^ (x &&& y)) + (x &&& y) = x := by
    have hle : x < 2 ^ (x + 1) := Nat.lt_of_lt_of_le Nat.lt_two_pow_self (Nat.pow_le_pow_right (by decide) (by omega))
    have ha : x &&& y < 2 ^ (x + 1) := Nat.lt_of_le_of_lt Nat.and_le_left hle
    have hx : x ^^^ (x &&& y) < 2 ^ (x + 1) := Nat.xor_lt_two_pow hle ha
    have e0 : BitVec.ofNat (x + 1) (x ^^^ (x &&& y)) &&& BitVec.ofNat (x + 1) (x &&& y) = 0#(x + 1) := by
      apply BitVec.eq_of_getLsbD_eq
      intro i hi
      simp only [BitVec.getLsbD_and, BitVec.getLsbD_ofNat, Nat.testBit_xor, Nat.testBit_and, BitVec.getLsbD_zero]
      cases x.testBit i <;> cases y.testBit i <;> simp
    have e1 := BitVec.add_eq_or_of_and_eq_zero _ _ e0
    have e2 := congrArg BitVec.toNat e1
    rw [BitVec.toNat_add, BitVec.toNat_or, BitVec.toNat_ofNat, BitVec.toNat_ofNat, Nat.mod_eq_of_lt hx, Nat.mod_eq_of_lt ha] at e2
    have e3 : (x ^^^ (x &&& y)) ||| (x &&& y) = x := by
      apply Nat.eq_of_testBit_eq
      intro i
      simp only [Nat.testBit_or, Nat.testBit_xor, Nat.testBit_and]
      cases x.testBit i <;> cases y.testBit i <;> rfl
    rw [e3] at e2
    have hx2 : (x ^^^ (x &&& y)) ≤ x := by
      have := Nat.mod_le ((x ^^^ (x &&& y)) + (x &&& y)) (2 ^ (x + 1))
      have h1 : (x ^^^ (x &&& y)) ||| (x &&& y) = x := e3
      have h2 : (x ^^^ (x &&& y)) ≤ (x ^^^ (x &&& y)) ||| (x &&& y) := Nat.left_le_or
      omega
    have hsum : (x ^^^ (x &&& y)) + (x &&& y) < 2 ^ (x + 1) := by
      have h1 : x &&& y ≤ x := Nat.and_le_left
      have h2 : 2 * x < 2 ^ (x + 1) := by rw [Nat.pow_succ]; have := @Nat.lt_two_pow_self x; omega
      omega
    rwa [Nat.mod_eq_of_lt hsum] at e2
  omega
def chL (f : Nat → Nat) (k : Nat) : Nat := f k ^^^ (f (k - k % 5 + (k % 5 + 2) % 5) - (f (k - k % 5 + (k % 5 + 2) % 5) &&& f (k - k % 5 + (k % 5 + 1) % 5)))
theorem chL_lt (f : Nat → Nat) (hf : ∀ i, f i < 18446744073709551616) (k : Nat) : chL f k < 18446744073709551616 :=
  xor_lt64 (hf _) (Nat.lt_of_le_of_lt (Nat.sub_le _ _) (hf _))
theorem chL_eq (f : Nat → Nat) (hf : ∀ i, f i < 18446744073709551616) (k : Nat) (hk : k < 25) : chL f k = chF f k := by
  refine ext64 (chL_lt f hf k) (chF_lt f k) fun z hz => ?_
  unfold chL chF
  rw [bt_xor, sub_and, bt_xor, bt_and, ofB_bt _ _ hz]
  unfold chB
  have e0 : k % 5 + 5 * (k / 5) = k := by omega
  have e1 : k - k % 5 + (k % 5 + 1) % 5 = (k % 5 + 1) % 5 + 5 * (k / 5) := by omega
  have e2 : k - k % 5 + (k % 5 + 2) % 5 = (k % 5 + 2) % 5 + 5 * (k / 5) := by omega
  rw [e1, e2, bitN_bt, bitN_bt, bitN_bt, e0]
  have h0 := bt_lt (f k) z
  have h1 := bt_lt (f ((k % 5 + 1) % 5 + 5 * (k / 5))) z
  have h2 := bt_lt (f ((k % 5 + 2) % 5 + 5 * (k / 5))) z
  generalize bt (f k) z = a at *
  generalize bt (f ((k % 5 + 1) % 5 + 5 * (k / 5))) z = b at *
  generalize bt (f ((k % 5 + 2) % 5 + 5 * (k / 5))) z = c at *
  have ha : a = 0 ∨ a = 1 := by omega
  have hb : b = 0 ∨ b = 1 := by omega
  have hc : c = 0 ∨ c = 1 := by omega
  rcases ha with rfl | rfl <;> rcases hb with rfl | rfl <;> rcases hc with rfl | rfl <;> decide
end Go.Proofs.YtliiofjcghdjoaaDoor

/- The constants of the rounds, and rounds lane by lane: plain mathematics. No program's text is named. -/
namespace Go.Proofs.YtliiofjcghdjoaaDoor
set_option linter.unusedSimpArgs false
set_option linter.unusedVariables false

/-- What is added in each round. -/
def kst : List Nat := [0x0000000000000001, 0x0000000000008082, 0x800000000000808a, 0x8000000080008000, 0x000000000000808b, 0x0000000080000001, 0x8000000080008081, 0x8000000000008009,
  0x000000000000008a, 0x0000000000000088, 0x0000000080008009, 0x000000008000000a, 0x000000008000808b, 0x800000000000008b, 0x8000000000008089, 0x8000000000008003,
  0x8000000000008002, 0x8000000000000080, 0x000000000000800a, 0x800000008000000a, 0x8000000080008081, 0x8000000000008080, 0x0000000080000001, 0x8000000080008008]
theorem kst_eq : ∀ i, i < 24 → ofB (ioT i 7) 64 = kst.getD i 0 := by decide +kernel
theorem kst_lt : ∀ i, i < 24 → kst.getD i 0 < 18446744073709551616 := by decide
theorem ioL_xor (x i : Nat) (hx : x < 18446744073709551616) (hi : i < 24) : ioL x i 7 = x ^^^ kst.getD i 0 := by
  rw [← kst_eq i hi]
  refine ext64 (ioL_lt _ _ _) (xor_lt64 hx (ofB_64 _ _ (Nat.le_refl _))) fun z hz => ?_
  unfold ioL
  rw [bt_xor, ofB_bt _ _ hz, ofB_bt _ _ hz]
  unfold ioG
  have hb := bt_lt x z
  have hc : bt x z = 0 ∨ bt x z = 1 := by omega
  rw [show x / 2 ^ z % 2 = bt x z from rfl]
  rcases hc with hc | hc <;> cases ioT i 7 z <;> simp [hc]

/-! ### Only the 25 lanes count -/
theorem bitN_congr {f g : Nat → Nat} (h : ∀ i, i < 25 → f i = g i) (x y z : Nat) (hx : x < 5) (hy : y < 5) : bitN f x y z = bitN g x y z := by
  unfold bitN
  rw [h _ (by omega)]
theorem thN_congr {f g : Nat → Nat} (h : ∀ i, i < 25 → f i = g i) (x z : Nat) : ∀ Y, Y ≤ 5 → thN f x z Y = thN g x z Y
  | 0, _ => rfl
  | Y + 1, hY => by
    unfold thN
    rw [thN_congr h x z Y (by omega), bitN_congr h _ Y z (by omega) (by omega), bitN_congr h _ Y _ (by omega) (by omega)]
theorem thF_congr {f g : Nat → Nat} (h : ∀ i, i < 25 → f i = g i) (k : Nat) (hk : k < 25) : thF f k = thF g k := by
  unfold thF
  refine ofB_congr 64 fun z hz => ?_
  unfold thB
  rw [thN_congr h _ z 5 (Nat.le_refl _), bitN_congr h _ _ z (by omega) (by omega)]
theorem rhF_congr {f g : Nat → Nat} (h : ∀ i, i < 25 → f i = g i) (k : Nat) (hk : k < 25) : rhF f k = rhF g k := by
  unfold rhF
  split
  · exact h 0 (by omega)
  · rename_i h0
    refine ofB_congr 64 fun z hz => ?_
    unfold rhG
    have hxy := rhXY_lt (rhTau k) (by have := (rhPos_tau k hk h0).1; omega)
    rw [bitN_congr h _ _ _ hxy.1 hxy.2]
theorem piF_congr {f g : Nat → Nat} (h : ∀ i, i < 25 → f i = g i) (k : Nat) (hk : k < 25) : piF f k = piF g k := h _ (by omega)
theorem chF_congr {f g : Nat → Nat} (h : ∀ i, i < 25 → f i = g i) (k : Nat) (hk : k < 25) : chF f k = chF g k := by
  unfold chF
  refine ofB_congr 64 fun z hz => ?_
  unfold chB
  rw [bitN_congr h _ _ z (by omega) (by omega), bitN_congr h ((k % 5 + 1) % 5) _ z (by omega) (by omega), bitN_congr h ((k % 5 + 2) % 5) _ z (by omega) (by omega)]
theorem ioF_congr {f g : Nat → Nat} (h : ∀ i, i < 25 → f i = g i) (i k : Nat) (hk : k < 25) : ioF f i k = ioF g i k := by
  unfold ioF
  split
  · rw [h 0 (by omega)]
  · exact h k hk
theorem rdF_congr {f g : Nat → Nat} (h : ∀ i, i < 25 → f i = g i) (i k : Nat) (hk : k < 25) : rdF f i k = rdF g i k :=
  ioF_congr (fun _ h4 => chF_congr (fun _ h3 => piF_congr (fun _ h2 => rhF_congr (fun _ h1 => thF_congr h _ h1) _ h2) _ h3) _ h4) i k hk
theorem rdsF_congr {f g : Nat → Nat} (h : ∀ i, i < 25 → f i = g i) : ∀ n k, k < 25 → rdsF f n k = rdsF g n k
  | 0, k, hk => h k hk
  | n + 1, k, hk => rdF_congr (rdsF_congr h n) n k hk

/-! ### A round, lane by lane -/
def ioK (f : Nat → Nat) (i k : Nat) : Nat := if k = 0 then f 0 ^^^ kst.getD i 0 else f k
def rdL (f : Nat → Nat) (i : Nat) : Nat → Nat := ioK (chL (piF (rhL (thL f)))) i
theorem rdL_eq (f : Nat → Nat) (hf : ∀ i, f i < 18446744073709551616) (i : Nat) (hi : i < 24) (k : Nat) (hk : k < 25) : rdL f i k = rdF f i k := by
  have h1 : ∀ j, j < 25 → thL f j = thF f j := fun j hj => thL_eq f hf j hj
  have h2 : ∀ j, j < 25 → rhL (thL f) j = rhF (thF f) j := fun j hj => (rhL_eq _ (thL_lt f hf) j hj).trans (rhF_congr h1 j hj)
  have h3 : ∀ j, j < 25 → piF (rhL (thL f)) j = piF (rhF (thF f)) j := fun j hj => piF_congr h2 j hj
  have h4 : ∀ j, j < 25 → chL (piF (rhL (thL f))) j = chF (piF (rhF (thF f))) j := fun j hj =>
    (chL_eq _ (piF_lt _ (rhL_lt _ (thL_lt f hf))) j hj).trans (chF_congr h3 j hj)
  unfold rdL rdF ioK ioF
  by_cases e : k = 0
  · rw [if_pos e, if_pos e, ioL_xor _ _ (chF_lt _ _) hi, h4 0 (by omega)]
  · rw [if_neg e, if_neg e, h4 k hk]
theorem rdL_lt (f : Nat → Nat) (hf : ∀ i, f i < 18446744073709551616) (i : Nat) (hi : i < 24) (k : Nat) : rdL f i k < 18446744073709551616 := by
  unfold rdL ioK
  have h := chL_lt _ (piF_lt _ (rhL_lt _ (thL_lt f hf)))
  split
  · exact xor_lt64 (h 0) (kst_lt i hi)
  · exact h k
/-- The first n rounds, lane by lane. -/
def rdsL (f : Nat → Nat) : Nat → Nat → Nat
  | 0 => f
  | n + 1 => rdL (rdsL f n) n
theorem rdsL_lt (f : Nat → Nat) (hf : ∀ i, f i < 18446744073709551616) : ∀ n, n ≤ 24 → ∀ k, rdsL f n k < 18446744073709551616
  | 0, _, k => hf k
  | n + 1, hn, k => rdL_lt _ (rdsL_lt f hf n (by omega)) n (by omega) k
theorem rdsL_eq (f : Nat → Nat) (hf : ∀ i, f i < 18446744073709551616) : ∀ n, n ≤ 24 → ∀ k, k < 25 → rdsL f n k = rdsF f n k
  | 0, _, _, _ => rfl
  | n + 1, hn, k, hk => (rdL_eq _ (rdsL_lt f hf n (by omega)) n (by omega) k hk).trans (rdF_congr (rdsL_eq f hf n (by omega)) n k hk)
theorem rdsL_st (f : Nat → Nat) (hf : ∀ i, f i < 18446744073709551616) : stL (rdsL f 24) = stL (rdsF f 24) := stL_congr fun k hk => rdsL_eq f hf 24 (Nat.le_refl _) k hk
end Go.Proofs.YtliiofjcghdjoaaDoor

/- A state's bytes, bytes' state, bytes that are padded and taken in, and what comes out without end: plain mathematics. No program's text is named. -/
namespace Go.Proofs.YtliiofjcghdjoaaDoor
set_option linter.unusedSimpArgs false
set_option linter.unusedVariables false

/-! ### A state's bytes -/
def byF (f : Nat → Nat) (k : Nat) : UInt8 := stB (f (k / 8)) (k % 8)
def bsP (f : Nat → Nat) (n : Nat) : List UInt8 := (List.range n).map (byF f)
theorem bsP_length (f : Nat → Nat) (n : Nat) : (bsP f n).length = n := by simp [bsP]
theorem bsP_next (f : Nat → Nat) (i : Nat) : bsP f (8 * i) ++ (List.range 8).map (stB (f i)) = bsP f (8 * (i + 1)) := by
  unfold bsP
  rw [show 8 * (i + 1) = 8 * i + 8 by omega, List.range_add, List.map_append, List.map_map]
  congr 1
  refine List.map_congr_left fun t ht => ?_
  have := List.mem_range.1 ht
  simp only [Function.comp, byF]
  rw [show (8 * i + t) / 8 = i by omega, show (8 * i + t) % 8 = t by omega]
theorem bsP_get (f : Nat → Nat) (n k : Nat) (hk : k < n) : (bsP f n).getD k 0 = byF f k := by simp [bsP, hk]

/-! ### Bytes' state -/
def stF (l : List UInt8) (i : Nat) : Nat := leN ((l.drop (8 * i)).take 8)
theorem stF_lt (l : List UInt8) (i : Nat) : stF l i < 18446744073709551616 := by
  unfold stF
  exact leN_take_lt _ 8 (Nat.le_refl _)
def stP (l : List UInt8) (n : Nat) : List Int := (List.range n).map fun i => ((stF l i : Nat) : Int)
theorem stP_next (l : List UInt8) (n : Nat) : stP l n ++ [((stF l n : Nat) : Int)] = stP l (n + 1) := by
  unfold stP
  rw [List.range_succ, List.map_append]
  rfl
theorem stP_length (l : List UInt8) (n : Nat) : (stP l n).length = n := by simp [stP]
theorem stP_done (l : List UInt8) : stP l 25 = stL (stF l) := rfl

/-! ### One byte laid over another, as far as that has come -/
def xhP (s p : List UInt8) (i K : Nat) : List UInt8 := (List.range 200).map fun k => if k < K then s.getD k 0 ^^^ p.getD (i + k) 0 else s.getD k 0
theorem xhP_length (s p : List UInt8) (i K : Nat) : (xhP s p i K).length = 200 := by simp [xhP]
theorem xhP_zero (s p : List UInt8) (i : Nat) (hs : s.length = 200) : s = xhP s p i 0 := by
  refine List.ext_getElem (by simp [xhP, hs]) fun k h1 h2 => ?_
  simp [xhP, h1]
theorem xhP_get (s p : List UInt8) (i K : Nat) (hK : K < 200) : (xhP s p i K).getD K 0 = s.getD K 0 := by simp [xhP, hK]
theorem xhP_set (s p : List UInt8) (i K : Nat) : (xhP s p i K).set K (s.getD K 0 ^^^ p.getD (i + K) 0) = xhP s p i (K + 1) := by
  refine List.ext_getElem (by simp [xhP]) fun k h1 h2 => ?_
  simp only [xhP, List.getElem_set, List.getElem_map, List.getElem_range]
  by_cases e : K = k
  · subst e; simp
  · have : (k < K + 1) ↔ k < K := by omega
    simp [e, this]

/-! ### Padded bytes -/
/-- How many noughts stand behind the suffix. -/
def zN (r n : Nat) : Nat := (r - (n + 1) % r) % r
theorem zN_full (r n : Nat) (hr : 0 < r) : (n + 1 + zN r n) % r = 0 := by
  unfold zN
  have h1 : (n + 1) % r < r := Nat.mod_lt _ hr
  by_cases h : (n + 1) % r = 0
  · rw [h, Nat.sub_zero, Nat.mod_self, Nat.add_zero, h]
  · rw [Nat.mod_eq_of_lt (by omega : r - (n + 1) % r < r)]
    have h2 := Nat.div_add_mod (n + 1) r
    have h3 : n + 1 + (r - (n + 1) % r) = r * ((n + 1) / r + 1) := by rw [Nat.mul_add, Nat.mul_one]; omega
    rw [h3, Nat.mul_mod_right]
theorem zN_least (r n z : Nat) (hr : 0 < r) (hz : z < zN r n) : (n + 1 + z) % r ≠ 0 := by
  unfold zN at hz
  have h1 : (n + 1) % r < r := Nat.mod_lt _ hr
  by_cases h : (n + 1) % r = 0
  · rw [h, Nat.sub_zero, Nat.mod_self] at hz
    omega
  · rw [Nat.mod_eq_of_lt (by omega : r - (n + 1) % r < r)] at hz
    have h2 := Nat.div_add_mod (n + 1) r
    have h3 : n + 1 + z = r * ((n + 1) / r) + ((n + 1) % r + z) := by omega
    rw [h3, Nat.mul_add_mod, Nat.mod_eq_of_lt (by omega)]
    omega
theorem zN_lt (r n : Nat) (hr : 0 < r) : zN r n < r := Nat.mod_lt _ hr
/-- Padded, but for the last byte's highest bit. -/
def pdP (s : UInt8) (l : List UInt8) (z : Nat) : List UInt8 := l ++ [s] ++ List.replicate z 0
theorem pdP_length (s : UInt8) (l : List UInt8) (z : Nat) : (pdP s l z).length = l.length + 1 + z := by simp [pdP]; omega
theorem pdP_next (s : UInt8) (l : List UInt8) (z : Nat) : pdP s l z ++ [0] = pdP s l (z + 1) := by
  unfold pdP
  rw [List.append_assoc, List.replicate_succ']
def padL (r : Nat) (s : UInt8) (l : List UInt8) : List UInt8 := (pdP s l (zN r l.length)).set (l.length + zN r l.length) ((pdP s l (zN r l.length)).getD (l.length + zN r l.length) 0 ^^^ 128)
theorem padL_length (r : Nat) (s : UInt8) (l : List UInt8) : (padL r s l).length = l.length + 1 + zN r l.length := by simp [padL, pdP_length]
/-- How many blocks. -/
def blN (r : Nat) (l : List UInt8) : Nat := (l.length + 1 + zN r l.length) / r
theorem blN_mul (r : Nat) (l : List UInt8) (hr : 0 < r) : blN r l * r = l.length + 1 + zN r l.length := by
  unfold blN
  exact Nat.div_mul_cancel (Nat.dvd_of_mod_eq_zero (zN_full r _ hr))

/-! ### Taken in -/
def abN (r : Nat) (p : List UInt8) : Nat → Nat → Nat
  | 0 => fun _ => 0
  | b + 1 => rdsF (stF (xhP (bsP (abN r p b) 200) p (b * r) r)) 24
def abF (r : Int) (s : UInt8) (l : List UInt8) : Nat → Nat := if 1 ≤ r ∧ r ≤ 200 then abN r.toNat (padL r.toNat s l) (blN r.toNat l) else fun _ => 0

/-! ### What comes out -/
def itF (f : Nat → Nat) : Nat → Nat → Nat
  | 0 => f
  | t + 1 => rdsF (itF f t) 24
def smF (f : Nat → Nat) (r k : Nat) : UInt8 := byF (itF f (k / r)) (k % r)
def otL (f : Nat → Nat) (r n : Nat) : List UInt8 := (List.range n).map (smF f r)
theorem otL_length (f : Nat → Nat) (r n : Nat) : (otL f r n).length = n := by simp [otL]
theorem otL_take (f : Nat → Nat) (r n m : Nat) (h : n ≤ m) : (otL f r m).take n = otL f r n := by
  unfold otL
  rw [← List.map_take, List.take_range, Nat.min_eq_left h]
theorem bsP_take (f : Nat → Nat) (n m : Nat) (h : n ≤ m) : (bsP f m).take n = bsP f n := by
  unfold bsP
  rw [← List.map_take, List.take_range, Nat.min_eq_left h]
theorem otL_next (f : Nat → Nat) (r m : Nat) (hr : 0 < r) : otL f r (m * r) ++ bsP (itF f m) r = otL f r ((m + 1) * r) := by
  unfold otL bsP
  rw [Nat.add_mul, Nat.one_mul, List.range_add, List.map_append, List.map_map]
  congr 1
  refine List.map_congr_left fun t ht => ?_
  have h := List.mem_range.1 ht
  simp only [Function.comp, smF]
  rw [Nat.mul_comm m r, Nat.mul_add_div hr, Nat.mul_add_mod, Nat.div_eq_of_lt h, Nat.mod_eq_of_lt h, Nat.add_zero]
/-! ### Lanes have 64 bits -/
theorem itF_lt (f : Nat → Nat) (hf : ∀ i, f i < 18446744073709551616) : ∀ t k, itF f t k < 18446744073709551616
  | 0, k => hf k
  | t + 1, k => rdsF_lt _ (itF_lt f hf t) 24 k
theorem abN_lt (r : Nat) (p : List UInt8) : ∀ b k, abN r p b k < 18446744073709551616
  | 0, _ => by simp [abN]
  | b + 1, k => rdsF_lt _ (stF_lt _) 24 k
theorem abF_lt (R : Int) (s : UInt8) (l : List UInt8) (k : Nat) : abF R s l k < 18446744073709551616 := by
  unfold abF
  split
  · exact abN_lt _ _ _ k
  · show 0 < _
    decide
end Go.Proofs.YtliiofjcghdjoaaDoor

/- Bytes taken in block by block and lane by lane: plain mathematics. No program's text is named. -/
namespace Go.Proofs.YtliiofjcghdjoaaDoor
set_option linter.unusedSimpArgs false
set_option linter.unusedVariables false

/-! ### Laid over one another, lane by lane -/
theorem leN_xor : ∀ (a b : List UInt8), a.length = b.length → leN (List.zipWith (· ^^^ ·) a b) = leN a ^^^ leN b
  | [], [], _ => rfl
  | x :: a, y :: b, h => by
    have ih := leN_xor a b (by simpa using h)
    have e : ∀ (u : UInt8) (n : Nat), u.toNat + 256 * n = 2 ^ 8 * n ||| u.toNat := fun u n => by
      rw [← Nat.two_pow_add_eq_or_of_lt (show u.toNat < 2 ^ 8 from u.toNat_lt)]
      omega
    show (x ^^^ y).toNat + 256 * leN (List.zipWith (· ^^^ ·) a b) = (x.toNat + 256 * leN a) ^^^ (y.toNat + 256 * leN b)
    rw [ih, e, e, e]
    apply Nat.eq_of_testBit_eq
    intro i
    simp only [Nat.testBit_or, Nat.testBit_xor, Nat.testBit_two_pow_mul, UInt8.toNat_xor]
    by_cases hi : 8 ≤ i
    · have h8 : ∀ u : UInt8, u.toNat.testBit i = false := fun u => Nat.testBit_lt_two_pow (Nat.lt_of_lt_of_le u.toNat_lt (Nat.pow_le_pow_right (by decide) hi))
      simp [hi, h8]
    · simp [hi]
  | [], _ :: _, h => by simp at h
  | _ :: _, [], h => by simp at h
theorem leN_cons (x : UInt8) (l : List UInt8) : leN (x :: l) = x.toNat + 256 * leN l := rfl
/-- Lane j of the first r bytes of a block. -/
def xbl (blk : Nat → UInt8) (r j : Nat) : Nat := leN ((List.range 8).map fun t => if 8 * j + t < r then blk (8 * j + t) else 0)
theorem xbl_lt (blk : Nat → UInt8) (r j : Nat) : xbl blk r j < 18446744073709551616 := by
  have h := leN_lt ((List.range 8).map fun t => if 8 * j + t < r then blk (8 * j + t) else 0)
  have e : (256 : Nat) ^ ((List.range 8).map fun t => if 8 * j + t < r then blk (8 * j + t) else 0).length = 18446744073709551616 := by
    rw [List.length_map, List.length_range]
  rw [e] at h
  exact h
theorem xbl_congr {b1 b2 : Nat → UInt8} (r j : Nat) (h : ∀ k, k < r → b1 k = b2 k) : xbl b1 r j = xbl b2 r j := by
  unfold xbl
  congr 1
  refine List.map_congr_left fun t _ => ?_
  by_cases e : 8 * j + t < r
  · rw [if_pos e, if_pos e, h _ e]
  · rw [if_neg e, if_neg e]
theorem stF_xor (f : Nat → Nat) (hf : ∀ i, f i < 18446744073709551616) (p : List UInt8) (i r j : Nat) (hj : j < 25) :
    stF (xhP (bsP f 200) p i r) j = f j ^^^ xbl (fun k => p.getD (i + k) 0) r j := by
  have e1 : ((xhP (bsP f 200) p i r).drop (8 * j)).take 8 = List.zipWith (· ^^^ ·) ((List.range 8).map (stB (f j))) ((List.range 8).map fun t => if 8 * j + t < r then p.getD (i + (8 * j + t)) 0 else 0) := by
    refine List.ext_getElem (by simp [xhP_length]; omega) fun t h1 h2 => ?_
    have ht : t < 8 := by simp at h1; omega
    have hk : 8 * j + t < 200 := by omega
    have e2 : byF f (8 * j + t) = stB (f j) t := by
      unfold byF
      rw [show (8 * j + t) / 8 = j by omega, show (8 * j + t) % 8 = t by omega]
    simp only [List.getElem_take, List.getElem_drop, xhP, List.getElem_map, List.getElem_range, List.getElem_zipWith]
    rw [bsP_get f 200 _ hk, e2]
    split
    · rfl
    · simp
  unfold stF
  have h8 : f j < 256 ^ 8 := hf j
  rw [e1, leN_xor _ _ (by simp), leN_stB, Nat.mod_eq_of_lt h8]
  rfl

/-! ### The blocks of padded bytes -/
/-- Byte k of the last block. -/
def lasB (r : Nat) (s : UInt8) (l : List UInt8) (k : Nat) : UInt8 :=
  (if k < l.length % r then l.getD (l.length / r * r + k) 0 else if k = l.length % r then s else 0) ^^^ (if k = r - 1 then 128 else 0)
theorem zN_eq (r n : Nat) (hr : 0 < r) : zN r n = r - 1 - n % r := by
  unfold zN
  have h1 : n % r < r := Nat.mod_lt _ hr
  have h2 := Nat.div_add_mod n r
  have h3 : n + 1 = r * (n / r) + (n % r + 1) := by omega
  rw [h3, Nat.mul_add_mod]
  by_cases h : n % r + 1 = r
  · rw [h, Nat.mod_self, Nat.sub_zero, Nat.mod_self]
    omega
  · rw [Nat.mod_eq_of_lt (by omega : n % r + 1 < r), Nat.mod_eq_of_lt (by omega)]
    omega
theorem blN_eq (r : Nat) (l : List UInt8) (hr : 0 < r) : blN r l = l.length / r + 1 := by
  unfold blN
  rw [zN_eq r _ hr]
  have h1 : l.length % r < r := Nat.mod_lt _ hr
  have h2 := Nat.div_add_mod l.length r
  have h3 : l.length + 1 + (r - 1 - l.length % r) = r * (l.length / r + 1) := by rw [Nat.mul_add, Nat.mul_one]; omega
  rw [h3, Nat.mul_div_cancel_left _ hr]
theorem pdP_get (s : UInt8) (l : List UInt8) (z k : Nat) : (pdP s l z).getD k 0 = if k < l.length then l.getD k 0 else if k = l.length then s else 0 := by
  unfold pdP
  by_cases h : k < l.length
  · rw [if_pos h]
    simp [List.getElem?_append, h, show k < l.length + 1 by omega]
  · rw [if_neg h]
    by_cases h2 : k = l.length
    · subst h2
      simp [List.getElem?_append]
    · rw [if_neg h2]
      have h3 : ¬ k < l.length + 1 := by omega
      obtain ⟨d, hd⟩ : ∃ d, k - l.length = d + 1 := ⟨k - l.length - 1, by omega⟩
      by_cases h4 : d < z
      · simp [List.getElem?_append, h, hd, List.getElem?_replicate, h4]
      · simp [List.getElem?_append, h, hd, List.getElem?_replicate, h4]
theorem padL_get (r : Nat) (s : UInt8) (l : List UInt8) (k : Nat) (hk : k < l.length + 1 + zN r l.length) :
    (padL r s l).getD k 0 = (if k < l.length then l.getD k 0 else if k = l.length then s else 0) ^^^ (if k = l.length + zN r l.length then 128 else 0) := by
  unfold padL
  rw [← pdP_get s l (zN r l.length)]
  have hlen := pdP_length s l (zN r l.length)
  by_cases e : k = l.length + zN r l.length
  · rw [if_pos e, ← e]
    have h1 : k < (pdP s l (zN r l.length)).length := by omega
    simp [List.getElem?_set, h1]
  · rw [if_neg e]
    simp [List.getElem?_set, Ne.symm e]
theorem pad_full (r : Nat) (s : UInt8) (l : List UInt8) (hr : 0 < r) (b k : Nat) (hb : b < l.length / r) (hk : k < r) : (padL r s l).getD (b * r + k) 0 = l.getD (b * r + k) 0 := by
  have h1 : (b + 1) * r ≤ l.length / r * r := Nat.mul_le_mul_right r hb
  have h2 := Nat.div_mul_le_self l.length r
  rw [Nat.add_mul, Nat.one_mul] at h1
  rw [padL_get r s l _ (by omega), if_pos (by omega), if_neg (by omega)]
  simp
theorem pad_last (r : Nat) (s : UInt8) (l : List UInt8) (hr : 0 < r) (k : Nat) (hk : k < r) : (padL r s l).getD (l.length / r * r + k) 0 = lasB r s l k := by
  have h0 := Nat.div_add_mod l.length r
  rw [Nat.mul_comm] at h0
  have h1 : l.length % r < r := Nat.mod_lt _ hr
  have hz := zN_eq r l.length hr
  rw [padL_get r s l _ (by omega)]
  unfold lasB
  have c1 : (l.length / r * r + k < l.length) ↔ k < l.length % r := by omega
  have c2 : (l.length / r * r + k = l.length) ↔ k = l.length % r := by omega
  have c3 : (l.length / r * r + k = l.length + zN r l.length) ↔ k = r - 1 := by omega
  simp only [c1, c2, c3]
/-- One block taken in. -/
def tkF (f : Nat → Nat) (blk : Nat → UInt8) (r : Nat) : Nat → Nat := rdsF (fun j => f j ^^^ xbl blk r j) 24
theorem abN_tk (r : Nat) (p : List UInt8) (b : Nat) (k : Nat) (hk : k < 25) : abN r p (b + 1) k = tkF (abN r p b) (fun t => p.getD (b * r + t) 0) r k := by
  show rdsF (stF (xhP (bsP (abN r p b) 200) p (b * r) r)) 24 k = _
  have hlt : ∀ b k, abN r p b k < 18446744073709551616 := by
    intro b
    cases b with
    | zero => intro k; simp [abN]
    | succ b => intro k; exact rdsF_lt _ (stF_lt _) 24 k
  exact rdsF_congr (fun j hj => stF_xor _ (hlt b) p (b * r) r j hj) 24 k hk
theorem tkF_congr {f g : Nat → Nat} {b1 b2 : Nat → UInt8} (r : Nat) (h : ∀ j, j < 25 → f j = g j) (hb : ∀ k, k < r → b1 k = b2 k) (k : Nat) (hk : k < 25) : tkF f b1 r k = tkF g b2 r k :=
  rdsF_congr (fun j hj => by rw [h j hj, xbl_congr r j hb]) 24 k hk
/-- The whole blocks of the bytes themselves, taken in. -/
def fuN (r : Nat) (l : List UInt8) : Nat → Nat → Nat
  | 0 => fun _ => 0
  | b + 1 => tkF (fuN r l b) (fun t => l.getD (b * r + t) 0) r
theorem fuN_eq (r : Nat) (s : UInt8) (l : List UInt8) (hr : 0 < r) : ∀ b, b ≤ l.length / r → ∀ k, k < 25 → abN r (padL r s l) b k = fuN r l b k
  | 0, _, _, _ => rfl
  | b + 1, hb, k, hk => (abN_tk r _ b k hk).trans (tkF_congr r (fuN_eq r s l hr b (by omega)) (fun t ht => pad_full r s l hr b t (by omega) ht) k hk)
/-- All blocks: the whole ones, then the last. -/
theorem abs_eq (r : Nat) (s : UInt8) (l : List UInt8) (hr : 0 < r) (k : Nat) (hk : k < 25) : abN r (padL r s l) (blN r l) k = tkF (fuN r l (l.length / r)) (lasB r s l) r k := by
  rw [blN_eq r l hr]
  exact (abN_tk r _ _ k hk).trans (tkF_congr r (fuN_eq r s l hr _ (Nat.le_refl _)) (fun t ht => pad_last r s l hr t ht) k hk)
theorem fuN_lt (r : Nat) (l : List UInt8) : ∀ b k, fuN r l b k < 18446744073709551616
  | 0, _ => by simp [fuN]
  | b + 1, k => rdsF_lt _ (fun j => xor_lt64 (fuN_lt r l b j) (xbl_lt _ _ _)) 24 k

/-! ### Read in pieces -/
theorem otL_split (f : Nat → Nat) (r a b : Nat) : otL f r (a + b) = otL f r a ++ (List.range b).map (fun k => smF f r (a + k)) := by
  unfold otL
  rw [List.range_add, List.map_append, List.map_map]
  rfl
end Go.Proofs.YtliiofjcghdjoaaDoor

/- The code of a key and bytes, and the keys that follow from a chaining key: plain mathematics. No program's text is named. -/
namespace Go.Proofs.YtliiofjcghdjoaaDoor
set_option linter.unusedSimpArgs false
set_option linter.unusedVariables false

/-- The sum of 32 bytes. -/
def s2L (l : List UInt8) : List UInt8 := otL (abF 136 6 l) 136 32
theorem s2L_length (l : List UInt8) : (s2L l).length = 32 := otL_length _ _ _
/-- A key as it counts, without noughts behind it, and with them. -/
def kyS (k : List UInt8) : List UInt8 := if 136 < k.length then s2L k else k
theorem kyS_length (k : List UInt8) : (kyS k).length ≤ 136 := by
  unfold kyS
  split
  · rw [s2L_length]; decide
  · omega
def kyL (k : List UInt8) : List UInt8 := kyS k ++ List.replicate (136 - (kyS k).length) 0
theorem kyL_length (k : List UInt8) : (kyL k).length = 136 := by
  have := kyS_length k
  simp [kyL]
  omega
def mxP (K : List UInt8) (c : UInt8) (j : Nat) : List UInt8 := (List.range j).map fun t => K.getD t 0 ^^^ c
theorem mxP_next (K : List UInt8) (c : UInt8) (j : Nat) : mxP K c j ++ [K.getD j 0 ^^^ c] = mxP K c (j + 1) := by
  unfold mxP
  rw [List.range_succ, List.map_append]
  rfl
theorem mxP_length (K : List UInt8) (c : UInt8) (j : Nat) : (mxP K c j).length = j := by simp [mxP]
/-- The code. -/
def mcF (k b : List UInt8) : List UInt8 := s2L (mxP (kyL k) 92 136 ++ s2L (mxP (kyL k) 54 136 ++ b))
theorem mcF_length (k b : List UInt8) : (mcF k b).length = 32 := s2L_length _
theorem mxP_get (K : List UInt8) (c : UInt8) (j t : Nat) (h : t < j) : (mxP K c j).getD t 0 = K.getD t 0 ^^^ c := by simp [mxP, h]
/-- The three keys. -/
def k1F (ck b : List UInt8) : List UInt8 := mcF (mcF ck b) [1]
def k2F (ck b : List UInt8) : List UInt8 := mcF (mcF ck b) (k1F ck b ++ [2])
def k3F (ck b : List UInt8) : List UInt8 := mcF (mcF ck b) (k2F ck b ++ [3])
/-- Noughts behind a key change nothing. -/
theorem kyL_noughts (k : List UInt8) (n : Nat) (h : k.length + n ≤ 136) : kyL (k ++ List.replicate n 0) = kyL k := by
  have e1 : kyS (k ++ List.replicate n 0) = k ++ List.replicate n 0 := by
    unfold kyS
    rw [if_neg (by simp; omega)]
  have e2 : kyS k = k := by
    unfold kyS
    rw [if_neg (by omega)]
  unfold kyL
  rw [e1, e2, List.append_assoc, List.replicate_append_replicate]
  congr 2
  simp
  omega
theorem mcF_noughts (k b : List UInt8) (n : Nat) (h : k.length + n ≤ 136) : mcF (k ++ List.replicate n 0) b = mcF k b := by
  unfold mcF
  rw [kyL_noughts k n h]
/-- A longer key counts as its sum. -/
theorem mcF_long (k b : List UInt8) (h : 136 < k.length) : mcF k b = mcF (s2L k) b := by
  have e : kyL k = kyL (s2L k) := by
    have e1 : kyS k = s2L k := by unfold kyS; rw [if_pos h]
    have e2 : kyS (s2L k) = s2L k := by unfold kyS; rw [if_neg (by rw [s2L_length]; omega)]
    unfold kyL
    rw [e1, e2]
  unfold mcF
  rw [e]
end Go.Proofs.YtliiofjcghdjoaaDoor

/- The loops of all rounds lane by lane, as far as they have come: plain mathematics. No program's text is named. -/
namespace Go.Proofs.YtliiofjcghdjoaaDoor
set_option linter.unusedSimpArgs false
set_option linter.unusedVariables false

/-! ### Sums of columns -/
def cP (f : Nat → Nat) (X : Nat) : List Int := (List.range 5).map fun x => ((if x < X then colN f x else 0 : Nat) : Int)
theorem cP_length (f : Nat → Nat) (X : Nat) : (cP f X).length = 5 := by simp [cP]
theorem cP_zero (f : Nat → Nat) : List.replicate 5 (0 : Int) = cP f 0 := by simp [cP, List.range_succ, List.replicate]
theorem cP_set (f : Nat → Nat) (X : Nat) : (cP f X).set X ((colN f X : Nat) : Int) = cP f (X + 1) := by
  refine List.ext_getElem (by simp [cP]) fun i h1 h2 => ?_
  simp only [cP, List.getElem_set, List.getElem_map, List.getElem_range]
  by_cases e : X = i
  · subst e; simp
  · have : (i < X + 1) ↔ i < X := by omega
    simp [e, this]
theorem cP_get (f : Nat → Nat) (i : Nat) (hi : i < 5) : (cP f 5).getD i 0 = ((colN f i : Nat) : Int) := by
  simp [cP, hi]

/-! ### Lanes that are replaced one after the other -/
def upQ (f g : Nat → Nat) (K i : Nat) : Nat := if i < K then g i else f i
theorem upQ_zero (f g : Nat → Nat) : stL f = stL (upQ f g 0) := stL_congr fun i hi => by simp [upQ]
theorem upQ_done (f g : Nat → Nat) : stL (upQ f g 25) = stL g := stL_congr fun i hi => by simp [upQ, hi]
theorem upQ_set (f g : Nat → Nat) (K : Nat) : (stL (upQ f g K)).set K ((g K : Nat) : Int) = stL (upQ f g (K + 1)) := by
  rw [stL_set]
  refine stL_congr fun i hi => ?_
  unfold upQ
  by_cases e : i = K
  · subst e; simp
  · have : (i < K + 1) ↔ i < K := by omega
    simp [e, this]
theorem upQ_get (f g : Nat → Nat) (K : Nat) : upQ f g K K = f K := by simp [upQ]

/-! ### Turned and put elsewhere -/
def ppQ (f : Nat → Nat) (T i : Nat) : Nat := if i = 0 then f 0 else if (List.range T).any (fun t => rhPos (t + 1) == i) then piF (rhL f) i else 0
theorem ppQ_zero (f : Nat → Nat) : (stL (fun _ => 0)).set 0 ((f 0 : Nat) : Int) = stL (ppQ f 0) := by
  rw [stL_set]
  exact stL_congr fun i hi => by by_cases e : i = 0 <;> simp [ppQ, e]
theorem pp_all : ∀ i, i < 25 → i ≠ 0 → (List.range 24).any (fun t => rhPos (t + 1) == i) = true := by decide
theorem ppQ_done (f : Nat → Nat) : stL (ppQ f 24) = stL (piF (rhL f)) := stL_congr fun i hi => by
  unfold ppQ
  by_cases e : i = 0
  · subst e; simp [piF, rhL]
  · rw [if_neg e, if_pos (pp_all i hi e)]
theorem pp_from : ∀ T, T < 24 → (rhPos (T + 1) % 5 + 3 * (rhPos (T + 1) / 5)) % 5 + 5 * (rhPos (T + 1) % 5) = rhPos T ∧ rhPos (T + 1) ≠ 0 ∧ rhPos T ≠ 0 ∧ rhTau (rhPos T) = T ∧ rhPos T < 25 ∧ rhPos (T + 1) < 25 := by decide
theorem ppQ_val (f : Nat → Nat) (T : Nat) (hT : T < 24) : piF (rhL f) (rhPos (T + 1)) = turnN (f (rhPos T)) (rhBy T) := by
  obtain ⟨h1, h2, h3, h4, _⟩ := pp_from T hT
  unfold piF
  rw [h1]
  unfold rhL
  rw [if_neg h3, h4]
theorem ppQ_set (f : Nat → Nat) (T : Nat) (hT : T < 24) : (stL (ppQ f T)).set (rhPos (T + 1)) ((turnN (f (rhPos T)) (rhBy T) : Nat) : Int) = stL (ppQ f (T + 1)) := by
  obtain ⟨h1, h2, h3, h4, _⟩ := pp_from T hT
  rw [← ppQ_val f T hT, stL_set]
  refine stL_congr fun i hi => ?_
  unfold ppQ
  by_cases e : i = rhPos (T + 1)
  · subst e
    have : (List.range (T + 1)).any (fun t => rhPos (t + 1) == rhPos (T + 1)) = true := by
      rw [List.any_eq_true]
      exact ⟨T, List.mem_range.2 (by omega), by simp⟩
    simp [h2, this]
  · have : (List.range (T + 1)).any (fun t => rhPos (t + 1) == i) = (List.range T).any (fun t => rhPos (t + 1) == i) := by
      rw [List.range_succ, List.any_append]
      simp [Ne.symm e]
    simp [e, this]

/-! ### Numbers of 64 bits -/
theorem xorI (a b : Nat) (ha : a < 18446744073709551616) (hb : b < 18446744073709551616) : bits .xor .u64 (a : Int) (b : Int) = ((a ^^^ b : Nat) : Int) := u64_xor_nat a b ha hb
theorem andI (a b : Nat) (ha : a < 18446744073709551616) (hb : b < 18446744073709551616) : bits .and .u64 (a : Int) (b : Int) = ((a &&& b : Nat) : Int) := u64_and_nat a b ha hb
theorem colI (f : Nat → Nat) (hf : ∀ i, f i < 18446744073709551616) (x : Nat) :
    bits .xor .u64 (bits .xor .u64 (bits .xor .u64 (bits .xor .u64 ((f x : Nat) : Int) ((f (x + 5) : Nat) : Int)) ((f (x + 10) : Nat) : Int)) ((f (x + 15) : Nat) : Int)) ((f (x + 20) : Nat) : Int) = ((colN f x : Nat) : Int) := by
  rw [xorI _ _ (hf _) (hf _), xorI _ _ (xor_lt64 (hf _) (hf _)) (hf _), xorI _ _ (xor_lt64 (xor_lt64 (hf _) (hf _)) (hf _)) (hf _), xorI _ _ (xor_lt64 (xor_lt64 (xor_lt64 (hf _) (hf _)) (hf _)) (hf _)) (hf _)]
  rfl
theorem thI (f : Nat → Nat) (hf : ∀ i, f i < 18446744073709551616) (k : Nat) :
    bits .xor .u64 (bits .xor .u64 ((f k : Nat) : Int) ((colN f ((k % 5 + 4) % 5) : Nat) : Int)) ((turnN (colN f ((k % 5 + 1) % 5)) 1 : Nat) : Int) = ((thL f k : Nat) : Int) := by
  rw [xorI _ _ (hf _) (colN_lt f hf _), xorI _ _ (xor_lt64 (hf _) (colN_lt f hf _)) (turnN_lt _ _ (colN_lt f hf _) (by decide))]
  rfl
theorem chI (f : Nat → Nat) (hf : ∀ i, f i < 18446744073709551616) (k : Nat) :
    bits .xor .u64 ((f k : Nat) : Int) (IntKind.u64.wrap (((f (k - k % 5 + (k % 5 + 2) % 5) : Nat) : Int) - bits .and .u64 ((f (k - k % 5 + (k % 5 + 2) % 5) : Nat) : Int) ((f (k - k % 5 + (k % 5 + 1) % 5) : Nat) : Int))) = ((chL f k : Nat) : Int) := by
  rw [andI _ _ (hf _) (hf _), IntKind.wrap_u64]
  have h1 := hf (k - k % 5 + (k % 5 + 2) % 5)
  have h2 : f (k - k % 5 + (k % 5 + 2) % 5) &&& f (k - k % 5 + (k % 5 + 1) % 5) ≤ f (k - k % 5 + (k % 5 + 2) % 5) := Nat.and_le_left
  have e : (((f (k - k % 5 + (k % 5 + 2) % 5) : Nat) : Int) - ((f (k - k % 5 + (k % 5 + 2) % 5) &&& f (k - k % 5 + (k % 5 + 1) % 5) : Nat) : Int)) % 18446744073709551616 =
      ((f (k - k % 5 + (k % 5 + 2) % 5) - (f (k - k % 5 + (k % 5 + 2) % 5) &&& f (k - k % 5 + (k % 5 + 1) % 5)) : Nat) : Int) := by omega
  rw [e, xorI _ _ (hf _) (Nat.lt_of_le_of_lt (Nat.sub_le _ _) h1)]
  rfl
theorem ioKI (f : Nat → Nat) (i : Nat) : (stL f).set 0 ((f 0 ^^^ kst.getD i 0 : Nat) : Int) = stL (ioK f i) := by
  rw [stL_set]
  exact stL_congr fun k hk => by by_cases e : k = 0 <;> simp [ioK, e]
end Go.Proofs.YtliiofjcghdjoaaDoor
