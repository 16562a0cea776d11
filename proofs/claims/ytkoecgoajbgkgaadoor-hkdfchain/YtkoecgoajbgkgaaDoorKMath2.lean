/- The document's steps Rho, Pi, Chi and the constants' bits, as far as they are made at each point of their loops: plain mathematics. No program's text is named. -/
import Derived.Test.YtkoecgoajbgkgaaDoorKMath
namespace Go.Proofs.YtkoecgoajbgkgaaDoor
set_option linter.unusedSimpArgs false
set_option linter.unusedVariables false

/-! ### One bit more anywhere -/
theorem ofB_flip (g : Nat → Bool) (p : Nat) (hg : g p = false) : ∀ n, p < n → ofB (fun i => if i = p then true else g i) n = ofB g n + 2 ^ p
  | 0, h => by omega
  | n + 1, h => by
    rw [ofB_succ, ofB_succ]
    by_cases e : p = n
    · subst e
      have h1 : ofB (fun i => if i = p then true else g i) p = ofB g p := ofB_congr p fun i hi => by simp [show i ≠ p by omega]
      rw [h1]
      simp [hg]
    · have ih := ofB_flip g p hg n (by omega)
      rw [ih]
      simp only [show n ≠ p from fun h => e h.symm, if_false]
      omega

/-! ### Pi -/
def piF (f : Nat → Nat) (i : Nat) : Nat := f ((i % 5 + 3 * (i / 5)) % 5 + 5 * (i % 5))
def piP (f : Nat → Nat) (X Y : Nat) (i : Nat) : Nat := if i % 5 < X ∨ (i % 5 = X ∧ i / 5 < Y) then piF f i else 0
theorem piP_start (f : Nat → Nat) : stL (fun _ => 0) = stL (piP f 0 0) := stL_congr fun i hi => by simp [piP]
theorem piP_end (f : Nat → Nat) (X : Nat) : stL (piP f X 5) = stL (piP f (X + 1) 0) := stL_congr fun i hi => by
  unfold piP
  have h1 : (i % 5 < X ∨ i % 5 = X ∧ i / 5 < 5) ↔ (i % 5 < X + 1 ∨ i % 5 = X + 1 ∧ i / 5 < 0) := by omega
  simp only [h1]
theorem piP_done (f : Nat → Nat) : stL (piP f 5 0) = stL (piF f) := stL_congr fun i hi => by
  unfold piP
  simp [show i % 5 < 5 by omega]
theorem piP_set (f : Nat → Nat) (X Y : Nat) (hX : X < 5) (hY : Y < 5) : (stL (piP f X Y)).set (X + 5 * Y) ((f ((X + 3 * Y) % 5 + 5 * X) : Nat) : Int) = stL (piP f X (Y + 1)) := by
  rw [stL_set]
  refine stL_congr fun i hi => ?_
  by_cases e : i = X + 5 * Y
  · subst e
    have e1 : (X + 5 * Y) % 5 = X := by omega
    have e2 : (X + 5 * Y) / 5 = Y := by omega
    simp [piP, piF, e1, e2]
  · simp only [e, if_false]
    unfold piP
    have h1 : (i % 5 < X ∨ i % 5 = X ∧ i / 5 < Y) ↔ (i % 5 < X ∨ i % 5 = X ∧ i / 5 < Y + 1) := by omega
    simp only [h1]

/-! ### Chi -/
def chB (f : Nat → Nat) (x y z : Nat) : Bool := decide ((bitN f x y z + if bitN f ((x + 1) % 5) y z = 0 ∧ bitN f ((x + 2) % 5) y z = 1 then 1 else 0) % 2 = 1)
def chF (f : Nat → Nat) (i : Nat) : Nat := ofB (chB f (i % 5) (i / 5)) 64
def chP (f : Nat → Nat) (X Y Z : Nat) (i : Nat) : Nat :=
  if i % 5 < X ∨ (i % 5 = X ∧ i / 5 < Y) then chF f i else if i % 5 = X ∧ i / 5 = Y then ofB (chB f X Y) Z else 0
theorem chP_start (f : Nat → Nat) : stL (fun _ => 0) = stL (chP f 0 0 0) := stL_congr fun i hi => by simp [chP, ofB]
theorem chP_laneEnd (f : Nat → Nat) (X Y : Nat) : stL (chP f X Y 64) = stL (chP f X (Y + 1) 0) := stL_congr fun i hi => by
  unfold chP
  by_cases h1 : i % 5 < X ∨ (i % 5 = X ∧ i / 5 < Y)
  · rw [if_pos h1, if_pos (by omega)]
  · by_cases h2 : i % 5 = X ∧ i / 5 = Y
    · rw [if_neg h1, if_pos h2, if_pos (by omega)]
      unfold chF
      rw [h2.1, h2.2]
    · rw [if_neg h1, if_neg h2, if_neg (by omega)]
      split <;> simp [ofB]
theorem chP_colEnd (f : Nat → Nat) (X : Nat) : stL (chP f X 5 0) = stL (chP f (X + 1) 0 0) := stL_congr fun i hi => by
  unfold chP
  by_cases h1 : i % 5 < X ∨ (i % 5 = X ∧ i / 5 < 5)
  · rw [if_pos h1, if_pos (by omega)]
  · rw [if_neg h1, if_neg (by omega), if_neg (by omega)]
    split <;> simp [ofB]
theorem chP_done (f : Nat → Nat) : stL (chP f 5 0 0) = stL (chF f) := stL_congr fun i hi => by
  unfold chP
  rw [if_pos (by omega)]
theorem chP_skip (f : Nat → Nat) (X Y Z : Nat) (h : chB f X Y Z = false) : stL (chP f X Y Z) = stL (chP f X Y (Z + 1)) := stL_congr fun i hi => by
  unfold chP
  by_cases h1 : i % 5 < X ∨ (i % 5 = X ∧ i / 5 < Y)
  · rw [if_pos h1, if_pos h1]
  · rw [if_neg h1, if_neg h1]
    simp [ofB_succ, h]
theorem chP_lane (f : Nat → Nat) (X Y Z : Nat) (hX : X < 5) : chP f X Y Z (X + 5 * Y) = ofB (chB f X Y) Z := by
  have e1 : (X + 5 * Y) % 5 = X := by omega
  have e2 : (X + 5 * Y) / 5 = Y := by omega
  simp [chP, e1, e2]
theorem chP_put (f : Nat → Nat) (X Y Z : Nat) (hX : X < 5) (h : chB f X Y Z = true) :
    (stL (chP f X Y Z)).set (X + 5 * Y) ((chP f X Y Z (X + 5 * Y) + 2 ^ Z : Nat) : Int) = stL (chP f X Y (Z + 1)) := by
  rw [stL_set]
  refine stL_congr fun i hi => ?_
  by_cases e : i = X + 5 * Y
  · subst e
    simp only [if_true]
    rw [chP_lane f X Y Z hX, chP_lane f X Y (Z + 1) hX, ofB_succ]
    simp [h]
  · simp only [e, if_false]
    unfold chP
    have h2 : ¬ (i % 5 = X ∧ i / 5 = Y) := by omega
    simp only [h2, if_false]
theorem pow_room (g : Nat → Bool) (Z : Nat) (hZ : Z < 64) : ofB g Z + 2 ^ Z < 18446744073709551616 := by
  have h1 := ofB_lt g Z
  have h2 := Nat.pow_le_pow_right (show 0 < 2 by decide) (show Z + 1 ≤ 64 by omega)
  have h3 : 2 ^ 64 = 18446744073709551616 := by decide
  rw [Nat.pow_succ] at h2
  omega

/-! ### Rho -/
/-- Where the walk over the lanes stands behind t steps, as x and y. -/
def rhXY : Nat → Nat × Nat
  | 0 => (1, 0)
  | t + 1 => ((rhXY t).2, (2 * (rhXY t).1 + 3 * (rhXY t).2) % 5)
def rhPos (t : Nat) : Nat := (rhXY t).1 + 5 * (rhXY t).2
def rhBy (t : Nat) : Nat := (t + 1) * (t + 2) / 2 % 64
/-- At which step lane i comes. -/
def rhTau (i : Nat) : Nat := (List.range 24).findIdx fun t => rhPos t == i
theorem rhXY_lt : ∀ t, t < 25 → (rhXY t).1 < 5 ∧ (rhXY t).2 < 5 := by decide
theorem rhTau_pos : ∀ t, t < 24 → rhTau (rhPos t) = t ∧ rhPos t ≠ 0 := by decide
theorem rhPos_tau : ∀ i, i < 25 → i ≠ 0 → rhTau i < 24 ∧ rhPos (rhTau i) = i := by decide
/-- The lane that is turned by step t, as far as its first z bits have come. -/
def rhG (f : Nat → Nat) (t z p : Nat) : Bool := decide ((p + 64 - rhBy t) % 64 < z) && decide (bitN f (rhXY t).1 (rhXY t).2 ((p + 64 - rhBy t) % 64) = 1)
def rhP (f : Nat → Nat) (t z : Nat) (i : Nat) : Nat :=
  if i = 0 then f 0 else if rhTau i < t then ofB (rhG f (rhTau i) 64) 64 else if rhTau i = t then ofB (rhG f t z) 64 else 0
def rhF (f : Nat → Nat) (i : Nat) : Nat := if i = 0 then f 0 else ofB (rhG f (rhTau i) 64) 64
theorem rhBy_lt (t : Nat) : rhBy t < 64 := Nat.mod_lt _ (by decide)
theorem rhG_zero (f : Nat → Nat) (t : Nat) : ofB (rhG f t 0) 64 = 0 := by
  have h : ∀ n, ofB (fun _ => false) n = 0 := by
    intro n
    induction n with
    | zero => rfl
    | succ n ih => simp [ofB_succ, ih]
  rw [ofB_congr (h := fun _ => false) 64 (fun i hi => by simp [rhG]), h]
theorem rhP_start (f : Nat → Nat) : (stL (fun _ => 0)).set 0 ((f 0 : Nat) : Int) = stL (rhP f 0 0) := by
  rw [stL_set]
  refine stL_congr fun i hi => ?_
  unfold rhP
  by_cases h : i = 0
  · simp [h]
  · simp only [h, if_false, Nat.not_lt_zero]
    split
    · exact (rhG_zero f 0).symm
    · rfl
theorem rhP_stepEnd (f : Nat → Nat) (t : Nat) (ht : t < 24) : stL (rhP f t 64) = stL (rhP f (t + 1) 0) := stL_congr fun i hi => by
  unfold rhP
  by_cases h : i = 0
  · simp [h]
  · simp only [h, if_false]
    by_cases h1 : rhTau i < t
    · simp [h1, show rhTau i < t + 1 by omega]
    · by_cases h2 : rhTau i = t
      · simp [h2]
      · simp only [h1, h2, show ¬ rhTau i < t + 1 by omega, if_false]
        split
        · exact (rhG_zero f (t + 1)).symm
        · rfl
theorem rhP_done (f : Nat → Nat) : stL (rhP f 24 0) = stL (rhF f) := stL_congr fun i hi => by
  unfold rhP rhF
  by_cases h : i = 0
  · simp [h]
  · simp [h, (rhPos_tau i hi h).1]
theorem rhG_succ (f : Nat → Nat) (t z : Nat) (hz : z < 64) (i : Nat) (hi : i < 64) :
    rhG f t (z + 1) i = if i = (z + rhBy t) % 64 then decide (bitN f (rhXY t).1 (rhXY t).2 z = 1) else rhG f t z i := by
  have hb := rhBy_lt t
  unfold rhG
  by_cases e : i = (z + rhBy t) % 64
  · have e2 : (i + 64 - rhBy t) % 64 = z := by omega
    simp [e2, e.symm]
  · have e2 : (i + 64 - rhBy t) % 64 ≠ z := by omega
    simp only [e, if_false]
    have e3 : ((i + 64 - rhBy t) % 64 < z + 1) ↔ ((i + 64 - rhBy t) % 64 < z) := by omega
    simp only [e3]
theorem rhG_fresh (f : Nat → Nat) (t z : Nat) (hz : z < 64) : rhG f t z ((z + rhBy t) % 64) = false := by
  have hb := rhBy_lt t
  unfold rhG
  have e2 : ((z + rhBy t) % 64 + 64 - rhBy t) % 64 = z := by omega
  simp [e2]
theorem rhG_skip (f : Nat → Nat) (t z : Nat) (hz : z < 64) (h : bitN f (rhXY t).1 (rhXY t).2 z ≠ 1) : ofB (rhG f t z) 64 = ofB (rhG f t (z + 1)) 64 :=
  ofB_congr 64 fun i hi => by
    rw [rhG_succ f t z hz i hi]
    by_cases e : i = (z + rhBy t) % 64
    · subst e
      rw [rhG_fresh f t z hz]
      simp [h]
    · simp [e]
theorem rhG_put (f : Nat → Nat) (t z : Nat) (hz : z < 64) (h : bitN f (rhXY t).1 (rhXY t).2 z = 1) : ofB (rhG f t z) 64 + 2 ^ ((z + rhBy t) % 64) = ofB (rhG f t (z + 1)) 64 := by
  rw [← ofB_flip (rhG f t z) ((z + rhBy t) % 64) (rhG_fresh f t z hz) 64 (Nat.mod_lt _ (by decide))]
  refine (ofB_congr 64 fun i hi => ?_).symm
  rw [rhG_succ f t z hz i hi]
  by_cases e : i = (z + rhBy t) % 64 <;> simp [e, h]
theorem rhP_lane (f : Nat → Nat) (t z : Nat) (ht : t < 24) : rhP f t z (rhPos t) = ofB (rhG f t z) 64 := by
  obtain ⟨h1, h2⟩ := rhTau_pos t ht
  simp [rhP, h1, h2]
theorem rhP_skip (f : Nat → Nat) (t z : Nat) (hz : z < 64) (h : bitN f (rhXY t).1 (rhXY t).2 z ≠ 1) : stL (rhP f t z) = stL (rhP f t (z + 1)) := stL_congr fun i hi => by
  unfold rhP
  rw [rhG_skip f t z hz h]
theorem rhP_put (f : Nat → Nat) (t z : Nat) (ht : t < 24) (hz : z < 64) (h : bitN f (rhXY t).1 (rhXY t).2 z = 1) :
    (stL (rhP f t z)).set ((rhXY t).1 + 5 * (rhXY t).2) ((rhP f t z ((rhXY t).1 + 5 * (rhXY t).2) + 2 ^ ((z + rhBy t) % 64) : Nat) : Int) = stL (rhP f t (z + 1)) := by
  have hp : (rhXY t).1 + 5 * (rhXY t).2 = rhPos t := rfl
  rw [hp, stL_set]
  refine stL_congr fun i hi => ?_
  by_cases e : i = rhPos t
  · subst e
    simp only [if_true]
    rw [rhP_lane f t z ht, rhP_lane f t (z + 1) ht]
    exact rhG_put f t z hz h
  · simp only [e, if_false]
    unfold rhP
    by_cases h0 : i = 0
    · simp [h0]
    · have h1 : rhTau i ≠ t := by
        intro h2
        exact e (by rw [← h2]; exact ((rhPos_tau i hi h0).2).symm)
      simp [h0, h1]
theorem rhP_room (f : Nat → Nat) (t z : Nat) (ht : t < 24) (hz : z < 64) (h : bitN f (rhXY t).1 (rhXY t).2 z = 1) : rhP f t z ((rhXY t).1 + 5 * (rhXY t).2) + 2 ^ ((z + rhBy t) % 64) < 18446744073709551616 := by
  have hp : (rhXY t).1 + 5 * (rhXY t).2 = rhPos t := rfl
  rw [hp, rhP_lane f t z ht, rhG_put f t z hz h]
  exact ofB_64 _ _ (Nat.le_refl _)

/-! ### The bits of the constants -/
def rcStep (r : List Int) : List Int :=
  [r.getD 7 0 % 2, r.getD 0 0, r.getD 1 0, r.getD 2 0, (r.getD 3 0 + r.getD 7 0) % 2, (r.getD 4 0 + r.getD 7 0) % 2, (r.getD 5 0 + r.getD 7 0) % 2, r.getD 6 0]
def rcS : Nat → List Int
  | 0 => [1, 0, 0, 0, 0, 0, 0, 0]
  | n + 1 => rcStep (rcS n)
theorem rcS_ok : ∀ n, ∃ a b c d e f g h : Int, rcS n = [a, b, c, d, e, f, g, h] ∧ (0 ≤ a ∧ a ≤ 1) ∧ (0 ≤ b ∧ b ≤ 1) ∧ (0 ≤ c ∧ c ≤ 1) ∧ (0 ≤ d ∧ d ≤ 1) ∧ (0 ≤ e ∧ e ≤ 1) ∧ (0 ≤ f ∧ f ≤ 1) ∧ (0 ≤ g ∧ g ≤ 1) ∧ (0 ≤ h ∧ h ≤ 1)
  | 0 => ⟨1, 0, 0, 0, 0, 0, 0, 0, rfl, by decide, by decide, by decide, by decide, by decide, by decide, by decide, by decide⟩
  | n + 1 => by
    obtain ⟨a, b, c, d, e, f, g, h, he, ha, hb, hc, hd, he', hf, hg, hh⟩ := rcS_ok n
    refine ⟨h % 2, a, b, c, (d + h) % 2, (e + h) % 2, (f + h) % 2, g, ?_, by omega, ha, hb, hc, by omega, by omega, by omega, hg⟩
    show rcStep (rcS n) = _
    rw [he]
    rfl
end Go.Proofs.YtkoecgoajbgkgaaDoor
