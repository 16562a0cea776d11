/- States of 25 lanes as functions, their bits, and what the document's steps say of them bit by bit: plain mathematics. No program's text is named. -/
import Derived.Below
namespace Go.Proofs.Ytmgkocoemgpgbaa
set_option linter.unusedSimpArgs false
set_option linter.unusedVariables false

/-- A state's lanes as a row of numbers. -/
def stL (f : Nat → Nat) : List Int := (List.range 25).map fun i => ((f i : Nat) : Int)
theorem stL_length (f : Nat → Nat) : (stL f).length = 25 := by simp [stL]
theorem stL_ne (f : Nat → Nat) : stL f ≠ [] := by
  intro h
  have := stL_length f
  rw [h] at this
  simp at this
theorem stL_get (f : Nat → Nat) (i : Nat) (h : i < 25) : (stL f).getD i 0 = ((f i : Nat) : Int) := by
  simp [stL, h]
theorem stL_set (f : Nat → Nat) (j : Nat) (x : Nat) : (stL f).set j (x : Int) = stL (fun i => if i = j then x else f i) := by
  refine List.ext_getElem (by simp [stL]) fun i h1 h2 => ?_
  simp only [stL, List.getElem_set, List.getElem_map, List.getElem_range]
  by_cases e : j = i
  · subst e; simp
  · simp [e, Ne.symm e]
theorem stL_congr {f g : Nat → Nat} (h : ∀ i, i < 25 → f i = g i) : stL f = stL g := by
  unfold stL
  exact List.map_congr_left fun i hi => by rw [h i (List.mem_range.1 hi)]
theorem stL_inj {f g : Nat → Nat} (h : stL f = stL g) (i : Nat) (hi : i < 25) : f i = g i := by
  have : (stL f).getD i 0 = (stL g).getD i 0 := by rw [h]
  rw [stL_get f i hi, stL_get g i hi] at this
  omega
theorem stL_zero : List.replicate 25 (0 : Int) = stL (fun _ => 0) := by decide

/-- Bit z of lane x, y, as a number. -/
def bitN (f : Nat → Nat) (x y z : Nat) : Nat := f (x + 5 * y) / 2 ^ z % 2
theorem bitN_lt (f : Nat → Nat) (x y z : Nat) : bitN f x y z < 2 := Nat.mod_lt _ (by decide)
theorem bitN_le (f : Nat → Nat) (x y z : Nat) : ((bitN f x y z : Nat) : Int) ≤ 1 := by have := bitN_lt f x y z; omega

/-- The number whose lowest n bits are these. -/
def ofB (g : Nat → Bool) : Nat → Nat
  | 0 => 0
  | n + 1 => ofB g n + if g n then 2 ^ n else 0
theorem ofB_lt (g : Nat → Bool) : ∀ n, ofB g n < 2 ^ n
  | 0 => by simp [ofB]
  | n + 1 => by
    have := ofB_lt g n
    unfold ofB
    rw [Nat.pow_succ]
    split <;> omega
theorem ofB_succ (g : Nat → Bool) (n : Nat) : ofB g (n + 1) = ofB g n + if g n then 2 ^ n else 0 := rfl
theorem ofB_bit (g : Nat → Bool) : ∀ n i, i < n → ofB g n / 2 ^ i % 2 = if g i then 1 else 0
  | 0, i, h => by omega
  | n + 1, i, h => by
    have hl := ofB_lt g n
    by_cases e : i = n
    · subst e
      rw [ofB_succ]
      by_cases hg : g i
      · simp only [hg, if_true]
        rw [Nat.add_div_right _ (Nat.pow_pos (by decide)), Nat.div_eq_of_lt hl]
      · simp only [hg]
        simp [Nat.div_eq_of_lt hl]
    · have ih := ofB_bit g n i (by omega)
      rw [ofB_succ]
      split
      · obtain ⟨d, hd⟩ : ∃ d, n = i + (d + 1) := ⟨n - i - 1, by omega⟩
        have e1 : 2 ^ n = 2 ^ i * (2 * 2 ^ d) := by rw [hd, Nat.pow_add, Nat.pow_succ, Nat.mul_comm (2 ^ d)]
        rw [e1, Nat.add_mul_div_left _ _ (Nat.pow_pos (by decide)), Nat.add_mul_mod_self_left]
        exact ih
      · simpa using ih
theorem ofB_64 (g : Nat → Bool) (n : Nat) (h : n ≤ 64) : ofB g n < 18446744073709551616 := by
  have h1 := ofB_lt g n
  have h2 := Nat.pow_le_pow_right (show 0 < 2 by decide) h
  have h3 : 2 ^ 64 = 18446744073709551616 := by decide
  omega
theorem ofB_congr {g h : Nat → Bool} : ∀ n, (∀ i, i < n → g i = h i) → ofB g n = ofB h n
  | 0, _ => rfl
  | n + 1, e => by rw [ofB_succ, ofB_succ, ofB_congr n (fun i hi => e i (by omega)), e n (by omega)]
/-- A number below 2^n is that of its bits. -/
theorem ofB_self (x : Nat) : ∀ n, ofB (fun i => decide (x / 2 ^ i % 2 = 1)) n = x % 2 ^ n
  | 0 => by simp [ofB, Nat.mod_one]
  | n + 1 => by
    rw [ofB_succ, ofB_self x n, Nat.mod_pow_succ]
    have := Nat.mod_two_eq_zero_or_one (x / 2 ^ n)
    rcases this with h | h <;> simp [h]

/-- Two numbers below 2^64 with the same bits are the same. -/
theorem lanes_ext {x y : Nat} (hx : x < 18446744073709551616) (hy : y < 18446744073709551616) (h : ∀ z, z < 64 → x / 2 ^ z % 2 = y / 2 ^ z % 2) : x = y := by
  have e1 := ofB_self x 64
  have e2 := ofB_self y 64
  have h64 : (2 : Nat) ^ 64 = 18446744073709551616 := by decide
  rw [h64, Nat.mod_eq_of_lt hx] at e1
  rw [h64, Nat.mod_eq_of_lt hy] at e2
  rw [← e1, ← e2]
  exact ofB_congr 64 fun i hi => by rw [h i hi]

/-! ### Theta -/
/-- How many of the ten bits beside it are 1, those of the first Y rows. -/
def thN (f : Nat → Nat) (x z : Nat) : Nat → Nat
  | 0 => 0
  | Y + 1 => thN f x z Y + (bitN f ((x + 4) % 5) Y z + bitN f ((x + 1) % 5) Y ((z + 63) % 64))
theorem thN_le (f : Nat → Nat) (x z : Nat) : ∀ Y, thN f x z Y ≤ 2 * Y
  | 0 => by simp [thN]
  | Y + 1 => by
    have := thN_le f x z Y
    have a := bitN_lt f ((x + 4) % 5) Y z
    have b := bitN_lt f ((x + 1) % 5) Y ((z + 63) % 64)
    unfold thN
    omega
/-- The bit that Theta makes. -/
def thB (f : Nat → Nat) (x y z : Nat) : Bool := decide ((thN f x z 5 + bitN f x y z) % 2 = 1)
/-- Lanes as far as they are made: columns below X whole, of column X the bits below Z, of its first Y rows bit Z too. -/
def thP (f : Nat → Nat) (X Z Y : Nat) (i : Nat) : Nat :=
  if i % 5 < X then ofB (thB f (i % 5) (i / 5)) 64 else if i % 5 = X then ofB (thB f (i % 5) (i / 5)) (if i / 5 < Y then Z + 1 else Z) else 0
theorem thP_lt (f : Nat → Nat) (X Z Y i : Nat) (hZ : Z < 64) : thP f X Z Y i < 18446744073709551616 := by
  unfold thP
  split
  · exact ofB_64 _ _ (by omega)
  · split
    · exact ofB_64 _ _ (by split <;> omega)
    · decide
/-- Theta of a state. -/
def thF (f : Nat → Nat) (i : Nat) : Nat := ofB (thB f (i % 5) (i / 5)) 64
theorem thP_start (f : Nat → Nat) : stL (fun _ => 0) = stL (thP f 0 0 0) := stL_congr fun i hi => by
  unfold thP
  simp [ofB]
theorem thP_rowEnd (f : Nat → Nat) (X Z : Nat) : stL (thP f X Z 5) = stL (thP f X (Z + 1) 0) := stL_congr fun i hi => by
  unfold thP
  have : i / 5 < 5 := by omega
  simp [this]
theorem thP_colEnd (f : Nat → Nat) (X : Nat) : stL (thP f X 64 0) = stL (thP f (X + 1) 0 0) := stL_congr fun i hi => by
  unfold thP
  by_cases h1 : i % 5 < X
  · simp [h1, show i % 5 < X + 1 by omega]
  · by_cases h2 : i % 5 = X
    · simp [h2]
    · have h3 : ¬ i % 5 < X + 1 := by omega
      simp only [h1, h2, h3, if_false]
      split <;> simp [ofB]
theorem thP_done (f : Nat → Nat) : stL (thP f 5 0 0) = stL (thF f) := stL_congr fun i hi => by
  unfold thP thF
  simp [show i % 5 < 5 by omega]
/-- One row more, where nothing is put. -/
theorem thP_skip (f : Nat → Nat) (X Z Y : Nat) (hX : X < 5) (h : thB f X Y Z = false) : stL (thP f X Z Y) = stL (thP f X Z (Y + 1)) := stL_congr fun i hi => by
  unfold thP
  by_cases h1 : i % 5 < X
  · simp [h1]
  · by_cases h2 : i % 5 = X
    · simp only [h1, h2, if_false, if_true]
      by_cases h3 : i / 5 < Y
      · simp [h3, show i / 5 < Y + 1 by omega]
      · by_cases h4 : i / 5 = Y
        · simp [h4, ofB_succ, h]
        · simp [h3, show ¬ i / 5 < Y + 1 by omega]
    · simp [h1, h2]
/-- One row more, where a bit is put. -/
theorem thP_put (f : Nat → Nat) (X Z Y : Nat) (hX : X < 5) (hY : Y < 5) (h : thB f X Y Z = true) :
    (stL (thP f X Z Y)).set (X + 5 * Y) (((thP f X Z Y (X + 5 * Y) + 2 ^ Z : Nat)) : Int) = stL (thP f X Z (Y + 1)) := by
  rw [stL_set]
  refine stL_congr fun i hi => ?_
  have e1 : (X + 5 * Y) % 5 = X := by omega
  have e2 : (X + 5 * Y) / 5 = Y := by omega
  by_cases e : i = X + 5 * Y
  · subst e
    simp only [if_true]
    unfold thP
    simp [e1, e2, ofB_succ, h]
  · simp only [e, if_false]
    unfold thP
    by_cases h1 : i % 5 < X
    · simp [h1]
    · by_cases h2 : i % 5 = X
      · simp only [h1, h2, if_false, if_true]
        by_cases h3 : i / 5 < Y
        · simp [h3, show i / 5 < Y + 1 by omega]
        · simp [h3, show ¬ i / 5 < Y + 1 by omega]
      · simp [h1, h2]
theorem thP_room (f : Nat → Nat) (X Z Y : Nat) (hX : X < 5) (hZ : Z < 64) (hY : Y < 5) : thP f X Z Y (X + 5 * Y) + 2 ^ Z < 18446744073709551616 := by
  have e1 : (X + 5 * Y) % 5 = X := by omega
  have e2 : (X + 5 * Y) / 5 = Y := by omega
  have h0 : thP f X Z Y (X + 5 * Y) = ofB (thB f X Y) Z := by unfold thP; simp [e1, e2]
  rw [h0]
  have h1 := ofB_lt (thB f X Y) Z
  have h2 := Nat.pow_le_pow_right (show 0 < 2 by decide) (show Z + 1 ≤ 64 by omega)
  have h3 : 2 ^ 64 = 18446744073709551616 := by decide
  rw [Nat.pow_succ] at h2
  omega
end Go.Proofs.Ytmgkocoemgpgbaa
