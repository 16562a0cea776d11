/- A state's bytes, bytes' state, bytes that are padded and taken in, and what comes out without end: plain mathematics. No program's text is named. -/
import Derived.Test.YtkoecgoajbgkgaaDoorLib
import Derived.Test.YtkoecgoajbgkgaaDoorKMath5
namespace Go.Proofs.YtkoecgoajbgkgaaDoor
set_option linter.unusedSimpArgs false
set_option linter.unusedVariables false

/-! ### A state's bytes -/
def byF (f : Nat → Nat) (k : Nat) : UInt8 := stB (f (k / 8)) (k % 8)
def bsP (f : Nat → Nat) (n : Nat) : List UInt8 := (List.range n).map (byF f)
theorem bsP_length (f : Nat → Nat) (n : Nat) : (bsP f n).length = n := by simp [bsP]
theorem bsP_next (f : Nat → Nat) (i : Nat) : bsP f (8 * i) ++ (List.range 8).map (stB (f i)) = bsP f (8 * (i + 1)) := by
  unfold bsP
  rw [show 8 * (i + 1) = 8 * i + 8 by omega, List.range_add, List.map_append, List.map_map]
  congr 1
  refine List.map_congr_left fun t ht => ?_
  have := List.mem_range.1 ht
  simp only [Function.comp, byF]
  rw [show (8 * i + t) / 8 = i by omega, show (8 * i + t) % 8 = t by omega]
theorem bsP_get (f : Nat → Nat) (n k : Nat) (hk : k < n) : (bsP f n).getD k 0 = byF f k := by simp [bsP, hk]

/-! ### Bytes' state -/
def stF (l : List UInt8) (i : Nat) : Nat := leN ((l.drop (8 * i)).take 8)
theorem stF_lt (l : List UInt8) (i : Nat) : stF l i < 18446744073709551616 := by
  unfold stF
  exact leN_take_lt _ 8 (Nat.le_refl _)
def stP (l : List UInt8) (n : Nat) : List Int := (List.range n).map fun i => ((stF l i : Nat) : Int)
theorem stP_next (l : List UInt8) (n : Nat) : stP l n ++ [((stF l n : Nat) : Int)] = stP l (n + 1) := by
  unfold stP
  rw [List.range_succ, List.map_append]
  rfl
theorem stP_length (l : List UInt8) (n : Nat) : (stP l n).length = n := by simp [stP]
theorem stP_done (l : List UInt8) : stP l 25 = stL (stF l) := rfl

/-! ### One byte laid over another, as far as that has come -/
def xhP (s p : List UInt8) (i K : Nat) : List UInt8 := (List.range 200).map fun k => if k < K then s.getD k 0 ^^^ p.getD (i + k) 0 else s.getD k 0
theorem xhP_length (s p : List UInt8) (i K : Nat) : (xhP s p i K).length = 200 := by simp [xhP]
theorem xhP_zero (s p : List UInt8) (i : Nat) (hs : s.length = 200) : s = xhP s p i 0 := by
  refine List.ext_getElem (by simp [xhP, hs]) fun k h1 h2 => ?_
  simp [xhP, h1]
theorem xhP_get (s p : List UInt8) (i K : Nat) (hK : K < 200) : (xhP s p i K).getD K 0 = s.getD K 0 := by simp [xhP, hK]
theorem xhP_set (s p : List UInt8) (i K : Nat) : (xhP s p i K).set K (s.getD K 0 ^^^ p.getD (i + K) 0) = xhP s p i (K + 1) := by
  refine List.ext_getElem (by simp [xhP]) fun k h1 h2 => ?_
  simp only [xhP, List.getElem_set, List.getElem_map, List.getElem_range]
  by_cases e : K = k
  · subst e; simp
  · have : (k < K + 1) ↔ k < K := by omega
    simp [e, this]

/-! ### Padded bytes -/
/-- How many noughts stand behind the suffix. -/
def zN (r n : Nat) : Nat := (r - (n + 1) % r) % r
theorem zN_full (r n : Nat) (hr : 0 < r) : (n + 1 + zN r n) % r = 0 := by
  unfold zN
  have h1 : (n + 1) % r < r := Nat.mod_lt _ hr
  by_cases h : (n + 1) % r = 0
  · rw [h, Nat.sub_zero, Nat.mod_self, Nat.add_zero, h]
  · rw [Nat.mod_eq_of_lt (by omega : r - (n + 1) % r < r)]
    have h2 := Nat.div_add_mod (n + 1) r
    have h3 : n + 1 + (r - (n + 1) % r) = r * ((n + 1) / r + 1) := by rw [Nat.mul_add, Nat.mul_one]; omega
    rw [h3, Nat.mul_mod_right]
theorem zN_least (r n z : Nat) (hr : 0 < r) (hz : z < zN r n) : (n + 1 + z) % r ≠ 0 := by
  unfold zN at hz
  have h1 : (n + 1) % r < r := Nat.mod_lt _ hr
  by_cases h : (n + 1) % r = 0
  · rw [h, Nat.sub_zero, Nat.mod_self] at hz
    omega
  · rw [Nat.mod_eq_of_lt (by omega : r - (n + 1) % r < r)] at hz
    have h2 := Nat.div_add_mod (n + 1) r
    have h3 : n + 1 + z = r * ((n + 1) / r) + ((n + 1) % r + z) := by omega
    rw [h3, Nat.mul_add_mod, Nat.mod_eq_of_lt (by omega)]
    omega
theorem zN_lt (r n : Nat) (hr : 0 < r) : zN r n < r := Nat.mod_lt _ hr
/-- Padded, but for the last byte's highest bit. -/
def pdP (s : UInt8) (l : List UInt8) (z : Nat) : List UInt8 := l ++ [s] ++ List.replicate z 0
theorem pdP_length (s : UInt8) (l : List UInt8) (z : Nat) : (pdP s l z).length = l.length + 1 + z := by simp [pdP]; omega
theorem pdP_next (s : UInt8) (l : List UInt8) (z : Nat) : pdP s l z ++ [0] = pdP s l (z + 1) := by
  unfold pdP
  rw [List.append_assoc, List.replicate_succ']
def padL (r : Nat) (s : UInt8) (l : List UInt8) : List UInt8 := (pdP s l (zN r l.length)).set (l.length + zN r l.length) ((pdP s l (zN r l.length)).getD (l.length + zN r l.length) 0 ^^^ 128)
theorem padL_length (r : Nat) (s : UInt8) (l : List UInt8) : (padL r s l).length = l.length + 1 + zN r l.length := by simp [padL, pdP_length]
/-- How many blocks. -/
def blN (r : Nat) (l : List UInt8) : Nat := (l.length + 1 + zN r l.length) / r
theorem blN_mul (r : Nat) (l : List UInt8) (hr : 0 < r) : blN r l * r = l.length + 1 + zN r l.length := by
  unfold blN
  exact Nat.div_mul_cancel (Nat.dvd_of_mod_eq_zero (zN_full r _ hr))

/-! ### Taken in -/
def abN (r : Nat) (p : List UInt8) : Nat → Nat → Nat
  | 0 => fun _ => 0
  | b + 1 => rdsF (stF (xhP (bsP (abN r p b) 200) p (b * r) r)) 24
def abF (r : Int) (s : UInt8) (l : List UInt8) : Nat → Nat := if 1 ≤ r ∧ r ≤ 200 then abN r.toNat (padL r.toNat s l) (blN r.toNat l) else fun _ => 0

/-! ### What comes out -/
def itF (f : Nat → Nat) : Nat → Nat → Nat
  | 0 => f
  | t + 1 => rdsF (itF f t) 24
def smF (f : Nat → Nat) (r k : Nat) : UInt8 := byF (itF f (k / r)) (k % r)
def otL (f : Nat → Nat) (r n : Nat) : List UInt8 := (List.range n).map (smF f r)
theorem otL_length (f : Nat → Nat) (r n : Nat) : (otL f r n).length = n := by simp [otL]
theorem otL_take (f : Nat → Nat) (r n m : Nat) (h : n ≤ m) : (otL f r m).take n = otL f r n := by
  unfold otL
  rw [← List.map_take, List.take_range, Nat.min_eq_left h]
theorem bsP_take (f : Nat → Nat) (n m : Nat) (h : n ≤ m) : (bsP f m).take n = bsP f n := by
  unfold bsP
  rw [← List.map_take, List.take_range, Nat.min_eq_left h]
theorem otL_next (f : Nat → Nat) (r m : Nat) (hr : 0 < r) : otL f r (m * r) ++ bsP (itF f m) r = otL f r ((m + 1) * r) := by
  unfold otL bsP
  rw [Nat.add_mul, Nat.one_mul, List.range_add, List.map_append, List.map_map]
  congr 1
  refine List.map_congr_left fun t ht => ?_
  have h := List.mem_range.1 ht
  simp only [Function.comp, smF]
  rw [Nat.mul_comm m r, Nat.mul_add_div hr, Nat.mul_add_mod, Nat.div_eq_of_lt h, Nat.mod_eq_of_lt h, Nat.add_zero]
end Go.Proofs.YtkoecgoajbgkgaaDoor
