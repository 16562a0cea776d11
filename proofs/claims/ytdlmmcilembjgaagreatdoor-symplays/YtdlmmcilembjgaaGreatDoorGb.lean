/- What functions of the program, or of the reference, answer: contracts; several texts in one. -/
import Derived.Test.YtdlmmcilembjgaaGreatDoorBase
import Derived.Test.YtdlmmcilembjgaaGreatDoorGa
import Derived.Test.YtdlmmcilembjgaaGreatDoorChecked
import Derived.Laws.Externs
import Derived.Lib.Mul64
import Derived.OwnWalk
import Derived.BigQuiet

namespace Go.Proofs.YtdlmmcilembjgaaGreatDoor
set_option linter.unusedSimpArgs false
set_option linter.unusedVariables false

def byF (f : Nat → Nat) (k : Nat) : UInt8 := stB (f (k / 8)) (k % 8)
def bsP (f : Nat → Nat) (n : Nat) : List UInt8 := (List.range n).map (byF f)
theorem bsP_length (f : Nat → Nat) (n : Nat) : (bsP f n).length = n := by simp [bsP]
theorem bsP_next (f : Nat → Nat) (i : Nat) : bsP f (8 * i) ++ (List.range 8).map (stB (f i)) = bsP f (8 * (i + 1)) := by
 unfold bsP
 rw [show 8 * (i + 1) = 8 * i + 8 by omega, List.range_add, List.map_append, List.map_map]
 congr 1
 refine List.map_congr_left fun t ht => ?_
 have := List.mem_range.1 ht
 simp only [Function.comp, byF]
 rw [show (8 * i + t) / 8 = i by omega, show (8 * i + t) % 8 = t by omega]
theorem bsP_get (f : Nat → Nat) (n k : Nat) (hk : k < n) : (bsP f n).getD k 0 = byF f k := by simp [bsP, hk]

def stF (l : List UInt8) (i : Nat) : Nat := leN ((l.drop (8 * i)).take 8)
theorem stF_lt (l : List UInt8) (i : Nat) : stF l i < 18446744073709551616 := by
 unfold stF
 exact leN_take_lt _ 8 (Nat.le_refl _)
def stP (l : List UInt8) (n : Nat) : List Int := (List.range n).map fun i => ((stF l i : Nat) : Int)
theorem stP_next (l : List UInt8) (n : Nat) : stP l n ++ [((stF l n : Nat) : Int)] = stP l (n + 1) := by
 unfold stP
 rw [List.range_succ, List.map_append]
 rfl
theorem stP_length (l : List UInt8) (n : Nat) : (stP l n).length = n := by simp [stP]
theorem stP_done (l : List UInt8) : stP l 25 = stL (stF l) := rfl

def xhP (s p : List UInt8) (i K : Nat) : List UInt8 := (List.range 200).map fun k => if k < K then s.getD k 0 ^^^ p.getD (i + k) 0 else s.getD k 0
theorem xhP_length (s p : List UInt8) (i K : Nat) : (xhP s p i K).length = 200 := by simp [xhP]
theorem xhP_zero (s p : List UInt8) (i : Nat) (hs : s.length = 200) : s = xhP s p i 0 := by
 refine List.ext_getElem (by simp [xhP, hs]) fun k h1 h2 => ?_
 simp [xhP, h1]
theorem xhP_get (s p : List UInt8) (i K : Nat) (hK : K < 200) : (xhP s p i K).getD K 0 = s.getD K 0 := by simp [xhP, hK]
theorem xhP_set (s p : List UInt8) (i K : Nat) : (xhP s p i K).set K (s.getD K 0 ^^^ p.getD (i + K) 0) = xhP s p i (K + 1) := by
 refine List.ext_getElem (by simp [xhP]) fun k h1 h2 => ?_
 simp only [xhP, List.getElem_set, List.getElem_map, List.getElem_range]
 by_cases e : K = k
 ·subst e; simp
 ·have : (k < K + 1) ↔ k < K := by omega
  simp [e, this]

def zN (r n : Nat) : Nat := (r - (n + 1) % r) % r
theorem zN_full (r n : Nat) (hr : 0 < r) : (n + 1 + zN r n) % r = 0 := by
 unfold zN
 have h1 : (n + 1) % r < r := Nat.mod_lt _ hr
 by_cases h : (n + 1) % r = 0
 ·rw [h, Nat.sub_zero, Nat.mod_self, Nat.add_zero, h]
 ·rw [Nat.mod_eq_of_lt (by omega : r - (n + 1) % r < r)]
  have h2 := Nat.div_add_mod (n + 1) r
  have h3 : n + 1 + (r - (n + 1) % r) = r * ((n + 1) / r + 1) := by rw [Nat.mul_add, Nat.mul_one]; omega
  rw [h3, Nat.mul_mod_right]
theorem zN_least (r n z : Nat) (hr : 0 < r) (hz : z < zN r n) : (n + 1 + z) % r ≠ 0 := by
 unfold zN at hz
 have h1 : (n + 1) % r < r := Nat.mod_lt _ hr
 by_cases h : (n + 1) % r = 0
 ·rw [h, Nat.sub_zero, Nat.mod_self] at hz
  omega
 ·rw [Nat.mod_eq_of_lt (by omega : r - (n + 1) % r < r)] at hz
  have h2 := Nat.div_add_mod (n + 1) r
  have h3 : n + 1 + z = r * ((n + 1) / r) + ((n + 1) % r + z) := by omega
  rw [h3, Nat.mul_add_mod, Nat.mod_eq_of_lt (by omega)]
  omega
theorem zN_lt (r n : Nat) (hr : 0 < r) : zN r n < r := Nat.mod_lt _ hr
def pdP (s : UInt8) (l : List UInt8) (z : Nat) : List UInt8 := l ++ [s] ++ List.replicate z 0
theorem pdP_length (s : UInt8) (l : List UInt8) (z : Nat) : (pdP s l z).length = l.length + 1 + z := by simp [pdP]; omega
theorem pdP_next (s : UInt8) (l : List UInt8) (z : Nat) : pdP s l z ++ [0] = pdP s l (z + 1) := by
 unfold pdP
 rw [List.append_assoc, List.replicate_succ']
def padL (r : Nat) (s : UInt8) (l : List UInt8) : List UInt8 := (pdP s l (zN r l.length)).set (l.length + zN r l.length) ((pdP s l (zN r l.length)).getD (l.length + zN r l.length) 0 ^^^ 128)
theorem padL_length (r : Nat) (s : UInt8) (l : List UInt8) : (padL r s l).length = l.length + 1 + zN r l.length := by simp [padL, pdP_length]
def blN (r : Nat) (l : List UInt8) : Nat := (l.length + 1 + zN r l.length) / r
theorem blN_mul (r : Nat) (l : List UInt8) (hr : 0 < r) : blN r l * r = l.length + 1 + zN r l.length := by
 unfold blN
 exact Nat.div_mul_cancel (Nat.dvd_of_mod_eq_zero (zN_full r _ hr))

def abN (r : Nat) (p : List UInt8) : Nat → Nat → Nat
 | 0 => fun _ => 0
 | b + 1 => rdsF (stF (xhP (bsP (abN r p b) 200) p (b * r) r)) 24
def abF (r : Int) (s : UInt8) (l : List UInt8) : Nat → Nat := if 1 ≤ r ∧ r ≤ 200 then abN r.toNat (padL r.toNat s l) (blN r.toNat l) else fun _ => 0

def itF (f : Nat → Nat) : Nat → Nat → Nat
 | 0 => f
 | t + 1 => rdsF (itF f t) 24
def smF (f : Nat → Nat) (r k : Nat) : UInt8 := byF (itF f (k / r)) (k % r)
def otL (f : Nat → Nat) (r n : Nat) : List UInt8 := (List.range n).map (smF f r)
theorem otL_length (f : Nat → Nat) (r n : Nat) : (otL f r n).length = n := by simp [otL]
theorem otL_take (f : Nat → Nat) (r n m : Nat) (h : n ≤ m) : (otL f r m).take n = otL f r n := by
 unfold otL
 rw [← List.map_take, List.take_range, Nat.min_eq_left h]
theorem bsP_take (f : Nat → Nat) (n m : Nat) (h : n ≤ m) : (bsP f m).take n = bsP f n := by
 unfold bsP
 rw [← List.map_take, List.take_range, Nat.min_eq_left h]
theorem otL_next (f : Nat → Nat) (r m : Nat) (hr : 0 < r) : otL f r (m * r) ++ bsP (itF f m) r = otL f r ((m + 1) * r) := by
 unfold otL bsP
 rw [Nat.add_mul, Nat.one_mul, List.range_add, List.map_append, List.map_map]
 congr 1
 refine List.map_congr_left fun t ht => ?_
 have h := List.mem_range.1 ht
 simp only [Function.comp, smF]
 rw [Nat.mul_comm m r, Nat.mul_add_div hr, Nat.mul_add_mod, Nat.div_eq_of_lt h, Nat.mod_eq_of_lt h, Nat.add_zero]
theorem itF_lt (f : Nat → Nat) (hf : ∀ i, f i < 18446744073709551616) : ∀ t k, itF f t k < 18446744073709551616
 | 0, k => hf k
 | t + 1, k => rdsF_lt _ (itF_lt f hf t) 24 k
theorem abN_lt (r : Nat) (p : List UInt8) : ∀ b k, abN r p b k < 18446744073709551616
 | 0, _ => by simp [abN]
 | b + 1, k => rdsF_lt _ (stF_lt _) 24 k
theorem abF_lt (R : Int) (s : UInt8) (l : List UInt8) (k : Nat) : abF R s l k < 18446744073709551616 := by
 unfold abF
 split
 ·exact abN_lt _ _ _ k
 ·show 0 < _
  decide
theorem leN_xor : ∀ (a b : List UInt8), a.length = b.length → leN (List.zipWith (· ^^^ ·) a b) = leN a ^^^ leN b
 | [], [], _ => rfl
 | x :: a, y :: b, h => by
  have ih := leN_xor a b (by simpa using h)
  have e : ∀ (u : UInt8) (n : Nat), u.toNat + 256 * n = 2 ^ 8 * n ||| u.toNat := fun u n => by
   rw [← Nat.two_pow_add_eq_or_of_lt (show u.toNat < 2 ^ 8 from u.toNat_lt)]
   omega
  show (x ^^^ y).toNat + 256 * leN (List.zipWith (· ^^^ ·) a b) = (x.toNat + 256 * leN a) ^^^ (y.toNat + 256 * leN b)
  rw [ih, e, e, e]
  apply Nat.eq_of_testBit_eq
  intro i
  simp only [Nat.testBit_or, Nat.testBit_xor, Nat.testBit_two_pow_mul, UInt8.toNat_xor]
  by_cases hi : 8 ≤ i
  ·have h8 : ∀ u : UInt8, u.toNat.testBit i = false := fun u => Nat.testBit_lt_two_pow (Nat.lt_of_lt_of_le u.toNat_lt (Nat.pow_le_pow_right (by decide) hi))
   simp [hi, h8]
  ·simp [hi]
 | [], _ :: _, h => by simp at h
 | _ :: _, [], h => by simp at h
theorem leN_cons (x : UInt8) (l : List UInt8) : leN (x :: l) = x.toNat + 256 * leN l := rfl
def xbl (blk : Nat → UInt8) (r j : Nat) : Nat := leN ((List.range 8).map fun t => if 8 * j + t < r then blk (8 * j + t) else 0)
theorem xbl_lt (blk : Nat → UInt8) (r j : Nat) : xbl blk r j < 18446744073709551616 := by
 have h := leN_lt ((List.range 8).map fun t => if 8 * j + t < r then blk (8 * j + t) else 0)
 have e : (256 : Nat) ^ ((List.range 8).map fun t => if 8 * j + t < r then blk (8 * j + t) else 0).length = 18446744073709551616 := by
  rw [List.length_map, List.length_range]
 rw [e] at h
 exact h
theorem xbl_congr {b1 b2 : Nat → UInt8} (r j : Nat) (h : ∀ k, k < r → b1 k = b2 k) : xbl b1 r j = xbl b2 r j := by
 unfold xbl
 congr 1
 refine List.map_congr_left fun t _ => ?_
 by_cases e : 8 * j + t < r
 ·rw [if_pos e, if_pos e, h _ e]
 ·rw [if_neg e, if_neg e]
theorem stF_xor (f : Nat → Nat) (hf : ∀ i, f i < 18446744073709551616) (p : List UInt8) (i r j : Nat) (hj : j < 25) :
  stF (xhP (bsP f 200) p i r) j = f j ^^^ xbl (fun k => p.getD (i + k) 0) r j := by
 have e1 : ((xhP (bsP f 200) p i r).drop (8 * j)).take 8 = List.zipWith (· ^^^ ·) ((List.range 8).map (stB (f j))) ((List.range 8).map fun t => if 8 * j + t < r then p.getD (i + (8 * j + t)) 0 else 0) := by
  refine List.ext_getElem (by simp [xhP_length]; omega) fun t h1 h2 => ?_
  have ht : t < 8 := by simp at h1; omega
  have hk : 8 * j + t < 200 := by omega
  have e2 : byF f (8 * j + t) = stB (f j) t := by
   unfold byF
   rw [show (8 * j + t) / 8 = j by omega, show (8 * j + t) % 8 = t by omega]
  simp only [List.getElem_take, List.getElem_drop, xhP, List.getElem_map, List.getElem_range, List.getElem_zipWith]
  rw [bsP_get f 200 _ hk, e2]
  split
  ·rfl
  ·simp
 unfold stF
 have h8 : f j < 256 ^ 8 := hf j
 rw [e1, leN_xor _ _ (by simp), leN_stB, Nat.mod_eq_of_lt h8]
 rfl

def lasB (r : Nat) (s : UInt8) (l : List UInt8) (k : Nat) : UInt8 :=
 (if k < l.length % r then l.getD (l.length / r * r + k) 0 else if k = l.length % r then s else 0) ^^^ (if k = r - 1 then 128 else 0)
theorem zN_eq (r n : Nat) (hr : 0 < r) : zN r n = r - 1 - n % r := by
 unfold zN
 have h1 : n % r < r := Nat.mod_lt _ hr
 have h2 := Nat.div_add_mod n r
 have h3 : n + 1 = r * (n / r) + (n % r + 1) := by omega
 rw [h3, Nat.mul_add_mod]
 by_cases h : n % r + 1 = r
 ·rw [h, Nat.mod_self, Nat.sub_zero, Nat.mod_self]
  omega
 ·rw [Nat.mod_eq_of_lt (by omega : n % r + 1 < r), Nat.mod_eq_of_lt (by omega)]
  omega
theorem blN_eq (r : Nat) (l : List UInt8) (hr : 0 < r) : blN r l = l.length / r + 1 := by
 unfold blN
 rw [zN_eq r _ hr]
 have h1 : l.length % r < r := Nat.mod_lt _ hr
 have h2 := Nat.div_add_mod l.length r
 have h3 : l.length + 1 + (r - 1 - l.length % r) = r * (l.length / r + 1) := by rw [Nat.mul_add, Nat.mul_one]; omega
 rw [h3, Nat.mul_div_cancel_left _ hr]
theorem pdP_get (s : UInt8) (l : List UInt8) (z k : Nat) : (pdP s l z).getD k 0 = if k < l.length then l.getD k 0 else if k = l.length then s else 0 := by
 unfold pdP
 by_cases h : k < l.length
 ·rw [if_pos h]
  simp [List.getElem?_append, h, show k < l.length + 1 by omega]
 ·rw [if_neg h]
  by_cases h2 : k = l.length
  ·subst h2
   simp [List.getElem?_append]
  ·rw [if_neg h2]
   have h3 : ¬ k < l.length + 1 := by omega
   obtain ⟨d, hd⟩ : ∃ d, k - l.length = d + 1 := ⟨k - l.length - 1, by omega⟩
   by_cases h4 : d < z
   ·simp [List.getElem?_append, h, hd, List.getElem?_replicate, h4]
   ·simp [List.getElem?_append, h, hd, List.getElem?_replicate, h4]
theorem padL_get (r : Nat) (s : UInt8) (l : List UInt8) (k : Nat) (hk : k < l.length + 1 + zN r l.length) :
  (padL r s l).getD k 0 = (if k < l.length then l.getD k 0 else if k = l.length then s else 0) ^^^ (if k = l.length + zN r l.length then 128 else 0) := by
 unfold padL
 rw [← pdP_get s l (zN r l.length)]
 have hlen := pdP_length s l (zN r l.length)
 by_cases e : k = l.length + zN r l.length
 ·rw [if_pos e, ← e]
  have h1 : k < (pdP s l (zN r l.length)).length := by omega
  simp [List.getElem?_set, h1]
 ·rw [if_neg e]
  simp [List.getElem?_set, Ne.symm e]
theorem pad_full (r : Nat) (s : UInt8) (l : List UInt8) (hr : 0 < r) (b k : Nat) (hb : b < l.length / r) (hk : k < r) : (padL r s l).getD (b * r + k) 0 = l.getD (b * r + k) 0 := by
 have h1 : (b + 1) * r ≤ l.length / r * r := Nat.mul_le_mul_right r hb
 have h2 := Nat.div_mul_le_self l.length r
 rw [Nat.add_mul, Nat.one_mul] at h1
 rw [padL_get r s l _ (by omega), if_pos (by omega), if_neg (by omega)]
 simp
theorem pad_last (r : Nat) (s : UInt8) (l : List UInt8) (hr : 0 < r) (k : Nat) (hk : k < r) : (padL r s l).getD (l.length / r * r + k) 0 = lasB r s l k := by
 have h0 := Nat.div_add_mod l.length r
 rw [Nat.mul_comm] at h0
 have h1 : l.length % r < r := Nat.mod_lt _ hr
 have hz := zN_eq r l.length hr
 rw [padL_get r s l _ (by omega)]
 unfold lasB
 have c1 : (l.length / r * r + k < l.length) ↔ k < l.length % r := by omega
 have c2 : (l.length / r * r + k = l.length) ↔ k = l.length % r := by omega
 have c3 : (l.length / r * r + k = l.length + zN r l.length) ↔ k = r - 1 := by omega
 simp only [c1, c2, c3]
def tkF (f : Nat → Nat) (blk : Nat → UInt8) (r : Nat) : Nat → Nat := rdsF (fun j => f j ^^^ xbl blk r j) 24
theorem abN_tk (r : Nat) (p : List UInt8) (b : Nat) (k : Nat) (hk : k < 25) : abN r p (b + 1) k = tkF (abN r p b) (fun t => p.getD (b * r + t) 0) r k := by
 show rdsF (stF (xhP (bsP (abN r p b) 200) p (b * r) r)) 24 k = _
 have hlt : ∀ b k, abN r p b k < 18446744073709551616 := by
  intro b
  cases b with
  | zero => intro k; simp [abN]
  | succ b => intro k; exact rdsF_lt _ (stF_lt _) 24 k
 exact rdsF_congr (fun j hj => stF_xor _ (hlt b) p (b * r) r j hj) 24 k hk
theorem tkF_congr {f g : Nat → Nat} {b1 b2 : Nat → UInt8} (r : Nat) (h : ∀ j, j < 25 → f j = g j) (hb : ∀ k, k < r → b1 k = b2 k) (k : Nat) (hk : k < 25) : tkF f b1 r k = tkF g b2 r k :=
 rdsF_congr (fun j hj => by rw [h j hj, xbl_congr r j hb]) 24 k hk
def fuN (r : Nat) (l : List UInt8) : Nat → Nat → Nat
 | 0 => fun _ => 0
 | b + 1 => tkF (fuN r l b) (fun t => l.getD (b * r + t) 0) r
theorem fuN_eq (r : Nat) (s : UInt8) (l : List UInt8) (hr : 0 < r) : ∀ b, b ≤ l.length / r → ∀ k, k < 25 → abN r (padL r s l) b k = fuN r l b k
 | 0, _, _, _ => rfl
 | b + 1, hb, k, hk => (abN_tk r _ b k hk).trans (tkF_congr r (fuN_eq r s l hr b (by omega)) (fun t ht => pad_full r s l hr b t (by omega) ht) k hk)
theorem abs_eq (r : Nat) (s : UInt8) (l : List UInt8) (hr : 0 < r) (k : Nat) (hk : k < 25) : abN r (padL r s l) (blN r l) k = tkF (fuN r l (l.length / r)) (lasB r s l) r k := by
 rw [blN_eq r l hr]
 exact (abN_tk r _ _ k hk).trans (tkF_congr r (fuN_eq r s l hr _ (Nat.le_refl _)) (fun t ht => pad_last r s l hr t ht) k hk)
theorem fuN_lt (r : Nat) (l : List UInt8) : ∀ b k, fuN r l b k < 18446744073709551616
 | 0, _ => by simp [fuN]
 | b + 1, k => rdsF_lt _ (fun j => xor_lt64 (fuN_lt r l b j) (xbl_lt _ _ _)) 24 k

def s2L (l : List UInt8) : List UInt8 := otL (abF 136 6 l) 136 32
theorem s2L_length (l : List UInt8) : (s2L l).length = 32 := otL_length _ _ _
def kyS (k : List UInt8) : List UInt8 := if 136 < k.length then s2L k else k
theorem kyS_length (k : List UInt8) : (kyS k).length ≤ 136 := by
 unfold kyS
 split
 ·rw [s2L_length]; decide
 ·omega
def kyL (k : List UInt8) : List UInt8 := kyS k ++ List.replicate (136 - (kyS k).length) 0
theorem kyL_length (k : List UInt8) : (kyL k).length = 136 := by
 have := kyS_length k
 simp [kyL]
 omega
def mxP (K : List UInt8) (c : UInt8) (j : Nat) : List UInt8 := (List.range j).map fun t => K.getD t 0 ^^^ c
theorem mxP_next (K : List UInt8) (c : UInt8) (j : Nat) : mxP K c j ++ [K.getD j 0 ^^^ c] = mxP K c (j + 1) := by
 unfold mxP
 rw [List.range_succ, List.map_append]
 rfl
theorem mxP_length (K : List UInt8) (c : UInt8) (j : Nat) : (mxP K c j).length = j := by simp [mxP]
def mcF (k b : List UInt8) : List UInt8 := s2L (mxP (kyL k) 92 136 ++ s2L (mxP (kyL k) 54 136 ++ b))
theorem mcF_length (k b : List UInt8) : (mcF k b).length = 32 := s2L_length _
def k1F (ck b : List UInt8) : List UInt8 := mcF (mcF ck b) [1]
def k2F (ck b : List UInt8) : List UInt8 := mcF (mcF ck b) (k1F ck b ++ [2])
def k3F (ck b : List UInt8) : List UInt8 := mcF (mcF ck b) (k2F ck b ++ [3])
structure Cph where
 key : List UInt8
 n : Nat
structure Sta where
 ck : List UInt8
 h : List UInt8
 c : Cph
def ncL (n : Nat) : List UInt8 := List.replicate 4 0 ++ st8 n
theorem ncL_length (n : Nat) : (ncL n).length = 12 := by
 unfold ncL
 rw [List.length_append, List.length_replicate, st8_length]
def opQ (k n a s : List UInt8) : List UInt8 × Int :=
 if s.length < 16 then ([], 13) else if tgL k n a (s.take (s.length - 16)) = s.drop (s.length - 16) then (smL k 1 n (s.take (s.length - 16)), 0) else ([], 10)
def seC (c : Cph) (ad t : List UInt8) : Cph × List UInt8 × Int :=
 if c.key.length = 0 then (c, t, 0) else if c.key.length ≠ 32 then (c, [], 1) else if c.n = 18446744073709551615 then (c, [], 31) else (⟨c.key, c.n + 1⟩, seL c.key (ncL c.n) ad t, 0)
def opC (c : Cph) (ad s : List UInt8) : Cph × List UInt8 × Int :=
 if c.key.length = 0 then (c, s, 0) else if c.key.length ≠ 32 then (c, [], 1) else if c.n = 18446744073709551615 then (c, [], 31)
 else if (opQ c.key (ncL c.n) ad s).2 = 0 then (⟨c.key, c.n + 1⟩, (opQ c.key (ncL c.n) ad s).1, 0) else (c, [], (opQ c.key (ncL c.n) ad s).2)
def rkC (c : Cph) : Cph := if c.key.length = 32 then ⟨(seL c.key (ncL 18446744073709551615) [] (List.replicate 32 0)).take 32, c.n⟩ else c
def nwH (s : List UInt8) : List UInt8 := if 32 < s.length then s2L s else s ++ List.replicate (32 - s.length) 0
def nwS (s : List UInt8) : Sta := ⟨nwH s, nwH s, ⟨[], 0⟩⟩
def mhS (s : Sta) (b : List UInt8) : Sta := ⟨s.ck, s2L (s.h ++ b), s.c⟩
def mkS (s : Sta) (i : List UInt8) : Sta := ⟨k1F s.ck i, s.h, ⟨k2F s.ck i, 0⟩⟩
def mbS (s : Sta) (i : List UInt8) : Sta := ⟨k1F s.ck i, s2L (s.h ++ k2F s.ck i), ⟨k3F s.ck i, 0⟩⟩
def seS (s : Sta) (t : List UInt8) : Sta × List UInt8 × Int := if (seC s.c s.h t).2.2 = 0 then (⟨s.ck, s2L (s.h ++ (seC s.c s.h t).2.1), (seC s.c s.h t).1⟩, (seC s.c s.h t).2.1, 0) else (s, [], (seC s.c s.h t).2.2)
def opS (s : Sta) (b : List UInt8) : Sta × List UInt8 × Int := if (opC s.c s.h b).2.2 = 0 then (⟨s.ck, s2L (s.h ++ b), (opC s.c s.h b).1⟩, (opC s.c s.h b).2.1, 0) else (s, [], (opC s.c s.h b).2.2)
def spS (s : Sta) : Cph × Cph := (⟨k1F s.ck [], 0⟩, ⟨k2F s.ck [], 0⟩)
theorem seL_len (k n a t : List UInt8) : (seL k n a t).length = t.length + 16 := by
 unfold seL
 rw [List.length_append, smL_length, show (tgL k n a (smL k 1 n t)).length = 16 from mcP_length _ _]
theorem opQ_seL (k n a t : List UInt8) : opQ k n a (seL k n a t) = (t, 0) := by
 have e1 : (seL k n a t).length - 16 = (smL k 1 n t).length := by rw [seL_len, smL_length]; omega
 have e2 : (seL k n a t).take (smL k 1 n t).length = smL k 1 n t := by unfold seL; rw [List.take_left]
 have e3 : (seL k n a t).drop (smL k 1 n t).length = tgL k n a (smL k 1 n t) := by unfold seL; rw [List.drop_left]
 unfold opQ
 rw [if_neg (by rw [seL_len]; omega), e1, e2, e3, if_pos rfl, smL_twice]
theorem nwH_length (s : List UInt8) : (nwH s).length = 32 := by
 unfold nwH
 split
 ·exact s2L_length _
 ·rw [List.length_append, List.length_replicate]; omega
theorem opS_seS (s : Sta) (t : List UInt8) (hk : s.c.key.length = 32) (hn : s.c.n ≠ 18446744073709551615) : seS s t = (⟨s.ck, s2L (s.h ++ seL s.c.key (ncL s.c.n) s.h t), ⟨s.c.key, s.c.n + 1⟩⟩, seL s.c.key (ncL s.c.n) s.h t, 0) ∧ opS s (seL s.c.key (ncL s.c.n) s.h t) = (⟨s.ck, s2L (s.h ++ seL s.c.key (ncL s.c.n) s.h t), ⟨s.c.key, s.c.n + 1⟩⟩, t, 0) := by
 have e1 : seC s.c s.h t = (⟨s.c.key, s.c.n + 1⟩, seL s.c.key (ncL s.c.n) s.h t, 0) := by
  unfold seC
  rw [if_neg (by omega), if_neg (by omega), if_neg hn]
 have e2 : opC s.c s.h (seL s.c.key (ncL s.c.n) s.h t) = (⟨s.c.key, s.c.n + 1⟩, t, 0) := by
  unfold opC
  rw [if_neg (by omega), if_neg (by omega), if_neg hn, opQ_seL, if_pos rfl]
 refine ⟨?_, ?_⟩
 ·unfold seS
  rw [e1, if_pos rfl]
 ·unfold opS
  rw [e2, if_pos rfl]
structure Sound (s : Sta) : Prop where
 ck : s.ck.length = 32
 h : s.h.length = 32
 key : s.c.key.length = 0 ∨ s.c.key.length = 32
 n : s.c.n < 18446744073709551616
theorem Sound.nw (l : List UInt8) : Sound (nwS l) := ⟨nwH_length l, nwH_length l, .inl rfl, by show 0 < _; omega⟩
theorem Sound.mx {s : Sta} (h : Sound s) (i : List UInt8) : Sound (mkS s i) := ⟨mcF_length _ _, h.h, .inr (mcF_length _ _), by show 0 < _; omega⟩
theorem Sound.mb {s : Sta} (h : Sound s) (i : List UInt8) : Sound (mbS s i) := ⟨mcF_length _ _, s2L_length _, .inr (mcF_length _ _), by show 0 < _; omega⟩
theorem Sound.mh {s : Sta} (h : Sound s) (i : List UInt8) : Sound (mhS s i) := ⟨h.ck, s2L_length _, h.key, h.n⟩
theorem Sound.put {s : Sta} (h : Sound s) (n : Nat) (hn : n < 18446744073709551616) : Sound ⟨s.ck, s.h, ⟨s.c.key, n⟩⟩ := ⟨h.ck, h.h, h.key, hn⟩
theorem seC_facts (c : Cph) (a t : List UInt8) (hn : c.n < 18446744073709551616) : (seC c a t).1.key = c.key ∧ (seC c a t).1.n < 18446744073709551616 ∧ (seC c a t).2.1.length ≤ t.length + 16 := by
 unfold seC
 split
 ·exact ⟨rfl, hn, by show t.length ≤ _; omega⟩
 ·split
  ·exact ⟨rfl, hn, by show 0 ≤ _; omega⟩
  ·split
   ·exact ⟨rfl, hn, by show 0 ≤ _; omega⟩
   ·refine ⟨rfl, ?_, ?_⟩
    ·show c.n + 1 < _; omega
    ·show (seL _ _ _ _).length ≤ _; rw [seL_len]; omega
theorem opQ_len (k n a s : List UInt8) : (opQ k n a s).1.length ≤ s.length := by
 unfold opQ
 split
 ·show 0 ≤ _; omega
 ·split
  ·show (smL _ _ _ _).length ≤ _; rw [smL_length, List.length_take]; omega
  ·show 0 ≤ _; omega
theorem opC_facts (c : Cph) (a t : List UInt8) (hn : c.n < 18446744073709551616) : (opC c a t).1.key = c.key ∧ (opC c a t).1.n < 18446744073709551616 ∧ (opC c a t).2.1.length ≤ t.length := by
 unfold opC
 split
 ·exact ⟨rfl, hn, Nat.le_refl _⟩
 ·split
  ·exact ⟨rfl, hn, by show 0 ≤ _; omega⟩
  ·split
   ·exact ⟨rfl, hn, by show 0 ≤ _; omega⟩
   ·split
    ·refine ⟨rfl, ?_, opQ_len _ _ _ _⟩
     show c.n + 1 < _; omega
    ·exact ⟨rfl, hn, by show 0 ≤ _; omega⟩
theorem Sound.se {s : Sta} (h : Sound s) (t : List UInt8) : Sound (seS s t).1 := by
 obtain ⟨h1, h2, -⟩ := seC_facts s.c s.h t h.n
 unfold seS
 split
 ·exact ⟨h.ck, s2L_length _, by show (seC s.c s.h t).1.key.length = 0 ∨ (seC s.c s.h t).1.key.length = 32; rw [h1]; exact h.key, h2⟩
 ·exact h
theorem Sound.op {s : Sta} (h : Sound s) (t : List UInt8) : Sound (opS s t).1 := by
 obtain ⟨h1, h2, -⟩ := opC_facts s.c s.h t h.n
 unfold opS
 split
 ·exact ⟨h.ck, s2L_length _, by show (opC s.c s.h t).1.key.length = 0 ∨ (opC s.c s.h t).1.key.length = 32; rw [h1]; exact h.key, h2⟩
 ·exact h
theorem seS_len (s : Sta) (t : List UInt8) (hn : s.c.n < 18446744073709551616) : (seS s t).2.1.length ≤ t.length + 16 := by
 unfold seS
 split
 ·exact (seC_facts _ _ _ hn).2.2
 ·show 0 ≤ _; omega
end Go.Proofs.YtdlmmcilembjgaaGreatDoor

namespace Go.Proofs.YtdlmmcilembjgaaGreatDoor
open Go.ChangeShapes Go.WideShapes Go.ChangeAt Go.RowKit
set_option linter.unusedSimpArgs false
set_option linter.unusedVariables false

theorem joinR_any (va vb : Value) (a b : List UInt8) (hl : a.length + b.length ≤ 140737488355328) (w : World) (ha : Rd w va a) (hb : Rd w vb b) :
  Calls Tryz.prog 29 #[va, vb] w fun e w' => ∃ r, e = .returned r ∧ New 5 w r (a ++ b) w' := by
 have HL : Hid (a.length + b.length ≤ 140737488355328) := hl
 have HL0 : Hid (([] : List UInt8).length + a.length ≤ 140737488355328) := by show _ ≤ _; simp; omega
 have hN0 : New 5 w (.slice none 0 0) [] w := New.start w
 clear hl
 go_enter Tryz.func29, Tryz.ntmps29
 go_wp2_with (at_builtin; go_must (refine wpList_append_new (w := w) rfl _ _ 26 rfl 5 Tryz.underlying26 infoU8 _ _ rfl hN0 _ _ rfl ha HL0.out ?_))
 intro v1 w1 hN1 _
 replace hb := hb.kept hN1.2
 go_wp2_with (at_builtin; go_must (refine wpList_append_new (w := w) rfl _ _ 26 rfl 5 Tryz.underlying26 infoU8 _ _ rfl hN1 _ _ rfl hb HL.out ?_))
 intro v2 w2 hN2 _
 go_wp2
 go_ret
 exact ⟨_, rfl, hN2⟩
theorem add64_run (x y : Nat) : ∃ s c : Nat, s < 18446744073709551616 ∧ s + 18446744073709551616 * c = x + y ∧
  ∀ w : World, (callFunc 107 #[.int .u64 (x : Int), .int .u64 (y : Int), .int .u64 0]).run Tryz.prog w = .ok (.value (.tuple #[.int .u64 (s : Int), .int .u64 (c : Int)])) w := by
 refine ⟨(x + y) % 18446744073709551616, (x + y) / 18446744073709551616, Nat.mod_lt _ (by decide), Nat.mod_add_div _ _, fun w => ?_⟩
 rw [run_callFunc_extern Tryz.func107 (by kernel_rfl) (by kernel_rfl) (by kernel_rfl) (e := add64Entry) (by kernel_rfl), run_add64 _ _ 0 (by omega) (by omega) (by omega) (by omega)]
 simp only [Result.andThen]
 congr 5 <;> omega

theorem mask32 (x : Nat) (hx : x < 18446744073709551616) : bits .and .u64 (x : Int) 4294967295 = ((x % 4294967296 : Nat) : Int) := by
 have := u64_and_nat x 4294967295 hx (by decide)
 rw [show (4294967295 : Int) = ((4294967295 : Nat) : Int) from rfl, this, show (4294967295 : Nat) = 2 ^ 32 - 1 from rfl, Nat.and_two_pow_sub_one_eq_mod]

theorem wrapN (n : Nat) (h : n < 18446744073709551616) : IntKind.u64.wrap (n : Int) = (n : Int) := by rw [IntKind.wrap_u64]; omega
theorem wrapM (a b n : Nat) (hn : n = a * b) (h : n < 18446744073709551616) : IntKind.u64.wrap ((a : Int) * (b : Int)) = (n : Int) := by
 rw [← Int.natCast_mul, ← hn]
 exact wrapN n h
theorem wrapA (a b n : Nat) (hn : n = a + b) (h : n < 18446744073709551616) : IntKind.u64.wrap ((a : Int) + (b : Int)) = (n : Int) := by
 rw [← Int.natCast_add, ← hn]
 exact wrapN n h

set_option maxHeartbeats 1000000 in
theorem mul64_any (x y : Nat) (hx : x < 18446744073709551616) (hy : y < 18446744073709551616) (w : World) :
  Calls Tryz.prog 111 #[.int .u64 (x : Int), .int .u64 (y : Int)] w fun e w' => (∃ hi lo : Nat, e = .returned (.tuple #[.int .u64 (hi : Int), .int .u64 (lo : Int)]) ∧ hi < 18446744073709551616 ∧ lo < 18446744073709551616 ∧ lo + 18446744073709551616 * hi = x * y) ∧ w' = w := by
 obtain ⟨h1, h2, h3, h4⟩ := Lib.mul64_hi x y hx hy
 have hlt : x * y / 18446744073709551616 < 18446744073709551616 := by
  have : x * y < 18446744073709551616 * 18446744073709551616 := Nat.mul_lt_mul'' hx hy
  omega
 obtain ⟨x0, hx0⟩ : ∃ n : Nat, n = x % 4294967296 := ⟨_, rfl⟩
 obtain ⟨x1, hx1⟩ : ∃ n : Nat, n = x / 4294967296 := ⟨_, rfl⟩
 obtain ⟨y0, hy0⟩ : ∃ n : Nat, n = y % 4294967296 := ⟨_, rfl⟩
 obtain ⟨y1, hy1⟩ : ∃ n : Nat, n = y / 4294967296 := ⟨_, rfl⟩
 rw [← hx0, ← hy0] at h1
 rw [← hx0, ← hy0, ← hx1] at h2
 rw [← hx0, ← hy0, ← hx1, ← hy1] at h3 h4
 obtain ⟨p, hp⟩ : ∃ n : Nat, n = x0 * y0 := ⟨_, rfl⟩
 obtain ⟨p1, hp1⟩ : ∃ n : Nat, n = p / 4294967296 := ⟨_, rfl⟩
 obtain ⟨q, hq⟩ : ∃ n : Nat, n = x1 * y0 := ⟨_, rfl⟩
 obtain ⟨t, ht⟩ : ∃ n : Nat, n = q + p1 := ⟨_, rfl⟩
 obtain ⟨t0, ht0⟩ : ∃ n : Nat, n = t % 4294967296 := ⟨_, rfl⟩
 obtain ⟨t1, ht1⟩ : ∃ n : Nat, n = t / 4294967296 := ⟨_, rfl⟩
 obtain ⟨r, hr⟩ : ∃ n : Nat, n = x0 * y1 := ⟨_, rfl⟩
 obtain ⟨u, hu⟩ : ∃ n : Nat, n = t0 + r := ⟨_, rfl⟩
 obtain ⟨u1, hu1⟩ : ∃ n : Nat, n = u / 4294967296 := ⟨_, rfl⟩
 obtain ⟨s, hs⟩ : ∃ n : Nat, n = x1 * y1 := ⟨_, rfl⟩
 obtain ⟨v, hv⟩ : ∃ n : Nat, n = s + t1 := ⟨_, rfl⟩
 obtain ⟨H, hH⟩ : ∃ n : Nat, n = v + u1 := ⟨_, rfl⟩
 obtain ⟨L, hL⟩ : ∃ n : Nat, n = x * y % 18446744073709551616 := ⟨_, rfl⟩
 rw [← hp] at h1
 rw [← hp, ← hq, ← hp1, ← ht] at h2
 rw [← hp, ← hq, ← hp1, ← ht, ← ht0, ← hr, ← hu] at h3
 rw [← hp, ← hq, ← hp1, ← ht, ← ht0, ← ht1, ← hr, ← hu, ← hu1, ← hs, ← hv, ← hH] at h4
 have e1 : bits .and .u64 (x : Int) 4294967295 = (x0 : Int) := by rw [mask32 x hx, hx0]
 have e2 : bits .and .u64 (y : Int) 4294967295 = (y0 : Int) := by rw [mask32 y hy, hy0]
 have e3 : (x : Int) / 4294967296 = (x1 : Int) := by omega
 have e4 : (y : Int) / 4294967296 = (y1 : Int) := by omega
 have e5 : IntKind.u64.wrap ((x0 : Int) * (y0 : Int)) = (p : Int) := wrapM _ _ _ hp h1
 have e6 : IntKind.u64.wrap ((x1 : Int) * (y0 : Int)) = (q : Int) := wrapM _ _ _ hq (by omega)
 have e7 : (p : Int) / 4294967296 = (p1 : Int) := by omega
 have e8 : IntKind.u64.wrap ((q : Int) + (p1 : Int)) = (t : Int) := wrapA _ _ _ ht h2
 have e9 : bits .and .u64 (t : Int) 4294967295 = (t0 : Int) := by rw [mask32 t h2, ht0]
 have e10 : (t : Int) / 4294967296 = (t1 : Int) := by omega
 have e11 : IntKind.u64.wrap ((x0 : Int) * (y1 : Int)) = (r : Int) := wrapM _ _ _ hr (by omega)
 have e12 : IntKind.u64.wrap ((t0 : Int) + (r : Int)) = (u : Int) := wrapA _ _ _ hu h3
 have e13 : IntKind.u64.wrap ((x1 : Int) * (y1 : Int)) = (s : Int) := wrapM _ _ _ hs (by omega)
 have e14 : IntKind.u64.wrap ((s : Int) + (t1 : Int)) = (v : Int) := wrapA _ _ _ hv (by omega)
 have e15 : (u : Int) / 4294967296 = (u1 : Int) := by omega
 have e16 : IntKind.u64.wrap ((v : Int) + (u1 : Int)) = (H : Int) := wrapA _ _ _ hH (by omega)
 have e17 : IntKind.u64.wrap ((x : Int) * (y : Int)) = (L : Int) := by rw [← Int.natCast_mul, IntKind.wrap_u64]; omega
 have HF : Hid (H < 18446744073709551616 ∧ L < 18446744073709551616 ∧ L + 18446744073709551616 * H = x * y) := ⟨by omega, by omega, by omega⟩
 clear hx hy hlt hx0 hx1 hy0 hy1 h1 h2 h3 h4 hp hp1 hq ht ht0 ht1 hr hu hu1 hs hv hH hL
 go_enter Tryz.func111, Tryz.ntmps111
 go_wp2
 go_ret2
 exact ⟨⟨H, L, rfl, HF.out.1, HF.out.2.1, HF.out.2.2⟩, rfl⟩

theorem cellK {w W : World} {p : Addr} {v : Value} (h : w.cell? p = some v) (hb : Below w.heap.size w W) : W.cell? p = some v := by
 rw [hb.cell (World.block_lt_of_cell? _ _ h)]
 exact h

theorem exec_head {op : Oper} {a : Act} {W : World} {ab : Option Addr} {L cb m : Nat} (x h : Operand) (ho : op.op = .slice 26 x none (some h) none) (hx : a.eval x = .slice ab L cb) (hh : a.eval h = .int .i64 (m : Int)) (hm : m ≤ L) (hL : L ≤ cb) (hc : cb ≤ maxLen) (hn : ab = none → cb = 0) :
  (execOp a.eval op).run Tryz.prog W = .ok (.value (.slice ab m cb)) W := by
 have h1 : (m : Int) ≤ (cb : Int) := by omega
 unfold maxLen at hc
 unfold execOp
 simp only [ho, hx, hh, Option.map]
 cases ab with
 | none =>
  have := hn rfl
  subst this
  obtain rfl : m = 0 := by omega
  obtain rfl : L = 0 := by omega
  go_simp
 | some y =>
  go_simp
theorem exec_tail {ab : Option Addr} {L cb m : Nat} (hm : m ≤ L) (hL : L ≤ cb) (hc : cb ≤ maxLen) (hn : ab = none → cb = 0) :
  ∃ ab' : Option Addr, (∀ {op : Oper} {a : Act} {W : World} (x h : Operand), op.op = .slice 26 x (some h) none none → a.eval x = .slice ab L cb → a.eval h = .int .i64 (m : Int) → (execOp a.eval op).run Tryz.prog W = .ok (.value (.slice ab' (L - m) (cb - m))) W) ∧
   ∀ (w : World) (b : List UInt8), Rd w (.slice ab L cb) b → Rd w (.slice ab' (L - m) (cb - m)) (b.drop m) := by
 have h1 : (m : Int) ≤ (L : Int) := by omega
 have h2 : (L : Int) ≤ (cb : Int) := by omega
 unfold maxLen at hc
 cases ab with
 | none =>
  have := hn rfl
  subst this
  obtain rfl : L = 0 := by omega
  obtain rfl : m = 0 := by omega
  refine ⟨none, fun x h ho hx hh => ?_, fun w b hb => hb⟩
  unfold execOp
  simp only [ho, hx, hh, Option.map]
  go_simp
 | some y =>
  by_cases hcm : cb = m
  ·refine ⟨some y, fun x h ho hx hh => ?_, fun w b hb => ?_⟩
   ·unfold execOp
    simp only [ho, hx, hh, Option.map]
    go_simp
   ·obtain ⟨a', c', ev, h3, h4, h5, h6⟩ := hb
    simp only [Value.slice.injEq] at ev
    obtain ⟨rfl, hLb, rfl⟩ := ev
    have h0 : b.drop m = [] := List.drop_eq_nil_of_le (by omega)
    rw [h0, show L - m = 0 by omega, hcm, Nat.sub_self]
    exact ⟨_, 0, rfl, by simp, by simp, fun _ => rfl, .inl rfl⟩
  ·refine ⟨some (y.add m), fun x h ho hx hh => ?_, fun w b hb => ?_⟩
   ·unfold execOp
    simp only [ho, hx, hh, Option.map]
    go_simp
   ·obtain ⟨a', c', ev, h3, h4, h5, h6⟩ := hb
    simp only [Value.slice.injEq] at ev
    obtain ⟨rfl, hLb, rfl⟩ := ev
    refine ⟨_, _, (by rw [List.length_drop, ← hLb]), (by rw [List.length_drop]; omega), (by unfold maxLen; omega), (fun h => by cases h), ?_⟩
    rcases h6 with rfl | ⟨g, off, e, hcell⟩
    ·exact .inl (by simp)
    ·simp only [Option.some.injEq] at e
     subst e
     refine .inr ⟨g, off + m, by unfold Addr.add; split <;> simp_all, fun i hi => ?_⟩
     rw [List.length_drop] at hi
     rw [Nat.add_assoc, hcell (m + i) (by omega)]
     simp
abbrev nmV (l : List Nat) : Value := .agg ((nI l).map (Value.int .u64)).toArray
theorem nmInfo {l : List Nat} (h : Nm3 l) : (Tryz.prog.info? 115).map (·.size) = some (nI l).length := by rw [h.len]; kernel_rfl
theorem nmMax {l : List Nat} (h : Nm3 l) : (nI l).length ≤ maxLen := by rw [h.len]; decide
theorem alloc_nm (w : World) : (Instr.alloc 115 true (.tuple #[])).run Tryz.prog w = .ok (.pointer (some ⟨w.heap.size, 0, none⟩)) (w.alloc (.cells ((nI z3).map (Value.int .u64)).toArray 115)) := by kernel_rfl
theorem add64c_run (x y c : Nat) (hx : x < 18446744073709551616) (hy : y < 18446744073709551616) (hc : c ≤ 1) : ∃ s c' : Nat, s < 18446744073709551616 ∧ c' ≤ 1 ∧ s + 18446744073709551616 * c' = x + y + c ∧
  ∀ w : World, (callFunc 107 #[.int .u64 (x : Int), .int .u64 (y : Int), .int .u64 (c : Int)]).run Tryz.prog w = .ok (.value (.tuple #[.int .u64 (s : Int), .int .u64 (c' : Int)])) w := by
 refine ⟨(x + y + c) % 18446744073709551616, (x + y + c) / 18446744073709551616, Nat.mod_lt _ (by decide), by omega, Nat.mod_add_div _ _, fun w => ?_⟩
 rw [run_callFunc_extern Tryz.func107 (by kernel_rfl) (by kernel_rfl) (by kernel_rfl) (e := add64Entry) (by kernel_rfl), run_add64 _ _ _ (by omega) (by omega) (by omega) (by omega)]
 simp only [Result.andThen]
 congr 5 <;> omega
theorem wpList_val {P : Program} {ops : Array Oper} {rest : List Oper} {op : Oper} {a : Act} {w : World} {Q : Exit → Act → World → Prop} (hgd : op.guard = none) {v : Value} (hy : (execOp a.eval op).run P w = .ok (.value v) w)
  (h : wpList P ops Q rest (a.put op.dst v) w) : wpList P ops Q (op :: rest) a w := by
 refine wpList_plain hgd fun K hK => ?_
 unfold Oper.wp
 rw [hy]
 exact hK _ _ h

set_option maxRecDepth 100000 in
set_option maxHeartbeats 2000000 in
theorem plus_any (A B : Array Value) (a b : List Nat) (ha : Nm3 a) (hb : Nm3 b) (hs : wv a + wv b < 6277101735386680763835789423207666416102355444464034512896) (hA : A = ((nI a).map (Value.int .u64)).toArray) (hB : B = ((nI b).map (Value.int .u64)).toArray) (w : World) :
  Calls Tryz.prog 93 #[.agg A, .agg B] w fun e w' => ∃ r : List Nat, e = .returned (nmV r) ∧ Nm3 r ∧ wv r = wv a + wv b ∧ Below w.heap.size w w' := by
 have HSum : Hid _ := hs
 clear hs
 go_enter Tryz.func93, Tryz.ntmps93
 go_wp2_with (refine wpList_box_row (k := .u64) rfl 115 _ rfl (nI a) (by rw [← hA]; rfl) ha.ne (nmMax ha) ?_)
 intro w1 r1 b1 s1
 rw [ha.len] at r1
 go_wp2_with (refine wpList_box_row (k := .u64) rfl 115 _ rfl (nI b) (by rw [← hB]; rfl) hb.ne (nmMax hb) ?_)
 intro w2 r2 b2 s2
 rw [hb.len] at r2
 go_wp2_with (refine wpList_alloc_row (k := .u64) rfl 115 rfl (nI z3) (alloc_nm _) z3_nm.ne (nmMax z3_nm) ?_)
 intro w3 r3 b3 s3
 rw [z3_nm.len] at r3
 have hr1 := (r1.kept b2).kept b3
 have hr2 := r2.kept b3
 have hbw := stepB (stepB b1 b2) b3
 have n1 : w.heap.size < w1.heap.size := by have := s1.out; omega
 have n2 : w1.heap.size < w2.heap.size := by have := s2.out; omega
 have HA : Hid (Nm3 a) := ha
 have HB : Hid (Nm3 b) := hb
 clear r1 r2 b1 b2 b3 s1 s2 s3 hA hB ha hb
 go_wp2
 go_loopw [7, 5] (fun iv cv wx => ∃ (i o : Nat) (cur : List Nat), i ≤ 3 ∧ iv = .int .i64 (i : Int) ∧ cv = .int .u64 (o : Int) ∧ o ≤ 1 ∧ Hid (Nm3 cur) ∧ Hid (wv cur + 18446744073709551616 ^ i * o = wv a + 1 * wv (b.take i)) ∧
  RowAt .u64 115 w.heap.size 3 (nI cur) wx ∧ RowAt .u64 115 w1.heap.size 3 (nI b) wx ∧ RowAt .u64 115 w2.heap.size 3 (nI z3) wx ∧ Below w.heap.size w wx) (fun iv _ _ => 3 - (intOf iv).toNat)
 case atStart => exact ⟨0, 0, a, by omega, rfl, rfl, by omega, HA, (by show _ = _; rw [Nat.mul_zero, List.take_zero]; rfl), hr1, hr2, r3, hbw⟩
 case round =>
  obtain ⟨i, o, cur, hi, rfl, rfl, ho, HC, HE, ra, rb, rz, hbx⟩ := hrel
  clear hr1 hr2 r3 hbw
  by_cases hlt : i < 3
  ·have hd : decide ((i : Int) < 3) = true := decide_eq_true (by omega)
   have hiI : (i : Int) < 3 := by omega
   have hcb := rb.cell (j := i) (by rw [nI_length, HB.out.1]; exact hlt)
   have hca := ra.cell (j := i) (by rw [nI_length, HC.out.1]; exact hlt)
   have hfa := ra.free i
   rw [nI_get] at hcb hca
   have hy := HB.out.get i
   have hq := HC.out.get i
   have HS : Hid (∀ s o' : Nat, s < 18446744073709551616 → s + 18446744073709551616 * o' = cur.getD i 0 + b.getD i 0 + o → Nm3 (cur.set i s) ∧ wv (cur.set i s) + 18446744073709551616 ^ (i + 1) * o' = wv a + 1 * wv (b.take (i + 1))) := by
    intro s o' hs he
    exact ⟨HC.out.set i hs, at_step cur b i o o' s (wv a) 1 (by rw [HC.out.1]; exact hlt) (by rw [HB.out.1]; exact hlt) (by rw [Nat.one_mul]; exact he) HE.out⟩
   have HR : Hid (∀ (W : World) (s : Nat), RowAt .u64 115 w.heap.size 3 (nI cur) W → RowAt .u64 115 w.heap.size 3 (nI (cur.set i s)) (W.setCell ⟨w.heap.size, i, none⟩ (.int .u64 (s : Int)))) := fun W s h => by
    rw [← nI_set]
    exact h.set i _
   have HRb : Hid (∀ (W : World) (u : Value), Below wr.heap.size wr W → RowAt .u64 115 w1.heap.size 3 (nI b) (W.setCell ⟨w.heap.size, i, none⟩ u) ∧ RowAt .u64 115 w2.heap.size 3 (nI z3) (W.setCell ⟨w.heap.size, i, none⟩ u) ∧ Below w.heap.size w (W.setCell ⟨w.heap.size, i, none⟩ u)) := fun W u hW =>
    ⟨(rb.kept hW).other (p := ⟨w.heap.size, i, none⟩) (by show w.heap.size ≠ _; omega) u, (rz.kept hW).other (p := ⟨w.heap.size, i, none⟩) (by show w.heap.size ≠ _; omega) u, (Wrote.set w.heap.size i W u).below _ _ (Nat.le_refl _) (stepB hbx hW)⟩
   generalize b.getD i 0 = y at hcb hy HS
   generalize cur.getD i 0 = q at hca hq HS
   obtain ⟨s2, o2, hs2, ho2, he2, run1⟩ := add64c_run q y o hq hy ho
   obtain ⟨k1, k3⟩ := HS.out s2 o2 hs2 he2
   have K1 : Hid (Nm3 (cur.set i s2)) := k1
   have K3 : Hid _ := k3
   have HRA : Hid _ := ra
   clear rb rz hbx HE k1 k3 HS he2 ra
   go_wp2_with fail
   have hB : Below wr.heap.size wr wr.drew := (Below.refl _ _).drew
   refine wpF_begin 13 (w0 := wr) (by kernel_rfl) ?_
   refine wpF_p (hb := .inr hB) (i := 0) (oi := ⟨some 11, .move (.tmp 6), 3, "poly.go:55", #[], none⟩) (v := ?_) ?_ ?_
   rotate_left
   ·intro W; go_simp <;> with_reducible rfl
   try simp only [Act.put, putA, putB, putC]
   refine wpF_p (hb := .inr hB) (i := 1) (oi := ⟨some 12, .move (.tmp 6), 3, "poly.go:55", #[], none⟩) (v := ?_) ?_ ?_
   rotate_left
   ·intro W; go_simp <;> with_reducible rfl
   try simp only [Act.put, putA, putB, putC]
   refine wpF_p (hb := .inr hB) (i := 2) (oi := ⟨some 13, .indexAddr 115 (.tmp 2) (.tmp 12), 0, "poly.go:55", #[⟨1, .data⟩], none⟩) (v := ?_) ?_ ?_
   rotate_left
   ·intro W; go_simp <;> with_reducible rfl
   try simp only [Act.put, putA, putB, putC]
   refine wpF_t (hb := hB) (i := 3) (oi := ⟨some 14, .load 27 (.tmp 13), 27, "poly.go:55", #[⟨2, .data⟩], none⟩) (v := ?_) ?_ ?_
   rotate_left
   ·intro W hW; have hcW := cellK hca hW; go_simp <;> with_reducible rfl
   try simp only [Act.put, putA, putB, putC]
   refine wpF_p (hb := .inr hB) (i := 4) (oi := ⟨some 15, .move (.tmp 6), 3, "poly.go:55", #[], none⟩) (v := ?_) ?_ ?_
   rotate_left
   ·intro W; go_simp <;> with_reducible rfl
   try simp only [Act.put, putA, putB, putC]
   refine wpF_p (hb := .inr hB) (i := 5) (oi := ⟨some 16, .indexAddr 115 (.tmp 3) (.tmp 15), 0, "poly.go:55", #[⟨4, .data⟩], none⟩) (v := ?_) ?_ ?_
   rotate_left
   ·intro W; go_simp <;> with_reducible rfl
   try simp only [Act.put, putA, putB, putC]
   refine wpF_t (hb := hB) (i := 6) (oi := ⟨some 17, .load 27 (.tmp 16), 27, "poly.go:55", #[⟨5, .data⟩], none⟩) (v := ?_) ?_ ?_
   rotate_left
   ·intro W hW; have hcW := cellK hcb hW; go_simp <;> with_reducible rfl
   try simp only [Act.put, putA, putB, putC]
   refine wpF_p (hb := .inr hB) (i := 7) (oi := ⟨some 18, .move (.tmp 5), 27, "poly.go:55", #[], none⟩) (v := ?_) ?_ ?_
   rotate_left
   ·intro W; go_simp <;> with_reducible rfl
   try simp only [Act.put, putA, putB, putC]
   refine wpF_do (i := 8) (o := ⟨some 19, .call { callee := .value (.func 107), args := #[.tmp 14, .tmp 17, .tmp 18], argTypes := #[27, 27, 27] }, 126, "poly.go:55", #[⟨3, .data⟩, ⟨6, .data⟩, ⟨7, .data⟩], none⟩) (by kernel_rfl) rfl (by rfl) fun K hK => ?_
   go_simp
   refine hK.out _ _ (.inr hB) ?_
   clear hK K
   try simp only [Act.put, putA, putB, putC]
   refine wpF_p (hb := .inr hB) (i := 9) (oi := ⟨some 10, .move (.tmp 19), 126, "poly.go:55", #[⟨8, .data⟩], none⟩) (v := ?_) ?_ ?_
   rotate_left
   ·intro W; go_simp <;> with_reducible rfl
   try simp only [Act.put, putA, putB, putC]
   refine wpF_p (hb := .inr hB) (i := 10) (oi := ⟨some 20, .extract (.tmp 10) 0, 27, "poly.go:55", #[⟨9, .data⟩], none⟩) (v := ?_) ?_ ?_
   rotate_left
   ·intro W; go_simp <;> with_reducible rfl
   try simp only [Act.put, putA, putB, putC]
   refine wpF_p (hb := .inr hB) (i := 11) (oi := ⟨some 21, .extract (.tmp 10) 1, 27, "poly.go:55", #[⟨9, .data⟩, ⟨13, .gcOnly .lateStores⟩], none⟩) (v := ?_) ?_ ?_
   rotate_left
   ·intro W; go_simp <;> with_reducible rfl
   try simp only [Act.put, putA, putB, putC]
   refine wpF_p (hb := .inr hB) (i := 12) (oi := ⟨some 22, .indexAddr 115 (.tmp 2) (.tmp 11), 0, "poly.go:55", #[⟨0, .data⟩, ⟨0, .phase⟩, ⟨1, .phase⟩, ⟨2, .phase⟩, ⟨3, .phase⟩, ⟨4, .phase⟩, ⟨5, .phase⟩, ⟨6, .phase⟩, ⟨7, .phase⟩, ⟨8, .phase⟩, ⟨9, .phase⟩, ⟨10, .phase⟩, ⟨11, .textOnly .lateStores⟩], none⟩) (v := ?_) ?_ ?_
   rotate_left
   ·intro W; go_simp <;> with_reducible rfl
   try simp only [Act.put, putA, putB, putC]
   refine wpF_do (i := 13) (o := ⟨none, .store 27 (.tmp 22) (.tmp 20), 0, "poly.go:55", #[⟨12, .data⟩, ⟨10, .data⟩, ⟨8, .chain⟩, ⟨0, .phase⟩, ⟨1, .phase⟩, ⟨2, .phase⟩, ⟨3, .phase⟩, ⟨4, .phase⟩, ⟨5, .phase⟩, ⟨6, .phase⟩, ⟨7, .phase⟩, ⟨8, .phase⟩, ⟨9, .phase⟩, ⟨10, .phase⟩, ⟨11, .textOnly .lateStores⟩], none⟩) (by kernel_rfl) rfl (by rfl) fun K hK => ?_
   go_simp
   refine hK.out _ _ (.inl rfl) ?_
   clear hK K
   try simp only [Act.put, putA, putB, putC]
   refine wpF_p (hb := .inl (by kernel_rfl)) (i := 14) (oi := ⟨some 5, .assign (.tmp 21), 27, "poly.go:55", #[⟨11, .data⟩, ⟨13, .chain⟩, ⟨0, .phase⟩, ⟨1, .phase⟩, ⟨2, .phase⟩, ⟨3, .phase⟩, ⟨4, .phase⟩, ⟨5, .phase⟩, ⟨6, .phase⟩, ⟨7, .phase⟩, ⟨8, .phase⟩, ⟨9, .phase⟩, ⟨10, .phase⟩, ⟨11, .phase⟩, ⟨12, .phase⟩, ⟨13, .phase⟩], none⟩) (v := ?_) ?_ ?_
   rotate_left
   ·intro W; go_simp <;> with_reducible rfl
   try simp only [Act.put, putA, putB, putC]
   refine wpF_done (by kernel_rfl) ?_
   have hR := HR.out _ s2 HRA.out.drew
   obtain ⟨hRb, hRz, hbn⟩ := HRb.out _ (.int .u64 (s2 : Int)) hB
   go_wp2
   go_roundw
   case rel => exact ⟨i + 1, o2, cur.set i s2, by omega, by go_num, rfl, ho2, K1, K3, hR, hRb, hRz, hbn⟩
   case measure => simp [intOf] <;> omega
  ·have hie : i = 3 := by omega
   have hd : decide ((i : Int) < 3) = false := decide_eq_false (by omega)
   have hiI : (3 : Int) ≤ (i : Int) := by omega
   have HE2 : Hid (wv cur = wv a + wv b) := by
    have := HE.out
    rw [hie, List.take_of_length_le (by rw [HB.out.1]; exact Nat.le_refl _), Nat.one_mul] at this
    have h2 := HSum.out
    show _ = _
    omega
   clear HE hie
   go_wp2_with (first | refine wpList_load_row rfl 115 _ rfl rfl ra _ Tryz.underlying115 rfl (nmInfo HC.out) ?_ | (refine wpList_store_row rfl 115 _ _ rfl (nI cur) rfl rfl rz (by rw [z3_nm.len, HC.out.len]) (nmInfo z3_nm) ?_; intro w6 r6 hw6))
   refine bodyPost_row (p := 4) (ty := 115) rfl rfl rfl r6 Tryz.underlying115 rfl (nmInfo HC.out) ?_
   exact ⟨cur, rfl, HC.out, HE2.out, hw6.below _ _ (by omega) hbx⟩

set_option maxRecDepth 100000 in
set_option maxHeartbeats 2000000 in
theorem numberOf_any (vb : Value) (b : List UInt8) (w : World) (hr : Rd w vb b) (hb24 : b.length ≤ 24) :
  Calls Tryz.prog 91 #[vb] w fun e w' => ∃ r : List Nat, e = .returned (nmV r) ∧ Nm3 r ∧ wv r = leN b ∧ Below w.heap.size w w' := by
 obtain ⟨ab, cb, rfl, hcb, hmb, hnone, -⟩ := id hr
 obtain ⟨L, hL⟩ : ∃ L : Nat, L = b.length := ⟨_, rfl⟩
 rw [← hL] at hcb hb24 hr ⊢
 have HRb : Hid (Rd w (.slice ab L cb) b) := hr
 have HL : Hid _ := hL
 have HN : Hid (ab = none → cb = 0) := hnone
 have HM : Hid (cb ≤ maxLen) := hmb
 have hmb2 := hmb
 unfold maxLen at hmb2
 clear hr hL hnone hmb
 go_enter Tryz.func91, Tryz.ntmps91
 go_wp2_with (refine wpList_alloc_row (k := .u64) rfl 115 rfl (nI z3) (alloc_nm _) z3_nm.ne (nmMax z3_nm) ?_)
 intro w1 r1 b1 s1
 rw [z3_nm.len] at r1
 go_wp2_with (refine wpList_alloc_row (k := .u64) rfl 115 rfl (nI z3) (alloc_nm _) z3_nm.ne (nmMax z3_nm) ?_)
 intro w2 r2 b2 s2
 rw [z3_nm.len] at r2
 have n1 : w.heap.size < w1.heap.size := by have := s1.out; omega
 replace r1 := r1.kept b2
 have hbw := stepB b1 b2
 clear b1 b2 s1 s2
 go_wp2
 go_loopw [5] (fun iv wx => ∃ (i : Nat) (cur : List Nat), i ≤ 3 ∧ iv = .int .i64 (i : Int) ∧ Hid (Nm3 cur) ∧ Hid (wv cur = leN (b.take (8 * i))) ∧ Hid (∀ j, i ≤ j → cur.getD j 0 = 0) ∧ RowAt .u64 115 w.heap.size 3 (nI z3) wx ∧ RowAt .u64 115 w1.heap.size 3 (nI cur) wx ∧ Below w.heap.size w wx) (fun iv _ => 3 - (intOf iv).toNat)
 case atStart => exact ⟨0, z3, by omega, rfl, z3_nm, (by show _ = _; rw [z3_wv]; rfl), (fun j _ => z3_get j), r1, r2, hbw⟩
 case round =>
  obtain ⟨i, cur, hi, rfl, HC, HV, HZ, rz, rc, hbx⟩ := hrel
  clear r1 r2 hbw
  by_cases hlt : i < 3
  ·have hd : decide ((i : Int) < 3) = true := decide_eq_true (by omega)
   have hiI : (i : Int) < 3 := by omega
   obtain ⟨m, hm⟩ : ∃ m : Nat, m = min (8 * i) L := ⟨_, rfl⟩
   obtain ⟨ab', htail, hrest⟩ := exec_tail (ab := ab) (m := m) (by omega) hcb HM.out HN.out
   have hrd := hrest _ _ (Rd.kept HRb.out hbx)
   have hfc := rc.free i
   have hcc := rc.cell (j := i) (by rw [HC.out.len]; exact hlt)
   obtain ⟨z, hz⟩ : ∃ z : Nat, z = leN ((b.drop m).take 8) := ⟨_, rfl⟩
   have hld := load_any _ _ _ hrd
   rw [← hz] at hld
   have HLD : Hid (Calls Tryz.prog 70 #[.slice ab' (L - m) (cb - m)] wr fun e w' => e = .returned (.int .u64 (z : Int)) ∧ w' = wr) := hld
   have HS : Hid (Nm3 (cur.set i z) ∧ wv (cur.set i z) = leN (b.take (8 * (i + 1))) ∧ ∀ j, i + 1 ≤ j → (cur.set i z).getD j 0 = 0) := by
    refine ⟨HC.out.set i (by rw [hz]; exact leN_take_lt _ 8 (by omega)), num_step b cur i z (by rw [HC.out.1]; exact hlt) (HZ.out i (Nat.le_refl _)) HV.out (by rw [hz, hm, HL.out]), fun j hj => ?_⟩
    have := HZ.out j (by omega)
    rw [List.getD_eq_getElem?_getD, List.getElem?_set_ne (by omega), ← List.getD_eq_getElem?_getD]
    exact this
   have rc2 := rc.set i (z : Int)
   rw [nI_set] at rc2
   have rz2 := rz.other (p := ⟨w1.heap.size, i, none⟩) (by show w1.heap.size ≠ _; omega) (.int .u64 (z : Int))
   have hb2 := (Wrote.set w1.heap.size i wr (.int .u64 (z : Int))).below _ _ (by omega) hbx
   obtain ⟨m8, hm8⟩ : ∃ m : Nat, m = 8 * i := ⟨_, rfl⟩
   have x1 : IntKind.i64.wrap (8 * (i : Int)) = (m8 : Int) := by rw [show 8 * (i : Int) = (m8 : Int) by omega]; exact IntWalk.i64_in _ (by omega)
   have hmin : (if L < m8 then (L : Int) else (m8 : Int)) = (m : Int) := by split <;> omega
   have HT : Hid _ := @htail
   clear hz hld hrest hrd rz rc hbx HV HZ hm hm8 htail
   go_wp2_with (refine wpList_val rfl (HT.out _ _ rfl rfl rfl) ?_)
   refine Calls.mono HLD.out ?_
   rintro e w5 ⟨rfl, rfl⟩
   go_wp2
   go_roundw
   case rel => exact ⟨i + 1, cur.set i z, by omega, by go_num, HS.out.1, HS.out.2.1, HS.out.2.2, rz2, rc2, hb2⟩
   case measure => simp [intOf] <;> omega
  ·have hie : i = 3 := by omega
   have hd : decide ((i : Int) < 3) = false := decide_eq_false (by omega)
   have hiI : (3 : Int) ≤ (i : Int) := by omega
   have HE2 : Hid (wv cur = leN b) := num_full b cur (by rw [HV.out, hie]) (by rw [← HL.out]; exact hb24)
   clear HV hie
   go_wp2_with (first | refine wpList_load_row rfl 115 _ rfl rfl rc _ Tryz.underlying115 rfl (nmInfo HC.out) ?_ | (refine wpList_store_row rfl 115 _ _ rfl (nI cur) rfl rfl rz (by rw [z3_nm.len, HC.out.len]) (nmInfo z3_nm) ?_; intro w6 r6 hw6))
   refine bodyPost_row (p := 2) (ty := 115) rfl rfl rfl r6 Tryz.underlying115 rfl (nmInfo HC.out) ?_
   exact ⟨cur, rfl, HC.out, HE2.out, hw6.below _ _ (by omega) hbx⟩
abbrev wdV (l : List Nat) : Value := .agg ((nI l).map (Value.int .u32)).toArray
theorem W16.len {l : List Nat} (h : W16 l) : (nI l).length = 16 := by rw [nI_length, h.1]
theorem W16.ne {l : List Nat} (h : W16 l) : nI l ≠ [] := by
 intro e
 have := h.len
 rw [e] at this
 cases this
theorem wdInfo {l : List Nat} (h : W16 l) : (Tryz.prog.info? 101).map (·.size) = some (nI l).length := by rw [h.len]; kernel_rfl
theorem wdMax {l : List Nat} (h : W16 l) : (nI l).length ≤ maxLen := by rw [h.len]; decide
def z16 : List Nat := [0, 0, 0, 0, 0, 0, 0, 0, 0, 0, 0, 0, 0, 0, 0, 0]
theorem z16_ok : W16 z16 := ⟨rfl, by decide⟩
theorem alloc_wd (w : World) : (Instr.alloc 101 true (.tuple #[])).run Tryz.prog w = .ok (.pointer (some ⟨w.heap.size, 0, none⟩)) (w.alloc (.cells ((nI z16).map (Value.int .u32)).toArray 101)) := by kernel_rfl
def k16 : List Nat := [1634760805, 857760878, 2036477234, 1797285236, 0, 0, 0, 0, 0, 0, 0, 0, 0, 0, 0, 0]
theorem k16_ok : W16 k16 := ⟨rfl, by decide⟩
theorem build_wd (w : World) : (Instr.build 101 #[(0, .int .u32 1634760805), (1, .int .u32 857760878), (2, .int .u32 2036477234), (3, .int .u32 1797285236)]).run Tryz.prog w = .ok (wdV k16) w := by kernel_rfl
def lyL (l : List Nat) (p : Nat) (b : List UInt8) : Nat → List Nat
 | 0 => l
 | i + 1 => (lyL l p b i).set (p + i) (w4 b i)
theorem lyL_ok {l : List Nat} (h : W16 l) (p : Nat) (b : List UInt8) : ∀ i, W16 (lyL l p b i)
 | 0 => h
 | i + 1 => (lyL_ok h p b i).set _ (w4_lt _ _)
theorem ly_all (k : List UInt8) (c : Nat) (hc : c < 4294967296) (n : List UInt8) : lyL ((lyL k16 4 k 8).set 12 c) 13 n 3 = bkW k c n := by
 unfold bkW
 rw [Nat.mod_eq_of_lt hc]
 rfl
theorem Wrote.drew {g : Nat} {w w' : World} (h : Wrote g w w') : Wrote g w w'.drew := ⟨h.size, h.other, fun B a hB hb => (h.below B a hB hb).drew⟩
theorem Wrote.ofdrew {g : Nat} {w w' : World} (h : Wrote g w.drew w') : Wrote g w w' := ⟨h.size, h.other, fun B a hB hb => h.below B a hB hb.drew⟩
theorem wp_store_at {e : TypeId} {g cap j : Nat} {l : List Int} {w : World} {op : Oper} {a : Act} {K : Act → World → Prop} {Q : Exit → Act → World → Prop} (x y : Operand) (ho : op.op = .store 93 x y) (hx : a.eval x = .pointer (some ⟨g, j, none⟩)) (X : Int) (hy : a.eval y = .int .u32 X)
  (hr : RowAt .u32 e g cap l w) (hj : j < l.length)
  (h : ∀ w', RowAt .u32 e g cap (l.set j X) w' → Wrote g w w' → K (a.put op.dst undef) w') : op.wp Tryz.prog a w K Q := by
 have hc := hr.cell hj
 have hf := hr.free j
 have h2 := h _ (hr.set j X) (Wrote.set g j w _)
 unfold Oper.wp execOp
 simp only [ho, hx, hy]
 go_simp
 exact h2
theorem lay_facts (p i : Nat) (hp : p < 1000) (hi : i < 1000) : ∃ q m m4 j : Nat, q = p + i ∧ m = 4 * i ∧ m4 = m + 4 ∧ IntKind.i64.wrap ((p : Int) + (i : Int)) = (q : Int) ∧ IntKind.i64.wrap (4 * (i : Int)) = (m : Int) ∧ IntKind.i64.wrap ((i : Int) + 1) = (j : Int) ∧ IntKind.i64.wrap (4 * (j : Int)) = (m4 : Int) ∧ j = i + 1 := by
 refine ⟨p + i, 4 * i, 4 * i + 4, i + 1, rfl, rfl, rfl, ?_, ?_, ?_, ?_, rfl⟩
 ·exact IntWalk.i64_in _ (by omega)
 ·exact IntWalk.i64_in _ (by omega)
 ·exact IntWalk.i64_in _ (by omega)
 ·rw [show (4 : Int) * ((i + 1 : Nat) : Int) = ((4 * i + 4 : Nat) : Int) by omega]
  exact IntWalk.i64_in _ (by omega)

set_option maxRecDepth 100000 in
set_option maxHeartbeats 4000000 in
theorem slay_any (g p : Nat) (P : Int) (hP : P = (p : Int)) (vb : Value) (b : List UInt8) (l : List Nat) (hl : W16 l) (hb4 : p + b.length / 4 ≤ 16) (hne : 0 < b.length) (hb64 : b.length ≤ 64) (w0 w : World) (hb : Rd w0 vb b) (hB0 : Below w0.heap.size w0 w) (hg : w0.heap.size ≤ g) (hr : RowAt .u32 101 g 16 (nI l) w) :
  Calls Tryz.prog 89 #[.pointer (some ⟨g, 0, none⟩), .int .i64 P, vb] w fun e w' => e = .returned (.tuple #[]) ∧ RowAt .u32 101 g 16 (nI (lyL l p b (b.length / 4))) w' ∧ Wrote g w w' := by
 subst hP
 obtain ⟨gb, ob, cb, rfl, -, -, -⟩ := hb.cellAt (i := 0) hne
 obtain ⟨a', c', ev, hcb, hmb, -, -⟩ := id hb
 simp only [Value.slice.injEq] at ev
 obtain ⟨-, -, rfl⟩ := ev
 unfold maxLen at hmb
 obtain ⟨L, hL⟩ : ∃ L : Nat, L = b.length := ⟨_, rfl⟩
 obtain ⟨n4, hn4⟩ : ∃ n4 : Nat, n4 = L / 4 := ⟨_, rfl⟩
 rw [← hL] at hb4 hcb hb64
 rw [← hL, ← hn4] at ⊢
 rw [← hL] at hb
 rw [← hn4] at hb4
 have e0 : ((L : Nat) : Int).tdiv 4 = (n4 : Int) := by rw [Int.tdiv_eq_ediv_of_nonneg (by omega)]; omega
 have e1 : (L : Int) / 4 = (n4 : Int) := by omega
 have HL : Hid _ := hL
 have HN4 : Hid _ := hn4
 have HBr : Hid (Rd w0 (.slice (some ⟨gb, ob, none⟩) L cb) b) := hb
 have HW : Hid (W16 l) := hl
 have hw0 := Wrote.refl g w
 clear hL hn4 hb hl hne
 go_enter Tryz.func89, Tryz.ntmps89
 go_wp2
 go_loopw [10] (fun iv wx => ∃ i : Nat, i ≤ n4 ∧ iv = .int .i64 (i : Int) ∧ RowAt .u32 101 g 16 (nI (lyL l p b i)) wx ∧ Wrote g w wx) (fun iv _ => n4 - (intOf iv).toNat)
 case atStart => exact ⟨0, by omega, rfl, hr, hw0⟩
 case round =>
  obtain ⟨i, hi, rfl, hr1, hw1⟩ := hrel
  clear hr hw0
  by_cases hlt : i < n4
  ·have hd : decide ((i : Int) < (n4 : Int)) = true := decide_eq_true (by omega)
   have hiI : (i : Int) < (n4 : Int) := by omega
   have h4 := HN4.out
   obtain ⟨q, m, m4, j, hq, hm, hm4, x1, x2, x3, x4, hj⟩ := lay_facts p i (by omega) (by omega)
   have hB := hw1.below _ _ hg hB0
   have hsub := ((HBr.out).kept hB).sub (4 * i) (4 * i + 4) (by omega) (by omega)
   have hld := load_any _ _ _ hsub.drew
   rw [Nat.add_sub_cancel_left, w4_load, ← hm] at hld
   have HNx : Hid (nI ((lyL l p b i).set q (w4 b i)) = nI (lyL l p b (i + 1))) := by
    show _ = _
    rw [hq]
    rfl
   have hz := w4_lt b i
   have hlen : (nI (lyL l p b i)).length = 16 := (lyL_ok HW.out p b i).len
   have HLn : Hid _ := hlen
   have hq16 : q < 16 := by omega
   have hq16I : (q : Int) < 16 := by omega
   have ym1 : m4 ≤ L := by omega
   have ym2 : (m4 : Int) ≤ (L : Int) := by omega
   have ym3 : m ≤ m4 := by omega
   have ym4 : (m : Int) ≤ (m4 : Int) := by omega
   have ym5 : m4 ≤ cb := by omega
   have ym6 : (m4 : Int) ≤ (cb : Int) := by omega
   have ym7 : m4 - m = 4 := by omega
   have ym9 : ¬ cb = m := by omega
   have HJ : Hid _ := hj
   have ym8 : (m4 : Int) - (m : Int) = 4 := by omega
   have HLD : Hid (Calls Tryz.prog 70 #[.slice (some ⟨gb, ob + m, none⟩) 4 (cb - m)] wr.drew fun e w' => e = .returned (.int .u64 ((w4 b i : Nat) : Int)) ∧ w' = wr.drew) := hld
   generalize w4 b i = z at HLD HNx hz
   generalize lyL l p b i = V at hr1 HNx HLn
   have x5 : IntKind.u32.wrap (z : Int) = (z : Int) := by rw [IntKind.wrap_u32']; omega
   have x6 : (z : Int) % 4294967296 = (z : Int) := by omega
   clear hsub hld hm hq hm4 h4 hlen hB hj
   go_wp2_with fail
   have hB : Below wr.heap.size wr wr.drew := (Below.refl _ _).drew
   refine wpF_begin 15 (w0 := wr) (by kernel_rfl) ?_
   refine wpF_p (hb := .inr hB) (i := 0) (oi := ⟨some 13, .move (.tmp 0), 120, "chacha.go:67", #[], none⟩) (v := ?_) ?_ ?_
   rotate_left
   ·intro W; go_simp <;> with_reducible rfl
   try simp only [Act.put, putA, putB, putC]
   refine wpF_p (hb := .inr hB) (i := 1) (oi := ⟨some 14, .move (.tmp 1), 3, "chacha.go:67", #[], none⟩) (v := ?_) ?_ ?_
   rotate_left
   ·intro W; go_simp <;> with_reducible rfl
   try simp only [Act.put, putA, putB, putC]
   refine wpF_p (hb := .inr hB) (i := 2) (oi := ⟨some 15, .move (.tmp 6), 3, "chacha.go:67", #[], none⟩) (v := ?_) ?_ ?_
   rotate_left
   ·intro W; go_simp <;> with_reducible rfl
   try simp only [Act.put, putA, putB, putC]
   refine wpF_p (hb := .inr hB) (i := 3) (oi := ⟨some 16, .binOp .add 3 (.tmp 14) (.tmp 15) 3, 3, "chacha.go:67", #[⟨1, .data⟩, ⟨2, .data⟩], none⟩) (v := ?_) ?_ ?_
   rotate_left
   ·intro W; go_simp <;> with_reducible rfl
   try simp only [Act.put, putA, putB, putC]
   refine wpF_p (hb := .inr hB) (i := 4) (oi := ⟨some 17, .move (.tmp 2), 26, "chacha.go:67", #[], none⟩) (v := ?_) ?_ ?_
   rotate_left
   ·intro W; go_simp <;> with_reducible rfl
   try simp only [Act.put, putA, putB, putC]
   refine wpF_p (hb := .inr hB) (i := 5) (oi := ⟨some 18, .move (.tmp 6), 3, "chacha.go:67", #[], none⟩) (v := ?_) ?_ ?_
   rotate_left
   ·intro W; go_simp <;> with_reducible rfl
   try simp only [Act.put, putA, putB, putC]
   refine wpF_p (hb := .inr hB) (i := 6) (oi := ⟨some 19, .binOp .mul 3 (.const (.int .i64 4)) (.tmp 18) 3, 3, "chacha.go:67", #[⟨5, .data⟩], none⟩) (v := ?_) ?_ ?_
   rotate_left
   ·intro W; go_simp <;> with_reducible rfl
   try simp only [Act.put, putA, putB, putC]
   refine wpF_p (hb := .inr hB) (i := 7) (oi := ⟨some 20, .move (.tmp 6), 3, "chacha.go:67", #[], none⟩) (v := ?_) ?_ ?_
   rotate_left
   ·intro W; go_simp <;> with_reducible rfl
   try simp only [Act.put, putA, putB, putC]
   refine wpF_p (hb := .inr hB) (i := 8) (oi := ⟨some 21, .binOp .add 3 (.tmp 20) (.const (.int .i64 1)) 3, 3, "chacha.go:67", #[⟨7, .data⟩], none⟩) (v := ?_) ?_ ?_
   rotate_left
   ·intro W; go_simp <;> with_reducible rfl
   try simp only [Act.put, putA, putB, putC]
   refine wpF_p (hb := .inr hB) (i := 9) (oi := ⟨some 22, .binOp .mul 3 (.const (.int .i64 4)) (.tmp 21) 3, 3, "chacha.go:67", #[⟨8, .data⟩], none⟩) (v := ?_) ?_ ?_
   rotate_left
   ·intro W; go_simp <;> with_reducible rfl
   try simp only [Act.put, putA, putB, putC]
   refine wpF_p (hb := .inr hB) (i := 10) (oi := ⟨some 23, .slice 26 (.tmp 17) (some (.tmp 19)) (some (.tmp 22)) none, 26, "chacha.go:67", #[⟨4, .data⟩, ⟨6, .data⟩, ⟨9, .data⟩], none⟩) (v := ?_) ?_ ?_
   rotate_left
   ·intro W; go_simp <;> with_reducible rfl
   try simp only [Act.put, putA, putB, putC]
   refine wpF_p (hb := .inr hB) (i := 13) (oi := ⟨some 26, .nilCheck (.tmp 13), 0, "chacha.go:67", #[⟨0, .data⟩], none⟩) (v := ?_) ?_ ?_
   rotate_left
   ·intro W; go_simp <;> with_reducible rfl
   try simp only [Act.put, putA, putB, putC]
   refine wpF_do (i := 11) (o := ⟨some 24, .call { callee := .value (.func 70), args := #[.tmp 23], argTypes := #[26] }, 27, "chacha.go:67", #[⟨10, .data⟩], none⟩) (by kernel_rfl) rfl (by rfl) fun K hK => ?_
   go_simp
   refine Calls.mono HLD.out ?_
   rintro e w5 ⟨rfl, rfl⟩
   refine hK.out _ _ (.inr hB) ?_
   clear hK K
   try simp only [Act.put, putA, putB, putC]
   refine wpF_p (hb := .inr hB) (i := 12) (oi := ⟨some 25, .convert 27 93 (.tmp 24), 93, "chacha.go:67", #[⟨11, .data⟩], none⟩) (v := ?_) ?_ ?_
   rotate_left
   ·intro W; go_simp <;> with_reducible rfl
   try simp only [Act.put, putA, putB, putC]
   refine wpF_p (hb := .inr hB) (i := 14) (oi := ⟨some 27, .indexAddr 101 (.tmp 26) (.tmp 16), 0, "chacha.go:67", #[⟨13, .data⟩, ⟨3, .data⟩, ⟨0, .phase⟩, ⟨1, .phase⟩, ⟨2, .phase⟩, ⟨3, .phase⟩, ⟨4, .phase⟩, ⟨5, .phase⟩, ⟨6, .phase⟩, ⟨7, .phase⟩, ⟨8, .phase⟩, ⟨9, .phase⟩, ⟨10, .phase⟩, ⟨11, .phase⟩, ⟨12, .phase⟩], none⟩) (v := ?_) ?_ ?_
   rotate_left
   ·intro W; go_simp <;> with_reducible rfl
   try simp only [Act.put, putA, putB, putC]
   refine wpF_do (i := 15) (o := ⟨none, .store 93 (.tmp 27) (.tmp 25), 0, "chacha.go:67", #[⟨14, .data⟩, ⟨12, .data⟩, ⟨11, .chain⟩, ⟨0, .phase⟩, ⟨1, .phase⟩, ⟨2, .phase⟩, ⟨3, .phase⟩, ⟨4, .phase⟩, ⟨5, .phase⟩, ⟨6, .phase⟩, ⟨7, .phase⟩, ⟨8, .phase⟩, ⟨9, .phase⟩, ⟨10, .phase⟩, ⟨11, .phase⟩, ⟨12, .phase⟩], none⟩) (by kernel_rfl) rfl (by rfl) fun K hK => ?_
   refine wp_store_at _ _ (by rfl) (by rfl) (z : Int) (by rfl) hr1.drew (by rw [HLn.out]; exact hq16) ?_
   intro w6 hr6 hw6
   rw [nI_set, HNx.out] at hr6
   refine hK.out _ _ (.inl rfl) ?_
   clear hK K
   try simp only [Act.put, putA, putB, putC]
   refine wpF_done (by kernel_rfl) ?_
   have hw7 := hw1.trans hw6.ofdrew
   clear hr1 hw1 hw6
   go_wp2
   go_roundw
   case rel => exact ⟨i + 1, by omega, by rw [HJ.out], hr6, hw7⟩
   case measure =>
    have := HJ.out
    simp [intOf] <;> omega
  ·have hie : i = n4 := by omega
   have hd : decide ((i : Int) < (n4 : Int)) = false := decide_eq_false (by omega)
   have hiI : (n4 : Int) ≤ (i : Int) := by omega
   rw [hie] at hr1
   clear hie
   go_wp2
   refine bodyPost_end (v := .tuple #[]) (by simp [results, Tryz.results89, go_sem]) rfl ?_
   exact ⟨rfl, hr1, hw1⟩

set_option maxRecDepth 100000 in
set_option maxHeartbeats 2000000 in
theorem start_any (vk vn : Value) (k n : List UInt8) (c : Nat) (C : Int) (hC : C = (c : Int)) (hc : c < 4294967296) (w : World) (hk : Rd w vk k) (hn : Rd w vn n) (hk32 : k.length = 32) (hn12 : n.length = 12) :
  Calls Tryz.prog 78 #[vk, .int .u32 C, vn] w fun e w' => e = .returned (wdV (bkW k c n)) ∧ Below w.heap.size w w' := by
 subst hC
 have HK : Hid (Rd w vk k) := hk
 have HN : Hid (Rd w vn n) := hn
 have HL1 : Hid (k.length / 4 = 8) := by show _ = _; rw [hk32]
 have HL2 : Hid (n.length / 4 = 3) := by show _ = _; rw [hn12]
 have HL3 : Hid (k.length = 32) := hk32
 have HL4 : Hid (n.length = 12) := hn12
 have HE : Hid _ := ly_all k c hc n
 obtain ⟨k8, hk8⟩ : ∃ l : List Nat, l = lyL k16 4 k 8 := ⟨_, rfl⟩
 have h8 : W16 k8 := by rw [hk8]; exact lyL_ok k16_ok _ _ _
 have H8 : Hid _ := hk8
 rw [← hk8] at HE
 have h9 : W16 (k8.set 12 c) := h8.set 12 hc
 have hB : W16 (bkW k c n) := bkW_ok k c n
 generalize bkW k c n = B at HE hB ⊢
 clear hk hn hk32 hn12 hk8
 go_enter Tryz.func78, Tryz.ntmps78
 go_wp2_with (refine wpList_alloc_row (k := .u32) rfl 101 rfl (nI z16) (alloc_wd _) z16_ok.ne (wdMax z16_ok) ?_)
 intro w1 r1 b1 s1
 rw [z16_ok.len] at r1
 go_wp2_with (first | refine wpList_buildB rfl 101 _ rfl _ rfl _ (build_wd _) ?_ | refine wpList_alloc_row (k := .u32) rfl 101 rfl (nI z16) (alloc_wd _) z16_ok.ne (wdMax z16_ok) ?_)
 intro w2 r2 b2 s2
 rw [z16_ok.len] at r2
 replace r1 := r1.kept b2
 have hbw := stepB b1 b2
 have n1 : w.heap.size < w1.heap.size := by have := s1.out; omega
 clear b1 b2 s1 s2
 go_wp2_with (refine wpList_store_row rfl 101 _ _ rfl (nI k16) rfl rfl r2 (by rw [z16_ok.len, k16_ok.len]) (wdInfo z16_ok) ?_)
 intro w3 r3 hw3
 replace r1 := r1.wrote hw3 (by omega)
 replace hbw := hw3.below _ _ (by omega) hbw
 clear r2 hw3
 go_wp2_with fail
 refine (slay_any _ 4 _ rfl vk k k16 k16_ok (by rw [HL1.out]; decide) (by rw [HL3.out]; decide) (by rw [HL3.out]; decide) w w3 HK.out hbw (by omega) r3).mono ?_
 rintro e w4 ⟨rfl, r4, hw4⟩
 rw [HL1.out, ← H8.out] at r4
 replace r1 := r1.wrote hw4 (by omega)
 replace hbw := hw4.below _ _ (by omega) hbw
 clear r3 hw4
 have hc4 := r4.cell (j := 12) (by rw [h8.len]; decide)
 have hf4 := r4.free 12
 have r5 := r4.set 12 (c : Int)
 rw [nI_set] at r5
 have hw5 := Wrote.set w1.heap.size 12 w4 (.int .u32 (c : Int))
 have R5 : Hid _ := r5
 have R1 : Hid _ := r1.wrote hw5 (by omega)
 have HB5 : Hid _ := hw5.below _ _ (Nat.le_of_lt n1) hbw
 clear r5 hw5 r1 hbw
 go_wp2_with fail
 clear hc4 hf4 r4
 generalize w4.setCell ⟨w1.heap.size, 12, none⟩ (.int .u32 (c : Int)) = w5 at R5 R1 HB5 ⊢
 refine (slay_any _ 13 _ rfl vn n (k8.set 12 c) h9 (by rw [HL2.out]; decide) (by rw [HL4.out]; decide) (by rw [HL4.out]; decide) w w5 HN.out HB5.out (by omega) R5.out).mono ?_
 rintro e w6 ⟨rfl, r6, hw6⟩
 rw [HL2.out, HE.out] at r6
 have r1 := R1.out.wrote hw6 (by omega)
 have hbw := hw6.below _ _ (by omega) HB5.out
 clear R1 R5 HB5 hw6
 go_wp2_with (first | refine wpList_load_row rfl 101 _ rfl rfl r6 _ Tryz.underlying101 rfl (wdInfo hB) ?_ | (refine wpList_store_row rfl 101 _ _ rfl (nI B) rfl rfl r1 (by rw [z16_ok.len, hB.len]) (wdInfo z16_ok) ?_; intro w7 r7 hw7))
 refine bodyPost_row (k := .u32) rfl rfl rfl r7 Tryz.underlying101 rfl (wdInfo hB) ?_
 exact ⟨rfl, hw7.below _ _ (Nat.le_refl _) hbw⟩
def plL : List Nat := [0, 4, 8, 12, 1, 5, 9, 13, 2, 6, 10, 14, 3, 7, 11, 15, 0, 5, 10, 15, 1, 6, 11, 12, 2, 7, 8, 13, 3, 4, 9, 14]
def PlT (w : World) : Prop := ∀ i, i < 32 → w.cell? ⟨0, i, none⟩ = some (.int .i64 ((plL.getD i 0 : Nat) : Int))
theorem PlT.kept {w w' : World} (h : PlT w) (hb : Below w.heap.size w w') : PlT w' := fun i hi => by
 rw [hb.cell (p := ⟨0, i, none⟩) (World.block_lt_of_cell? w _ (h i hi))]
 exact h i hi
def qEi (v : List Nat) : Nat → List Nat
 | 0 => v
 | k + 1 => qAt (qEi v k) (plL.getD (k * 4) 0) (plL.getD (k * 4 + 1) 0) (plL.getD (k * 4 + 2) 0) (plL.getD (k * 4 + 3) 0)
theorem qEi_ok {v : List Nat} (h : W16 v) : ∀ k, W16 (qEi v k)
 | 0 => h
 | k + 1 => qAt_ok (qEi_ok h k) _ _ _ _
theorem qEi_eight (v : List Nat) : qEi v 8 = qDia (qCol v 4) 4 := rfl
theorem pl_lt : ∀ i, i < 32 → plL.getD i 0 < 16 := by decide

set_option maxRecDepth 100000 in
set_option maxHeartbeats 4000000 in
theorem mixed_any (A : Array Value) (l : List Nat) (hl : W16 l) (hA : A = ((nI l).map (Value.int .u32)).toArray) (w : World) (hT : PlT w) :
  Calls Tryz.prog 90 #[.agg A] w fun e w' => e = .returned (wdV (qDbl l 10)) ∧ Below w.heap.size w w' := by
 have HT : Hid (PlT w) := hT
 have HW : Hid (W16 l) := hl
 go_enter Tryz.func90, Tryz.ntmps90
 go_wp2_with (refine wpList_box_row (k := .u32) rfl 101 _ rfl (nI l) (by rw [← hA]; rfl) hl.ne (wdMax hl) ?_)
 intro w1 r1 b1 s1
 rw [hl.len] at r1
 go_wp2_with (refine wpList_alloc_row (k := .u32) rfl 101 rfl (nI z16) (alloc_wd _) z16_ok.ne (wdMax z16_ok) ?_)
 intro w2 r2 b2 s2
 rw [z16_ok.len] at r2
 replace r1 := r1.kept b2
 have hbw := stepB b1 b2
 have n1 : w.heap.size < w1.heap.size := by have := s1.out; omega
 clear b1 b2 s1 s2 hl hT hA
 go_wp2
 go_loopw [8] (fun iv wx => ∃ i : Nat, i ≤ 10 ∧ iv = .int .i64 (i : Int) ∧ RowAt .u32 101 w.heap.size 16 (nI (qDbl l i)) wx ∧ RowAt .u32 101 w1.heap.size 16 (nI z16) wx ∧ Below w.heap.size w wx) (fun iv _ => 10 - (intOf iv).toNat)
 case atStart => exact ⟨0, by omega, rfl, r1, r2, hbw⟩
 case round =>
  obtain ⟨i, hi, rfl, ra, rz, hbx⟩ := hrel
  clear r1 r2 hbw
  by_cases hlt : i < 10
  ·have hd : decide ((i : Int) < 10) = true := decide_eq_true (by omega)
   have hiI : (i : Int) < 10 := by omega
   have ra0 : RowAt .u32 101 w.heap.size 16 (nI (qEi (qDbl l i) 0)) wr := ra
   clear ra
   go_wp2
   go_loopw [10] (fun kv wx => ∃ k : Nat, k ≤ 8 ∧ kv = .int .i64 (k : Int) ∧ RowAt .u32 101 w.heap.size 16 (nI (qEi (qDbl l i) k)) wx ∧ RowAt .u32 101 w1.heap.size 16 (nI z16) wx ∧ Below w.heap.size w wx) (fun kv _ => 8 - (intOf kv).toNat)
   case atStart => exact ⟨0, by omega, rfl, ra0, rz, hbx⟩
   case round =>
    obtain ⟨k, hk, rfl, ra, rz', hbx'⟩ := hrel
    clear ra0 rz hbx
    by_cases hltk : k < 8
    ·have hdk : decide ((k : Int) < 8) = true := decide_eq_true (by omega)
     have hkI : (k : Int) < 8 := by omega
     have HT1 : PlT wr := HT.out.kept hbx'
     have t0 := HT1 (k * 4) (by omega)
     have t1 := HT1 (k * 4 + 1) (by omega)
     have t2 := HT1 (k * 4 + 2) (by omega)
     have t3 := HT1 (k * 4 + 3) (by omega)
     have p0 := pl_lt (k * 4) (by omega)
     have p1 := pl_lt (k * 4 + 1) (by omega)
     have p2 := pl_lt (k * 4 + 2) (by omega)
     have p3 := pl_lt (k * 4 + 3) (by omega)
     have HV : Hid (W16 (qEi (qDbl l i) k)) := qEi_ok (qDbl_ok HW.out i) k
     have HNext : Hid (qAt (qEi (qDbl l i) k) (plL.getD (k * 4) 0) (plL.getD (k * 4 + 1) 0) (plL.getD (k * 4 + 2) 0) (plL.getD (k * 4 + 3) 0) = qEi (qDbl l i) (k + 1)) := by show _ = _; rfl
     generalize plL.getD (k * 4) 0 = y0 at t0 p0 HNext
     generalize plL.getD (k * 4 + 1) 0 = y1 at t1 p1 HNext
     generalize plL.getD (k * 4 + 2) 0 = y2 at t2 p2 HNext
     generalize plL.getD (k * 4 + 3) 0 = y3 at t3 p3 HNext
     generalize qEi (qDbl l i) k = V at ra HV HNext
     go_wp2_with fail
     go_quiet (fail)
     have bq := below_drewN (Below.refl wr.heap.size wr) nq
     replace ra := ra.kept bq
     replace rz' := rz'.kept bq
     replace hbx' := stepB hbx' bq
     clear t0 t1 t2 t3 HT1 bq
     go_wp2_with fail
     generalize wr.drewN nq = wq at ra rz' hbx' ⊢
     have hlV : (nI V).length = 16 := HV.out.len
     have c0 := ra.cell (j := y0) (by omega)
     have c1 := ra.cell (j := y1) (by omega)
     have c2 := ra.cell (j := y2) (by omega)
     have c3 := ra.cell (j := y3) (by omega)
     rw [nI_get] at c0 c1 c2 c3
     have HlV : Hid _ := hlV
     have q0 : (y0 : Int) < 16 := by omega
     have q1 : (y1 : Int) < 16 := by omega
     have q2 : (y2 : Int) < 16 := by omega
     have q3 : (y3 : Int) < 16 := by omega
     clear hlV
     have hB : Below wq.heap.size wq wq.drew := (Below.refl _ _).drew
     refine wpF_begin 23 (w0 := wq) (by kernel_rfl) ?_
     refine wpF_p (hb := .inr hB) (i := 0) (oi := ⟨some 30, .move (.tmp 4), 3, "chacha.go:76", #[], none⟩) (v := ?_) ?_ ?_
     rotate_left
     ·intro W; go_simp <;> with_reducible rfl
     try simp only [Act.put, putA, putB, putC]
     refine wpF_p (hb := .inr hB) (i := 1) (oi := ⟨some 31, .move (.tmp 5), 3, "chacha.go:76", #[⟨23, .gcOnly .lateStores⟩], none⟩) (v := ?_) ?_ ?_
     rotate_left
     ·intro W; go_simp <;> with_reducible rfl
     try simp only [Act.put, putA, putB, putC]
     refine wpF_p (hb := .inr hB) (i := 2) (oi := ⟨some 32, .move (.tmp 6), 3, "chacha.go:76", #[⟨25, .gcOnly .lateStores⟩], none⟩) (v := ?_) ?_ ?_
     rotate_left
     ·intro W; go_simp <;> with_reducible rfl
     try simp only [Act.put, putA, putB, putC]
     refine wpF_p (hb := .inr hB) (i := 3) (oi := ⟨some 33, .move (.tmp 7), 3, "chacha.go:76", #[⟨27, .gcOnly .lateStores⟩], none⟩) (v := ?_) ?_ ?_
     rotate_left
     ·intro W; go_simp <;> with_reducible rfl
     try simp only [Act.put, putA, putB, putC]
     refine wpF_p (hb := .inr hB) (i := 4) (oi := ⟨some 34, .move (.tmp 4), 3, "chacha.go:76", #[], none⟩) (v := ?_) ?_ ?_
     rotate_left
     ·intro W; go_simp <;> with_reducible rfl
     try simp only [Act.put, putA, putB, putC]
     refine wpF_p (hb := .inr hB) (i := 5) (oi := ⟨some 35, .indexAddr 101 (.tmp 1) (.tmp 34), 0, "chacha.go:76", #[⟨4, .data⟩], none⟩) (v := ?_) ?_ ?_
     rotate_left
     ·intro W; go_simp <;> with_reducible rfl
     try simp only [Act.put, putA, putB, putC]
     refine wpF_t (hb := hB) (i := 6) (oi := ⟨some 36, .load 93 (.tmp 35), 93, "chacha.go:76", #[⟨5, .data⟩], none⟩) (v := ?_) ?_ ?_
     rotate_left
     ·intro W hW; have hcW := cellK0 c0 hW; go_simp <;> with_reducible rfl
     try simp only [Act.put, putA, putB, putC]
     refine wpF_p (hb := .inr hB) (i := 7) (oi := ⟨some 37, .move (.tmp 5), 3, "chacha.go:76", #[], none⟩) (v := ?_) ?_ ?_
     rotate_left
     ·intro W; go_simp <;> with_reducible rfl
     try simp only [Act.put, putA, putB, putC]
     refine wpF_p (hb := .inr hB) (i := 8) (oi := ⟨some 38, .indexAddr 101 (.tmp 1) (.tmp 37), 0, "chacha.go:76", #[⟨7, .data⟩], none⟩) (v := ?_) ?_ ?_
     rotate_left
     ·intro W; go_simp <;> with_reducible rfl
     try simp only [Act.put, putA, putB, putC]
     refine wpF_t (hb := hB) (i := 9) (oi := ⟨some 39, .load 93 (.tmp 38), 93, "chacha.go:76", #[⟨8, .data⟩], none⟩) (v := ?_) ?_ ?_
     rotate_left
     ·intro W hW; have hcW := cellK0 c1 hW; go_simp <;> with_reducible rfl
     try simp only [Act.put, putA, putB, putC]
     refine wpF_p (hb := .inr hB) (i := 10) (oi := ⟨some 40, .move (.tmp 6), 3, "chacha.go:76", #[], none⟩) (v := ?_) ?_ ?_
     rotate_left
     ·intro W; go_simp <;> with_reducible rfl
     try simp only [Act.put, putA, putB, putC]
     refine wpF_p (hb := .inr hB) (i := 11) (oi := ⟨some 41, .indexAddr 101 (.tmp 1) (.tmp 40), 0, "chacha.go:76", #[⟨10, .data⟩], none⟩) (v := ?_) ?_ ?_
     rotate_left
     ·intro W; go_simp <;> with_reducible rfl
     try simp only [Act.put, putA, putB, putC]
     refine wpF_t (hb := hB) (i := 12) (oi := ⟨some 42, .load 93 (.tmp 41), 93, "chacha.go:76", #[⟨11, .data⟩], none⟩) (v := ?_) ?_ ?_
     rotate_left
     ·intro W hW; have hcW := cellK0 c2 hW; go_simp <;> with_reducible rfl
     try simp only [Act.put, putA, putB, putC]
     refine wpF_p (hb := .inr hB) (i := 13) (oi := ⟨some 43, .move (.tmp 7), 3, "chacha.go:76", #[], none⟩) (v := ?_) ?_ ?_
     rotate_left
     ·intro W; go_simp <;> with_reducible rfl
     try simp only [Act.put, putA, putB, putC]
     refine wpF_p (hb := .inr hB) (i := 14) (oi := ⟨some 44, .indexAddr 101 (.tmp 1) (.tmp 43), 0, "chacha.go:76", #[⟨13, .data⟩], none⟩) (v := ?_) ?_ ?_
     rotate_left
     ·intro W; go_simp <;> with_reducible rfl
     try simp only [Act.put, putA, putB, putC]
     refine wpF_t (hb := hB) (i := 15) (oi := ⟨some 45, .load 93 (.tmp 44), 93, "chacha.go:76", #[⟨14, .data⟩], none⟩) (v := ?_) ?_ ?_
     rotate_left
     ·intro W hW; have hcW := cellK0 c3 hW; go_simp <;> with_reducible rfl
     try simp only [Act.put, putA, putB, putC]
     refine wpF_do (i := 16) (o := ⟨some 46, .call { callee := .value (.func 106), args := #[.tmp 36, .tmp 39, .tmp 42, .tmp 45], argTypes := #[93, 93, 93, 93] }, 123, "chacha.go:76", #[⟨6, .data⟩, ⟨9, .data⟩, ⟨12, .data⟩, ⟨15, .data⟩], none⟩) (by kernel_rfl) rfl (by rfl) fun K hK => ?_
     go_simp
     refine (quarter_any (q4 V y0 y1 y2 y3) (q4_ok HV.out y0 y1 y2 y3) _ _ _ _ rfl rfl rfl rfl _).mono ?_
     rintro e w5 ⟨rfl, rfl⟩
     have r5 := ra.drew
     refine hK.out _ _ (.inr hB) ?_
     clear hK K
     try simp only [Act.put, putA, putB, putC]
     refine wpF_p (hb := .inr hB) (i := 17) (oi := ⟨some 29, .move (.tmp 46), 123, "chacha.go:76", #[⟨16, .data⟩], none⟩) (v := ?_) ?_ ?_
     rotate_left
     ·intro W; go_simp <;> with_reducible rfl
     try simp only [Act.put, putA, putB, putC]
     refine wpF_p (hb := .inr hB) (i := 18) (oi := ⟨some 47, .extract (.tmp 29) 0, 93, "chacha.go:76", #[⟨17, .data⟩], none⟩) (v := ?_) ?_ ?_
     rotate_left
     ·intro W; go_simp <;> with_reducible rfl
     try simp only [Act.put, putA, putB, putC]
     refine wpF_p (hb := .inr hB) (i := 19) (oi := ⟨some 48, .extract (.tmp 29) 1, 93, "chacha.go:76", #[⟨17, .data⟩, ⟨23, .gcOnly .lateStores⟩], none⟩) (v := ?_) ?_ ?_
     rotate_left
     ·intro W; go_simp <;> with_reducible rfl
     try simp only [Act.put, putA, putB, putC]
     refine wpF_p (hb := .inr hB) (i := 20) (oi := ⟨some 49, .extract (.tmp 29) 2, 93, "chacha.go:76", #[⟨17, .data⟩, ⟨25, .gcOnly .lateStores⟩], none⟩) (v := ?_) ?_ ?_
     rotate_left
     ·intro W; go_simp <;> with_reducible rfl
     try simp only [Act.put, putA, putB, putC]
     refine wpF_p (hb := .inr hB) (i := 21) (oi := ⟨some 50, .extract (.tmp 29) 3, 93, "chacha.go:76", #[⟨17, .data⟩, ⟨27, .gcOnly .lateStores⟩], none⟩) (v := ?_) ?_ ?_
     rotate_left
     ·intro W; go_simp <;> with_reducible rfl
     try simp only [Act.put, putA, putB, putC]
     refine wpF_p (hb := .inr hB) (i := 22) (oi := ⟨some 51, .indexAddr 101 (.tmp 1) (.tmp 30), 0, "chacha.go:76", #[⟨0, .data⟩, ⟨0, .phase⟩, ⟨1, .textOnly .lateStores⟩, ⟨2, .textOnly .lateStores⟩, ⟨3, .textOnly .lateStores⟩, ⟨4, .phase⟩, ⟨5, .phase⟩, ⟨6, .phase⟩, ⟨7, .phase⟩, ⟨8, .phase⟩, ⟨9, .phase⟩, ⟨10, .phase⟩, ⟨11, .phase⟩, ⟨12, .phase⟩, ⟨13, .phase⟩, ⟨14, .phase⟩, ⟨15, .phase⟩, ⟨16, .phase⟩, ⟨17, .phase⟩, ⟨18, .phase⟩, ⟨19, .textOnly .lateStores⟩, ⟨20, .textOnly .lateStores⟩, ⟨21, .textOnly .lateStores⟩], none⟩) (v := ?_) ?_ ?_
     rotate_left
     ·intro W; go_simp <;> with_reducible rfl
     try simp only [Act.put, putA, putB, putC]
     refine wpF_do (i := 23) (o := ⟨none, .store 93 (.tmp 51) (.tmp 47), 0, "chacha.go:76", #[⟨22, .data⟩, ⟨18, .data⟩, ⟨16, .chain⟩, ⟨0, .phase⟩, ⟨1, .textOnly .lateStores⟩, ⟨2, .textOnly .lateStores⟩, ⟨3, .textOnly .lateStores⟩, ⟨4, .phase⟩, ⟨5, .phase⟩, ⟨6, .phase⟩, ⟨7, .phase⟩, ⟨8, .phase⟩, ⟨9, .phase⟩, ⟨10, .phase⟩, ⟨11, .phase⟩, ⟨12, .phase⟩, ⟨13, .phase⟩, ⟨14, .phase⟩, ⟨15, .phase⟩, ⟨16, .phase⟩, ⟨17, .phase⟩, ⟨18, .phase⟩, ⟨19, .textOnly .lateStores⟩, ⟨20, .textOnly .lateStores⟩, ⟨21, .textOnly .lateStores⟩], none⟩) (by kernel_rfl) rfl (by rfl) fun K hK => ?_
     refine wp_store_at _ _ (by rfl) (by rfl) _ (by rfl) r5 (by rw [HlV.out]; exact p0) ?_
     intro w6 r6 hw6
     rw [nI_set] at r6
     refine hK.out _ _ (.inl rfl) ?_
     clear hK K
     try simp only [Act.put, putA, putB, putC]
     refine wpF_p (hb := .inl (by kernel_rfl)) (i := 24) (oi := ⟨some 52, .indexAddr 101 (.tmp 1) (.tmp 31), 0, "chacha.go:76", #[⟨1, .data⟩, ⟨0, .phase⟩, ⟨1, .phase⟩, ⟨2, .textOnly .lateStores⟩, ⟨3, .textOnly .lateStores⟩, ⟨4, .phase⟩, ⟨5, .phase⟩, ⟨6, .phase⟩, ⟨7, .phase⟩, ⟨8, .phase⟩, ⟨9, .phase⟩, ⟨10, .phase⟩, ⟨11, .phase⟩, ⟨12, .phase⟩, ⟨13, .phase⟩, ⟨14, .phase⟩, ⟨15, .phase⟩, ⟨16, .phase⟩, ⟨17, .phase⟩, ⟨18, .phase⟩, ⟨19, .phase⟩, ⟨20, .textOnly .lateStores⟩, ⟨21, .textOnly .lateStores⟩, ⟨22, .phase⟩, ⟨23, .phase⟩], none⟩) (v := ?_) ?_ ?_
     rotate_left
     ·intro W; go_simp <;> with_reducible rfl
     try simp only [Act.put, putA, putB, putC]
     refine wpF_more (i := 25) (o := ⟨none, .store 93 (.tmp 52) (.tmp 48), 0, "chacha.go:76", #[⟨24, .data⟩, ⟨19, .data⟩, ⟨23, .chain⟩, ⟨0, .phase⟩, ⟨1, .phase⟩, ⟨2, .textOnly .lateStores⟩, ⟨3, .textOnly .lateStores⟩, ⟨4, .phase⟩, ⟨5, .phase⟩, ⟨6, .phase⟩, ⟨7, .phase⟩, ⟨8, .phase⟩, ⟨9, .phase⟩, ⟨10, .phase⟩, ⟨11, .phase⟩, ⟨12, .phase⟩, ⟨13, .phase⟩, ⟨14, .phase⟩, ⟨15, .phase⟩, ⟨16, .phase⟩, ⟨17, .phase⟩, ⟨18, .phase⟩, ⟨19, .phase⟩, ⟨20, .textOnly .lateStores⟩, ⟨21, .textOnly .lateStores⟩, ⟨22, .phase⟩, ⟨23, .phase⟩], none⟩) (by kernel_rfl) (by kernel_rfl) rfl (by rfl) fun K hK => ?_
     refine wp_store_at _ _ (by rfl) (by rfl) _ (by rfl) r6 (by simp only [nI_length, List.length_set]; rw [HV.out.1]; exact p1) ?_
     intro w7 r7 hw7
     rw [nI_set] at r7
     refine hK.out _ _ ?_
     clear hK K
     try simp only [Act.put, putA, putB, putC]
     refine wpF_p (hb := .inl (by kernel_rfl)) (i := 26) (oi := ⟨some 53, .indexAddr 101 (.tmp 1) (.tmp 32), 0, "chacha.go:76", #[⟨2, .data⟩, ⟨0, .phase⟩, ⟨1, .phase⟩, ⟨2, .phase⟩, ⟨3, .textOnly .lateStores⟩, ⟨4, .phase⟩, ⟨5, .phase⟩, ⟨6, .phase⟩, ⟨7, .phase⟩, ⟨8, .phase⟩, ⟨9, .phase⟩, ⟨10, .phase⟩, ⟨11, .phase⟩, ⟨12, .phase⟩, ⟨13, .phase⟩, ⟨14, .phase⟩, ⟨15, .phase⟩, ⟨16, .phase⟩, ⟨17, .phase⟩, ⟨18, .phase⟩, ⟨19, .phase⟩, ⟨20, .phase⟩, ⟨21, .textOnly .lateStores⟩, ⟨22, .phase⟩, ⟨23, .phase⟩, ⟨24, .phase⟩, ⟨25, .phase⟩], none⟩) (v := ?_) ?_ ?_
     rotate_left
     ·intro W; go_simp <;> with_reducible rfl
     try simp only [Act.put, putA, putB, putC]
     refine wpF_more (i := 27) (o := ⟨none, .store 93 (.tmp 53) (.tmp 49), 0, "chacha.go:76", #[⟨26, .data⟩, ⟨20, .data⟩, ⟨25, .chain⟩, ⟨0, .phase⟩, ⟨1, .phase⟩, ⟨2, .phase⟩, ⟨3, .textOnly .lateStores⟩, ⟨4, .phase⟩, ⟨5, .phase⟩, ⟨6, .phase⟩, ⟨7, .phase⟩, ⟨8, .phase⟩, ⟨9, .phase⟩, ⟨10, .phase⟩, ⟨11, .phase⟩, ⟨12, .phase⟩, ⟨13, .phase⟩, ⟨14, .phase⟩, ⟨15, .phase⟩, ⟨16, .phase⟩, ⟨17, .phase⟩, ⟨18, .phase⟩, ⟨19, .phase⟩, ⟨20, .phase⟩, ⟨21, .textOnly .lateStores⟩, ⟨22, .phase⟩, ⟨23, .phase⟩, ⟨24, .phase⟩, ⟨25, .phase⟩], none⟩) (by kernel_rfl) (by kernel_rfl) rfl (by rfl) fun K hK => ?_
     refine wp_store_at _ _ (by rfl) (by rfl) _ (by rfl) r7 (by simp only [nI_length, List.length_set]; rw [HV.out.1]; exact p2) ?_
     intro w8 r8 hw8
     rw [nI_set] at r8
     refine hK.out _ _ ?_
     clear hK K
     try simp only [Act.put, putA, putB, putC]
     refine wpF_p (hb := .inl (by kernel_rfl)) (i := 28) (oi := ⟨some 54, .indexAddr 101 (.tmp 1) (.tmp 33), 0, "chacha.go:76", #[⟨3, .data⟩, ⟨0, .phase⟩, ⟨1, .phase⟩, ⟨2, .phase⟩, ⟨3, .phase⟩, ⟨4, .phase⟩, ⟨5, .phase⟩, ⟨6, .phase⟩, ⟨7, .phase⟩, ⟨8, .phase⟩, ⟨9, .phase⟩, ⟨10, .phase⟩, ⟨11, .phase⟩, ⟨12, .phase⟩, ⟨13, .phase⟩, ⟨14, .phase⟩, ⟨15, .phase⟩, ⟨16, .phase⟩, ⟨17, .phase⟩, ⟨18, .phase⟩, ⟨19, .phase⟩, ⟨20, .phase⟩, ⟨21, .phase⟩, ⟨22, .phase⟩, ⟨23, .phase⟩, ⟨24, .phase⟩, ⟨25, .phase⟩, ⟨26, .phase⟩, ⟨27, .phase⟩], none⟩) (v := ?_) ?_ ?_
     rotate_left
     ·intro W; go_simp <;> with_reducible rfl
     try simp only [Act.put, putA, putB, putC]
     refine wpF_more (i := 29) (o := ⟨none, .store 93 (.tmp 54) (.tmp 50), 0, "chacha.go:76", #[⟨28, .data⟩, ⟨21, .data⟩, ⟨27, .chain⟩, ⟨0, .phase⟩, ⟨1, .phase⟩, ⟨2, .phase⟩, ⟨3, .phase⟩, ⟨4, .phase⟩, ⟨5, .phase⟩, ⟨6, .phase⟩, ⟨7, .phase⟩, ⟨8, .phase⟩, ⟨9, .phase⟩, ⟨10, .phase⟩, ⟨11, .phase⟩, ⟨12, .phase⟩, ⟨13, .phase⟩, ⟨14, .phase⟩, ⟨15, .phase⟩, ⟨16, .phase⟩, ⟨17, .phase⟩, ⟨18, .phase⟩, ⟨19, .phase⟩, ⟨20, .phase⟩, ⟨21, .phase⟩, ⟨22, .phase⟩, ⟨23, .phase⟩, ⟨24, .phase⟩, ⟨25, .phase⟩, ⟨26, .phase⟩, ⟨27, .phase⟩], none⟩) (by kernel_rfl) (by kernel_rfl) rfl (by rfl) fun K hK => ?_
     refine wp_store_at _ _ (by rfl) (by rfl) _ (by rfl) r8 (by simp only [nI_length, List.length_set]; rw [HV.out.1]; exact p3) ?_
     intro w9 r9 hw9
     rw [nI_set] at r9
     refine hK.out _ _ ?_
     clear hK K
     try simp only [Act.put, putA, putB, putC]
     refine wpF_done (by kernel_rfl) ?_
     have hws := (((hw6.trans hw7).trans hw8).trans hw9).ofdrew
     have r10 : RowAt .u32 101 w.heap.size 16 (nI (qEi (qDbl l i) (k + 1))) w9 := by
      rw [← HNext.out]
      exact r9
     have rz10 := rz'.wrote hws (by omega)
     have hb10 := hws.below _ _ (Nat.le_refl _) hbx'
     clear ra rz' hbx' c0 c1 c2 c3 r5 r6 r7 r8 r9 hw6 hw7 hw8 hw9 hws hB
     go_wp2
     go_roundw
     case rel => exact ⟨k + 1, by omega, by go_num, r10, rz10, hb10⟩
     case measure => simp [intOf] <;> omega
    ·have hke : k = 8 := by omega
     have hdk : decide ((k : Int) < 8) = false := decide_eq_false (by omega)
     have hkI : (8 : Int) ≤ (k : Int) := by omega
     have r10 : RowAt .u32 101 w.heap.size 16 (nI (qDbl l (i + 1))) wr := by
      rw [hke, qEi_eight] at ra
      exact ra
     clear ra hke
     go_wp2
     go_roundw
     case rel => exact ⟨i + 1, by omega, by go_num, r10, rz', hbx'⟩
     case measure => simp [intOf] <;> omega
  ·have hie : i = 10 := by omega
   have hd : decide ((i : Int) < 10) = false := decide_eq_false (by omega)
   have hiI : (10 : Int) ≤ (i : Int) := by omega
   have hB : W16 (qDbl l 10) := qDbl_ok HW.out 10
   rw [hie] at ra
   clear hie
   obtain ⟨B, hBe⟩ : ∃ B : List Nat, B = qDbl l 10 := ⟨_, rfl⟩
   rw [← hBe] at ra hB
   have HBe : Hid _ := hBe
   clear hBe
   go_wp2_with (first | refine wpList_load_row rfl 101 _ rfl rfl ra _ Tryz.underlying101 rfl (wdInfo hB) ?_ | (refine wpList_store_row rfl 101 _ _ rfl (nI B) rfl rfl rz (by rw [z16_ok.len, hB.len]) (wdInfo z16_ok) ?_; intro w7 r7 hw7))
   refine bodyPost_row (k := .u32) rfl rfl rfl r7 Tryz.underlying101 rfl (wdInfo hB) ?_
   exact ⟨by rw [HBe.out], hw7.below _ _ (by omega) hbx⟩
def zs24 : List UInt8 := List.replicate 24 0
theorem zs24_length : zs24.length = 24 := List.length_replicate
theorem zs24_ne : zs24 ≠ [] := by unfold zs24; simp
theorem alloc24 (w : World) : (Instr.alloc 128 true (.tuple #[])).run Tryz.prog w = .ok (.pointer (some ⟨w.heap.size, 0, none⟩)) (w.alloc (.cells ((byI zs24).map (Value.int .u8)).toArray 128)) := by kernel_rfl

set_option maxRecDepth 100000 in
set_option maxHeartbeats 2000000 in
theorem pieceOf_any (vb : Value) (b : List UInt8) (w : World) (hr : Rd w vb b) (hb16 : b.length ≤ 16) :
  Calls Tryz.prog 94 #[vb] w fun e w' => ∃ r : List Nat, e = .returned (nmV r) ∧ Nm3 r ∧ wv r = leN b + 256 ^ b.length ∧ Below w.heap.size w w' := by
 go_enter Tryz.func94, Tryz.ntmps94
 go_wp2_with (refine wpList_alloc_row (k := .u64) rfl 115 rfl (nI z3) (alloc_nm _) z3_nm.ne (nmMax z3_nm) ?_)
 intro w1 r1 b1 s1
 rw [z3_nm.len] at r1
 go_wp2_with (refine wpList_alloc_row (k := .u8) rfl 128 rfl (byI zs24) (alloc24 _) (byI_ne zs24_ne) (by rw [byI_length, zs24_length]; decide) ?_)
 intro w2 r2 b2 s2
 rw [byI_length, zs24_length] at r2
 have hr2 := (hr.kept b1).kept b2
 have n1 : w.heap.size < w1.heap.size := by have := s1.out; omega
 clear hr s1 s2
 go_wp2_with (refine wpList_copy_part (w := w1) rfl _ _ 26 rfl 5 Tryz.underlying26 (by kernel_rfl) zs24 rfl (by rw [zs24_length]; decide) r2 _ b rfl hr2 hb16 zs24_ne b2 (Nat.le_refl _) ?_)
 intro w3 r3 b3
 replace r1 := r1.kept b3
 have hbw := stepB b1 b3
 have hfl : (b ++ zs24.drop b.length).length = 24 := by
  rw [List.length_append, List.length_drop, zs24_length]
  omega
 have HP : Hid (leN ((b ++ zs24.drop b.length).set b.length 1) = leN b + 256 ^ b.length) := piece_num b hb16
 obtain ⟨full, hfull⟩ : ∃ f : List UInt8, f = b ++ zs24.drop b.length := ⟨_, rfl⟩
 rw [← hfull] at r3 HP hfl
 obtain ⟨L, hL⟩ : ∃ L : Nat, L = b.length := ⟨_, rfl⟩
 rw [← hL] at HP hb16 ⊢
 have HLb : Hid _ := hL
 have hc := r3.cellB (j := L) (by omega)
 have hf := r3.free L
 have r4 := r3.setB L 1
 have r1' := r1.other (p := ⟨w1.heap.size, L, none⟩) (by show w1.heap.size ≠ _; omega) (.int .u8 ((1 : UInt8).toNat : Int))
 have hb4 := (Wrote.set w1.heap.size L w3 (.int .u8 ((1 : UInt8).toNat : Int))).below _ _ (by omega) hbw
 have hLI : (L : Int) < 24 := by omega
 have hRd := r4.rdB
 have hl24 : (full.set L 1).length = 24 := by rw [List.length_set, hfl]
 rw [hl24] at hRd
 have HR : Hid (Rd (w3.setCell ⟨w1.heap.size, L, none⟩ (.int .u8 1)) (.slice (some ⟨w1.heap.size, 0, none⟩) 24 24) (full.set L 1)) := hRd
 have HL24 : Hid _ := hl24
 have R1 : Hid (RowAt .u64 115 w.heap.size 3 (nI z3) (w3.setCell ⟨w1.heap.size, L, none⟩ (.int .u8 1))) := r1'
 have HB4 : Hid (Below w.heap.size w (w3.setCell ⟨w1.heap.size, L, none⟩ (.int .u8 1))) := hb4
 clear hr2 r2 r3 r4 r1 r1' b1 b2 b3 hbw hb4 hRd hfull hL hfl hl24
 go_wp2_with fail
 refine (numberOf_any _ _ _ HR.out (by rw [HL24.out]; decide)).mono ?_
 rintro e w5 ⟨x, rfl, hx, hv, b5⟩
 have r5 := R1.out.kept b5
 have hb5 := stepB HB4.out b5
 rw [HP.out, HLb.out] at hv
 go_wp2_with (refine wpList_store_row rfl 115 _ _ rfl (nI x) rfl rfl r5 (by rw [z3_nm.len, hx.len]) (nmInfo z3_nm) ?_; intro w6 r6 hw6)
 refine bodyPost_row (p := 2) (ty := 115) rfl rfl rfl r6 Tryz.underlying115 rfl (nmInfo hx) ?_
 exact ⟨x, rfl, hx, hv, hw6.below _ _ (by omega) hb5⟩

set_option maxRecDepth 100000 in
set_option maxHeartbeats 2000000 in
theorem paddTimes_any (g o : Nat) (B : Array Value) (l a : List Nat) (c : Nat) (C : Int) (ho2 : o ≤ 1) (hl : Wd5 l) (ha : Nm3 a) (hc : c < 18446744073709551616) (hB : B = ((nI a).map (Value.int .u64)).toArray) (hC : C = (c : Int)) (cp : Nat) (hcp : cp = 5 - o) (w : World) (hR : RowAt .u64 129 g 5 (nI l) w) :
  Calls Tryz.prog 108 #[.slice (some ⟨g, o, none⟩) 3 cp, .int .u64 C, .agg B] w fun e w' => ∃ (r : List Nat) (q : Nat), e = .returned (.int .u64 (q : Int)) ∧ q < 18446744073709551616 ∧ Wd5 r ∧ (∀ j, o + 3 ≤ j → r.getD j 0 = l.getD j 0) ∧
   wv r + 18446744073709551616 ^ (o + 3) * q = wv l + 18446744073709551616 ^ o * (c * wv a) ∧ RowAt .u64 129 g 5 (nI r) w' ∧ Chg (fun b => b = g) w w' := by
 subst hC hcp
 have hg := hR.lt
 go_enter Tryz.func108, Tryz.ntmps108
 go_wp2_with (refine wpList_box_row (k := .u64) rfl 115 _ rfl (nI a) (by rw [← hB]; rfl) ha.ne (nmMax ha) ?_)
 intro w1 r1 b1 s1
 rw [ha.len] at r1
 replace hR := hR.kept b1
 have hch : Chg (fun b => b = g) w w1 := Chg.of_below b1
 have HA : Hid (Nm3 a) := ha
 have HL : Hid (Wd5 l) := hl
 clear b1 s1 hB ha hl
 go_wp2
 go_loopw [12, 7] (fun iv cv wx => ∃ (i q : Nat) (cur : List Nat), i ≤ 3 ∧ iv = .int .i64 (i : Int) ∧ cv = .int .u64 (q : Int) ∧ q < 18446744073709551616 ∧ Hid (Wd5 cur) ∧ Hid (∀ j, o + i ≤ j → cur.getD j 0 = l.getD j 0) ∧ Hid (wv cur + 18446744073709551616 ^ (o + i) * q = wv l + 18446744073709551616 ^ o * (c * wv (a.take i))) ∧
  RowAt .u64 115 w.heap.size 3 (nI a) wx ∧ RowAt .u64 129 g 5 (nI cur) wx ∧ Chg (fun b => b = g) w wx) (fun iv _ _ => 3 - (intOf iv).toNat)
 case atStart => exact ⟨0, 0, l, by omega, rfl, rfl, by omega, HL, (fun _ _ => rfl), (by show _ = _; rw [Nat.mul_zero, List.take_zero]; rfl), r1, hR, hch⟩
 case round =>
  obtain ⟨i, q, cur, hi, rfl, rfl, hq, HC, HO, HE, ra, rc, hcx⟩ := hrel
  clear hR r1 hch
  by_cases hlt : i < 3
  ·have hd : decide ((i : Int) < 3) = true := decide_eq_true (by omega)
   have hiI : (i : Int) < 3 := by omega
   have hca := ra.cell (j := i) (by rw [nI_length, HA.out.1]; exact hlt)
   have hcc := rc.cell (j := o + i) (by rw [nI_length, HC.out.1]; omega)
   have hfc := rc.free (o + i)
   rw [nI_get] at hca hcc
   have hy := HA.out.get i
   have hx := HC.out.get (o + i)
   have HS : Hid (∀ s q' : Nat, s < 18446744073709551616 → s + 18446744073709551616 * q' = cur.getD (o + i) 0 + c * a.getD i 0 + q → Wd5 (cur.set (o + i) s) ∧ q' < 18446744073709551616 ∧ (∀ j, o + (i + 1) ≤ j → (cur.set (o + i) s).getD j 0 = l.getD j 0) ∧ wv (cur.set (o + i) s) + 18446744073709551616 ^ (o + (i + 1)) * q' = wv l + 18446744073709551616 ^ o * (c * wv (a.take (i + 1)))) := by
    intro s q' hs he
    refine ⟨HC.out.set _ hs, at_bound _ _ _ _ _ _ hx hc hy hq he, fun j hj => ?_, at_off cur a o i q q' s (wv l) c (by rw [HC.out.1]; omega) (by rw [HA.out.1]; exact hlt) he HE.out⟩
    rw [getD_set8 _ _ _ _ (by omega)]
    exact HO.out j (by omega)
   have HRc : Hid (∀ s : Nat, RowAt .u64 129 g 5 (nI (cur.set (o + i) s)) (wr.setCell ⟨g, o + i, none⟩ (.int .u64 (s : Int)))) := fun s => by
    rw [← nI_set]
    exact rc.set (o + i) _
   have HRb : Hid (∀ u : Value, RowAt .u64 115 w.heap.size 3 (nI a) (wr.setCell ⟨g, o + i, none⟩ u) ∧ Chg (fun b => b = g) w (wr.setCell ⟨g, o + i, none⟩ u)) := fun u =>
    ⟨ra.other (p := ⟨g, o + i, none⟩) (by show g ≠ _; omega) u, hcx.trans (Chg.of_wrote (Wrote.set g (o + i) wr u))⟩
   generalize a.getD i 0 = y at hca hy HS
   generalize cur.getD (o + i) 0 = x at hcc hx HS
   clear ra rc hcx HE HO
   go_wp2_with fail
   refine (mul64_any c y hc hy _).mono ?_
   rintro e w4 ⟨⟨hi', lo, rfl, hhi, hlo, hp⟩, rfl⟩
   obtain ⟨s1, c1, hs1, he1, run1⟩ := add64_run lo x
   obtain ⟨s2, c2, hs2, he2, run2⟩ := add64_run s1 q
   have hpb : c * y ≤ 18446744073709551615 * 18446744073709551615 := Nat.mul_le_mul (by omega) (by omega)
   obtain ⟨g1, hg1⟩ : ∃ n : Nat, n = hi' + c1 := ⟨_, rfl⟩
   obtain ⟨g2, hg2⟩ : ∃ n : Nat, n = g1 + c2 := ⟨_, rfl⟩
   obtain ⟨k1, k2, k3, k4⟩ := HS.out s2 g2 hs2 (by omega)
   have a1 : IntKind.u64.wrap ((hi' : Int) + (c1 : Int)) = (g1 : Int) := wrapA _ _ _ hg1 (by omega)
   have a2 : IntKind.u64.wrap ((g1 : Int) + (c2 : Int)) = (g2 : Int) := wrapA _ _ _ hg2 (by omega)
   have K1 : Hid (Wd5 (cur.set (o + i) s2)) := k1
   have K3 : Hid (∀ j, o + (i + 1) ≤ j → (cur.set (o + i) s2).getD j 0 = l.getD j 0) := k3
   have K4 : Hid _ := k4
   have hR2 := HRc.out s2
   obtain ⟨hRa, hcn⟩ := HRb.out (.int .u64 (s2 : Int))
   clear k1 k3 k4 HS HRc HRb hg1 hg2 hpb hp he1 he2
   go_wp2_with (first | simp only [run1] | simp only [run2])
   go_roundw
   case rel => exact ⟨i + 1, g2, cur.set (o + i) s2, by omega, by go_num, rfl, k2, K1, K3, K4, hRa, hR2, hcn⟩
   case measure => simp [intOf] <;> omega
  ·have hie : i = 3 := by omega
   have hd : decide ((i : Int) < 3) = false := decide_eq_false (by omega)
   have hiI : (3 : Int) ≤ (i : Int) := by omega
   have HE2 : Hid (wv cur + 18446744073709551616 ^ (o + 3) * q = wv l + 18446744073709551616 ^ o * (c * wv a)) := by
    have := HE.out
    rw [hie, List.take_of_length_le (by rw [HA.out.1]; exact Nat.le_refl _)] at this
    exact this
   have HO2 : Hid (∀ j, o + 3 ≤ j → cur.getD j 0 = l.getD j 0) := fun j hj => HO.out j (by omega)
   clear HE HO hie
   go_wp2
   go_ret
   exact ⟨cur, q, rfl, hq, HC.out, HO2.out, HE2.out, rc, hcx⟩
theorem wdMax5 {l : List Nat} (h : Wd5 l) : (nI l).length ≤ maxLen := by rw [h.len]; decide
theorem alloc_wd5 (w : World) : (Instr.alloc 129 true (.tuple #[])).run Tryz.prog w = .ok (.pointer (some ⟨w.heap.size, 0, none⟩)) (w.alloc (.cells ((nI z5).map (Value.int .u64)).toArray 129)) := by kernel_rfl
theorem wp_store_u64 {e : TypeId} {g cap j : Nat} {l : List Int} {w : World} {op : Oper} {a : Act} {K : Act → World → Prop} {Q : Exit → Act → World → Prop} (x y : Operand) (ho : op.op = .store 27 x y) (hx : a.eval x = .pointer (some ⟨g, j, none⟩)) (X : Int) (hy : a.eval y = .int .u64 X)
  (hr : RowAt .u64 e g cap l w) (hj : j < l.length)
  (h : ∀ w', RowAt .u64 e g cap (l.set j X) w' → Wrote g w w' → K (a.put op.dst undef) w') : op.wp Tryz.prog a w K Q := by
 have hc := hr.cell hj
 have hf := hr.free j
 have h2 := h _ (hr.set j X) (Wrote.set g j w _)
 unfold Oper.wp execOp
 simp only [ho, hx, hy]
 go_simp
 exact h2

set_option maxRecDepth 100000 in
set_option maxHeartbeats 4000000 in
theorem ptimes_any (A B : Array Value) (a r : List Nat) (ha : Nm3 a) (hr : Nm3 r) (hr2 : wv r < 340282366920938463463374607431768211456) (hb : wv a * wv r < 57896044618658097711785492504343953926634992332820282019728792003956564819968) (hA : A = ((nI a).map (Value.int .u64)).toArray) (hB : B = ((nI r).map (Value.int .u64)).toArray) (w : World) :
  Calls Tryz.prog 95 #[.agg A, .agg B] w fun e w' => ∃ x : List Nat, e = .returned (nmV x) ∧ Nm3 x ∧ wv x = fold8 (wv a * wv r) ∧ Below w.heap.size w w' := by
 have HBd : Hid _ := hb
 have HR2 : Hid _ := hr2
 clear hb hr2
 go_enter Tryz.func95, Tryz.ntmps95
 go_wp2_with (refine wpList_box_row (k := .u64) rfl 115 _ rfl (nI a) (by rw [← hA]; rfl) ha.ne (nmMax ha) ?_)
 intro w1 r1 b1 s1
 rw [ha.len] at r1
 go_wp2_with (refine wpList_box_row (k := .u64) rfl 115 _ rfl (nI r) (by rw [← hB]; rfl) hr.ne (nmMax hr) ?_)
 intro w2 r2 b2 s2
 rw [hr.len] at r2
 go_wp2_with (refine wpList_alloc_row (k := .u64) rfl 115 rfl (nI z3) (alloc_nm _) z3_nm.ne (nmMax z3_nm) ?_)
 intro w3 r3 b3 s3
 rw [z3_nm.len] at r3
 go_wp2_with (refine wpList_alloc_row (k := .u64) rfl 129 rfl (nI z5) (alloc_wd5 _) z5_wd.ne (wdMax5 z5_wd) ?_)
 intro w4 r4 b4 s4
 rw [z5_wd.len] at r4
 have hr1 := ((r1.kept b2).kept b3).kept b4
 have hr2 := (r2.kept b3).kept b4
 have hr3 := r3.kept b4
 have hbw := stepB (stepB (stepB b1 b2) b3) b4
 have n1 : w.heap.size < w1.heap.size := by have := s1.out; omega
 have n2 : w1.heap.size < w2.heap.size := by have := s2.out; omega
 have n3 : w2.heap.size < w3.heap.size := by have := s3.out; omega
 have HA : Hid (Nm3 a) := ha
 have HR : Hid (Nm3 r) := hr
 clear r1 r2 r3 b1 b2 b3 b4 s1 s2 s3 s4 hA hB ha hr
 go_wp2
 go_loopw [10] (fun iv wx => ∃ (i : Nat) (cur : List Nat), i ≤ 2 ∧ iv = .int .i64 (i : Int) ∧ Hid (Wd5 cur) ∧ Hid (∀ j, 3 + i ≤ j → cur.getD j 0 = 0) ∧ Hid (wv cur = wv (r.take i) * wv a) ∧
  RowAt .u64 115 w.heap.size 3 (nI a) wx ∧ RowAt .u64 115 w1.heap.size 3 (nI r) wx ∧ RowAt .u64 115 w2.heap.size 3 (nI z3) wx ∧ RowAt .u64 129 w3.heap.size 5 (nI cur) wx ∧ Below w.heap.size w wx) (fun iv _ => 2 - (intOf iv).toNat)
 case atStart => exact ⟨0, z5, by omega, rfl, z5_wd, (fun j _ => z5_get j), (by show _ = _; rw [z5_wv, List.take_zero]; exact (Nat.zero_mul _).symm), hr1, hr2, hr3, r4, hbw⟩
 case round =>
  obtain ⟨i, cur, hi, rfl, HC, HZ, HE, ra, rr, rz, rc, hbx⟩ := hrel
  clear hr1 hr2 hr3 r4 hbw
  by_cases hlt : i < 2
  ·have hd : decide ((i : Int) < 2) = true := decide_eq_true (by omega)
   have hiI : (i : Int) < 2 := by omega
   have hq := HR.out.get i
   have HS : Hid (∀ (x : List Nat) (q : Nat), q < 18446744073709551616 → Wd5 x → (∀ j, i + 3 ≤ j → x.getD j 0 = cur.getD j 0) → wv x + 18446744073709551616 ^ (i + 3) * q = wv cur + 18446744073709551616 ^ i * (r.getD i 0 * wv a) →
     Wd5 (x.set (3 + i) q) ∧ (∀ j, 3 + (i + 1) ≤ j → (x.set (3 + i) q).getD j 0 = 0) ∧ wv (x.set (3 + i) q) = wv (r.take (i + 1)) * wv a) := by
    intro x q hql hx hj he
    refine ⟨hx.set _ hql, fun j h => ?_, row_step x r i q 0 (wv cur) (wv a) (by rw [hx.1]; omega) (by rw [HR.out.1]; omega) (by rw [hj _ (by omega)]; exact HZ.out _ (Nat.le_refl _)) HE.out he⟩
    rw [getD_set8 _ _ _ _ (by omega), hj j (by omega)]
    exact HZ.out j (by omega)
   obtain ⟨y, hy⟩ : ∃ y : Nat, y = r.getD i 0 := ⟨_, rfl⟩
   rw [← hy] at hq HS
   have HY : Hid _ := hy
   obtain ⟨i3, hi3⟩ : ∃ n : Nat, n = 3 + i := ⟨_, rfl⟩
   have x1 : IntKind.i64.wrap (3 + (i : Int)) = (i3 : Int) := by rw [show 3 + (i : Int) = (i3 : Int) by omega]; exact IntWalk.i64_in _ (by omega)
   have HI3 : Hid _ := hi3
   have y1 : (i : Int) ≤ (i3 : Int) := by omega
   have y2 : (i3 : Int) ≤ 5 := by omega
   have y3 : (i3 : Int) < 5 := by omega
   have y4 : i3 - i = 3 := by omega
   have y5 : i ≤ i3 := by omega
   have y6 : ¬ (5 : Nat) = i := by omega
   have y7 : i ≤ 5 := by omega
   have y8 : (i : Int) < 3 := by omega
   have hS : RowAt .u64 115 w1.heap.size 3 (nI r) wr.drew ∧ RowAt .u64 115 w.heap.size 3 (nI a) wr.drew := ⟨rr.drew, ra.drew⟩
   replace rz := rz.drew
   replace rc := rc.drew
   replace hbx := hbx.drew
   clear ra rr hy hi3 HE HZ
   go_wp2_with fail
   refine wpS_begin (fun W => RowAt .u64 115 w1.heap.size 3 (nI r) W ∧ RowAt .u64 115 w.heap.size 3 (nI a) W) (by kernel_rfl) ?_
   refine wpS_take (hS := hS) (i := 0) (oi := ⟨some 13, .move (.tmp 6), 3, "poly.go:65", #[], none⟩) (v := ?_) rfl (by kernel_rfl) (by kernel_rfl) (by kernel_rfl) (by rfl) ?_ ?_
   rotate_left
   ·intro W hW; go_simp <;> with_reducible rfl
   try simp only [Act.put, putA, putB, putC]
   refine wpS_take (hS := hS) (i := 1) (oi := ⟨some 14, .binOp .add 3 (.const (.int .i64 3)) (.tmp 13) 3, 3, "poly.go:65", #[⟨0, .data⟩], none⟩) (v := ?_) rfl (by kernel_rfl) (by kernel_rfl) (by kernel_rfl) (by rfl) ?_ ?_
   rotate_left
   ·intro W hW; go_simp <;> with_reducible rfl
   try simp only [Act.put, putA, putB, putC]
   refine wpS_take (hS := hS) (i := 2) (oi := ⟨some 15, .move (.tmp 6), 3, "poly.go:65", #[], none⟩) (v := ?_) rfl (by kernel_rfl) (by kernel_rfl) (by kernel_rfl) (by rfl) ?_ ?_
   rotate_left
   ·intro W hW; go_simp <;> with_reducible rfl
   try simp only [Act.put, putA, putB, putC]
   refine wpS_take (hS := hS) (i := 3) (oi := ⟨some 16, .move (.tmp 6), 3, "poly.go:65", #[], none⟩) (v := ?_) rfl (by kernel_rfl) (by kernel_rfl) (by kernel_rfl) (by rfl) ?_ ?_
   rotate_left
   ·intro W hW; go_simp <;> with_reducible rfl
   try simp only [Act.put, putA, putB, putC]
   refine wpS_take (hS := hS) (i := 4) (oi := ⟨some 17, .binOp .add 3 (.const (.int .i64 3)) (.tmp 16) 3, 3, "poly.go:65", #[⟨3, .data⟩], none⟩) (v := ?_) rfl (by kernel_rfl) (by kernel_rfl) (by kernel_rfl) (by rfl) ?_ ?_
   rotate_left
   ·intro W hW; go_simp <;> with_reducible rfl
   try simp only [Act.put, putA, putB, putC]
   refine wpS_take (hS := hS) (i := 5) (oi := ⟨some 18, .slice 129 (.tmp 5) (some (.tmp 15)) (some (.tmp 17)) none, 69, "poly.go:65", #[⟨2, .data⟩, ⟨4, .data⟩], none⟩) (v := ?_) rfl (by kernel_rfl) (by kernel_rfl) (by kernel_rfl) (by rfl) ?_ ?_
   rotate_left
   ·intro W hW; go_simp <;> with_reducible rfl
   try simp only [Act.put, putA, putB, putC]
   refine wpS_take (hS := hS) (i := 6) (oi := ⟨some 19, .move (.tmp 6), 3, "poly.go:65", #[], none⟩) (v := ?_) rfl (by kernel_rfl) (by kernel_rfl) (by kernel_rfl) (by rfl) ?_ ?_
   rotate_left
   ·intro W hW; go_simp <;> with_reducible rfl
   try simp only [Act.put, putA, putB, putC]
   refine wpS_take (hS := hS) (i := 7) (oi := ⟨some 20, .indexAddr 115 (.tmp 3) (.tmp 19), 0, "poly.go:65", #[⟨6, .data⟩], none⟩) (v := ?_) rfl (by kernel_rfl) (by kernel_rfl) (by kernel_rfl) (by rfl) ?_ ?_
   rotate_left
   ·intro W hW; go_simp <;> with_reducible rfl
   try simp only [Act.put, putA, putB, putC]
   refine wpS_take (hS := hS) (i := 8) (oi := ⟨some 21, .load 27 (.tmp 20), 27, "poly.go:65", #[⟨7, .data⟩], none⟩) (v := ?_) rfl (by kernel_rfl) (by kernel_rfl) (by kernel_rfl) (by rfl) ?_ ?_
   rotate_left
   ·intro W hW; have hcW := hW.1.cell (j := i) (by rw [HR.out.len]; omega); rw [nI_get, ← HY.out] at hcW; go_simp <;> with_reducible rfl
   try simp only [Act.put, putA, putB, putC]
   refine wpS_take (hS := hS) (i := 9) (oi := ⟨some 22, .load 115 (.tmp 2), 115, "poly.go:65", #[], none⟩) (v := ?_) rfl (by kernel_rfl) (by kernel_rfl) (by kernel_rfl) (by rfl) ?_ ?_
   rotate_left
   ·intro W hW; refine Eq.trans (exec_load_row' 115 _ (by rfl) (by rfl) hW.2 (Below.refl _ _) _ Tryz.underlying115 rfl (nmInfo HA.out)) ?_; with_reducible rfl
   try simp only [Act.put, putA, putB, putC]
   refine wpS_do (i := 10) (o := ⟨some 23, .call { callee := .value (.func 108), args := #[.tmp 18, .tmp 21, .tmp 22], argTypes := #[69, 27, 115] }, 27, "poly.go:65", #[⟨5, .data⟩, ⟨8, .data⟩, ⟨9, .data⟩], none⟩) (by kernel_rfl) rfl (by rfl) fun K hK => ?_
   go_simp
   refine (paddTimes_any _ i _ cur a y _ (by omega) HC.out HA.out hq rfl rfl _ (by omega) _ rc).mono ?_
   rintro e w5 ⟨x, q, rfl, hql, hx, hj, he, rc5, hc5⟩
   obtain ⟨k1, k2, k3⟩ := HS.out x q hql hx hj he
   replace hS := And.intro (hS.1.chg hc5 (by omega)) (hS.2.chg hc5 (by omega))
   replace rz := rz.chg hc5 (by omega)
   replace hbx := Chg.below hbx hc5 (by have := hbx.size; show w.heap.size ≤ wr.heap.size; exact this) (fun k _ e => by omega)
   refine hK.out _ _ hS ?_
   clear hK K
   try simp only [Act.put, putA, putB, putC]
   refine wpS_take (hS := hS) (i := 11) (oi := ⟨some 24, .indexAddr 129 (.tmp 5) (.tmp 14), 0, "poly.go:65", #[⟨1, .data⟩, ⟨0, .phase⟩, ⟨1, .phase⟩, ⟨2, .phase⟩, ⟨3, .phase⟩, ⟨4, .phase⟩, ⟨5, .phase⟩, ⟨6, .phase⟩, ⟨7, .phase⟩, ⟨8, .phase⟩, ⟨9, .phase⟩, ⟨10, .phase⟩], none⟩) (v := ?_) rfl (by kernel_rfl) (by kernel_rfl) (by kernel_rfl) (by rfl) ?_ ?_
   rotate_left
   ·intro W hW; go_simp <;> with_reducible rfl
   try simp only [Act.put, putA, putB, putC]
   refine wpS_do (i := 12) (o := ⟨none, .store 27 (.tmp 24) (.tmp 23), 0, "poly.go:65", #[⟨11, .data⟩, ⟨10, .data⟩, ⟨10, .chain⟩, ⟨0, .phase⟩, ⟨1, .phase⟩, ⟨2, .phase⟩, ⟨3, .phase⟩, ⟨4, .phase⟩, ⟨5, .phase⟩, ⟨6, .phase⟩, ⟨7, .phase⟩, ⟨8, .phase⟩, ⟨9, .phase⟩, ⟨10, .phase⟩], none⟩) (by kernel_rfl) rfl (by rfl) fun K hK => ?_
   refine wp_store_u64 _ _ (by rfl) (by rfl) (q : Int) (by rfl) rc5 (by rw [hx.len]; have := HI3.out; omega) ?_
   intro w6 rc6 hw6
   rw [nI_set, HI3.out] at rc6
   replace hS := And.intro (hS.1.wrote hw6 (by omega)) (hS.2.wrote hw6 (by omega))
   replace rz := rz.wrote hw6 (by omega)
   replace hbx := hw6.below _ _ (by omega) hbx
   refine hK.out _ _ hS ?_
   clear hK K
   try simp only [Act.put, putA, putB, putC]
   refine wpS_done (by kernel_rfl) ?_
   have K1 : Hid (Wd5 (x.set (3 + i) q)) := k1
   have K2 : Hid (∀ j, 3 + (i + 1) ≤ j → (x.set (3 + i) q).getD j 0 = 0) := k2
   have K3 : Hid _ := k3
   clear k1 k2 k3 hj he HS rc rc5 hc5 hw6
   go_wp2
   go_roundw
   case rel => exact ⟨i + 1, x.set (3 + i) q, by omega, by go_num, K1, K2, K3, hS.2, hS.1, rz, rc6, hbx⟩
   case measure => simp [intOf] <;> omega
  ·have hie : i = 2 := by omega
   have hd : decide ((i : Int) < 2) = false := decide_eq_false (by omega)
   have hiI : (2 : Int) ≤ (i : Int) := by omega
   have hW : wv cur = wv a * wv r := by
    rw [HE.out, hie, two_words HR.out HR2.out, Nat.mul_comm]
   obtain ⟨d0, d1, d2, d3, d4, hcur, l0, l1, l2, l3, l4⟩ := HC.out.five
   rw [hcur] at rc hW
   have HSum := times_sum d0 d1 d2 d3 d4 l0 l1 l2 l3 (by rw [hW]; exact HBd.out)
   rw [hW] at HSum
   have k0 := rc.cell (j := 0) (by simp [nI])
   have k1 := rc.cell (j := 1) (by simp [nI])
   have k2 := rc.cell (j := 2) (by simp [nI])
   have k3 := rc.cell (j := 3) (by simp [nI])
   rw [nI_get] at k0 k1 k2 k3
   simp only [List.getD_cons_zero, List.getD_cons_succ] at k0 k1 k2 k3
   have m1 := mask3 d2 l2
   have m2 := unmask3 d2 l2
   have m3 := or_parts (d2 / 4) (d3 % 4) (by omega) (by omega)
   have e1 : (d2 : Int) / 4 = ((d2 / 4 : Nat) : Int) := by omega
   have e2 : (d3 : Int) / 4 = ((d3 / 4 : Nat) : Int) := by omega
   have e3 : IntKind.u64.wrap ((d3 : Int) * 4611686018427387904) = ((4611686018427387904 * (d3 % 4) : Nat) : Int) := by rw [IntKind.wrap_u64]; omega
   have q1 : d2 % 4 < 18446744073709551616 := by omega
   have q2 : d2 - d2 % 4 < 18446744073709551616 := by omega
   have q3 : d2 / 4 + 4611686018427387904 * (d3 % 4) < 18446744073709551616 := by omega
   have q4 : d3 / 4 < 18446744073709551616 := by omega
   generalize d2 / 4 + 4611686018427387904 * (d3 % 4) = t3 at m3 HSum q3
   generalize 4611686018427387904 * (d3 % 4) = t2 at m3 e3
   generalize d2 - d2 % 4 = t1 at m2 HSum q2
   generalize d2 % 4 = t0 at m1 HSum q1
   generalize d2 / 4 = t5 at m3 e1
   generalize d3 / 4 = t4 at e2 HSum q4
   have HS : Hid _ := HSum
   have hg := rc.lt
   have v7 : Nm3 [d0, d1, t0] := Nm3.mk3 l0 l1 q1
   have v8 : Nm3 [t1, d3, 0] := Nm3.mk3 q2 l3 (by decide)
   have v9 : Nm3 [t3, t4, 0] := Nm3.mk3 q3 q4 (by decide)
   have V7 : Hid (Nm3 [d0, d1, t0]) := v7
   have V8 : Hid (Nm3 [t1, d3, 0]) := v8
   have V9 : Hid (Nm3 [t3, t4, 0]) := v9
   clear HSum hW HE HZ hie HC hcur l0 l1 l2 l3 l4 q1 q2 q3 q4 v7 v8 v9 ra rr
   go_wp2_with (refine wpList_alloc_row (k := .u64) rfl 115 rfl (nI z3) (alloc_nm _) z3_nm.ne (nmMax z3_nm) ?_)
   intro w5 r5 b5 s5
   rw [z3_nm.len] at r5
   have n5 : wr.heap.size < w5.heap.size := by have := s5.out; omega
   clear k0 k1 k2 k3
   go_wp2_with (refine wpList_store_row rfl 115 _ _ rfl (nI [d0, d1, t0]) rfl rfl r5 (by rw [z3_nm.len, V7.out.len]) (nmInfo z3_nm) ?_)
   intro w6 r7 hw6
   replace rc := (rc.kept b5).wrote hw6 (by omega)
   replace rz := (rz.kept b5).wrote hw6 (by omega)
   replace hbx := hw6.below _ _ (by omega) (stepB hbx b5)
   have n6 : wr.heap.size < w6.heap.size := by have := hw6.size; omega
   have k2 := rc.cell (j := 2) (by simp [nI])
   have k3 := rc.cell (j := 3) (by simp [nI])
   rw [nI_get] at k2 k3
   simp only [List.getD_cons_zero, List.getD_cons_succ] at k2 k3
   clear r5 b5 s5 hw6
   go_wp2_with (refine wpList_alloc_row (k := .u64) rfl 115 rfl (nI z3) (alloc_nm _) z3_nm.ne (nmMax z3_nm) ?_)
   intro w8 r5 b5 s5
   rw [z3_nm.len] at r5
   have n8 : w6.heap.size < w8.heap.size := by have := s5.out; omega
   clear k2 k3
   go_wp2_with (refine wpList_store_row rfl 115 _ _ rfl (nI [t1, d3, 0]) rfl rfl r5 (by rw [z3_nm.len, V8.out.len]) (nmInfo z3_nm) ?_)
   intro w9 r8 hw6
   replace rc := (rc.kept b5).wrote hw6 (by omega)
   replace rz := (rz.kept b5).wrote hw6 (by omega)
   replace r7 := (r7.kept b5).wrote hw6 (by omega)
   replace hbx := hw6.below _ _ (by omega) (stepB hbx b5)
   have n9 : w6.heap.size < w9.heap.size := by have := hw6.size; omega
   have k2 := rc.cell (j := 2) (by simp [nI])
   have k3 := rc.cell (j := 3) (by simp [nI])
   rw [nI_get] at k2 k3
   simp only [List.getD_cons_zero, List.getD_cons_succ] at k2 k3
   clear r5 b5 s5 hw6
   go_wp2_with (refine wpList_alloc_row (k := .u64) rfl 115 rfl (nI z3) (alloc_nm _) z3_nm.ne (nmMax z3_nm) ?_)
   intro w10 r5 b5 s5
   rw [z3_nm.len] at r5
   have n10 : w9.heap.size < w10.heap.size := by have := s5.out; omega
   clear k2 k3
   go_wp2_with (refine wpList_store_row rfl 115 _ _ rfl (nI [t3, t4, 0]) rfl rfl r5 (by rw [z3_nm.len, V9.out.len]) (nmInfo z3_nm) ?_)
   intro w11 r9 hw6
   replace rz := (rz.kept b5).wrote hw6 (by omega)
   replace r7 := (r7.kept b5).wrote hw6 (by omega)
   replace r8 := (r8.kept b5).wrote hw6 (by omega)
   replace hbx := hw6.below _ _ (by omega) (stepB hbx b5)
   clear r5 b5 s5 hw6 rc m1 m2 m3 e1 e2 e3
   go_wp2_with fail
   refine wpE_begin 5 (by kernel_rfl) ?_
   refine wpE_t (i := 0) (oi := ⟨some 51, .load 115 (.tmp 7), 115, "poly.go:71", #[], none⟩) (v := ?_) ?_ ?_
   rotate_left
   ·intro W hW; refine Eq.trans (exec_load_row 115 _ (by rfl) (by rfl) r7 hW _ Tryz.underlying115 rfl (nmInfo V7.out)) ?_; with_reducible rfl
   try simp only [Act.put, putA, putB, putC]
   refine wpE_t (i := 1) (oi := ⟨some 52, .load 115 (.tmp 8), 115, "poly.go:71", #[], none⟩) (v := ?_) ?_ ?_
   rotate_left
   ·intro W hW; refine Eq.trans (exec_load_row 115 _ (by rfl) (by rfl) r8 hW _ Tryz.underlying115 rfl (nmInfo V8.out)) ?_; with_reducible rfl
   try simp only [Act.put, putA, putB, putC]
   refine wpE_t (i := 3) (oi := ⟨some 54, .load 115 (.tmp 9), 115, "poly.go:71", #[], none⟩) (v := ?_) ?_ ?_
   rotate_left
   ·intro W hW; refine Eq.trans (exec_load_row 115 _ (by rfl) (by rfl) r9 hW _ Tryz.underlying115 rfl (nmInfo V9.out)) ?_; with_reducible rfl
   try simp only [Act.put, putA, putB, putC]
   refine wpE_do (i := 2) (o := ⟨some 53, .call { callee := .value (.func 93), args := #[.tmp 51, .tmp 52], argTypes := #[115, 115] }, 115, "poly.go:71", #[⟨0, .data⟩, ⟨1, .data⟩], none⟩) (by kernel_rfl) rfl (by rfl) fun K hK => ?_
   go_simp
   refine (plus_any _ _ [d0, d1, t0] [t1, d3, 0] V7.out V8.out HS.out.2.1 rfl rfl _).mono ?_
   rintro e wq ⟨x1, rfl, hx1, hv1, bq⟩
   refine hK.out _ _ bq ?_
   clear hK K
   try simp only [Act.put, putA, putB, putC]
   refine wpE_do (i := 4) (o := ⟨some 55, .call { callee := .value (.func 93), args := #[.tmp 53, .tmp 54], argTypes := #[115, 115] }, 115, "poly.go:71", #[⟨2, .data⟩, ⟨3, .data⟩, ⟨2, .chain⟩], none⟩) (by kernel_rfl) rfl (by rfl) fun K hK => ?_
   go_simp
   refine (plus_any _ _ x1 [t3, t4, 0] hx1 V9.out (by rw [hv1, HS.out.1]; have := HS.out.2.2; omega) rfl rfl _).mono ?_
   rintro e wm ⟨x2, rfl, hx2, hv2, bm⟩
   rw [hv1, HS.out.1] at hv2
   refine hK.out _ _ bm ?_
   clear hK K
   try simp only [Act.put, putA, putB, putC]
   refine wpE_last (o := ⟨none, .store 115 (.tmp 4) (.tmp 55), 0, "poly.go:71", #[⟨4, .data⟩, ⟨4, .chain⟩, ⟨0, .phase⟩, ⟨1, .phase⟩, ⟨2, .phase⟩, ⟨3, .phase⟩, ⟨4, .phase⟩], none⟩) (by kernel_rfl) (by kernel_rfl) rfl (by rfl) fun K hK => ?_
   refine wp_store_row 115 _ _ rfl (nI x2) rfl rfl ((rz.drew.kept bq).kept bm) (by rw [z3_nm.len, hx2.len]) (nmInfo z3_nm) ?_
   intro wS rS hwS
   refine hK.out _ _ ?_
   clear hK K
   try simp only [Act.put, putA, putB, putC]
   go_wp2_with fail
   refine bodyPost_row (p := 4) (ty := 115) rfl rfl rfl rS Tryz.underlying115 rfl (nmInfo hx2) ?_
   exact ⟨x2, rfl, hx2, hv2, hwS.below _ _ (by omega) (stepB (stepB hbx.drew bq) bm)⟩

set_option maxRecDepth 100000 in
set_option maxHeartbeats 4000000 in
theorem prest_any (A : Array Value) (a : List Nat) (ha : Nm3 a) (hb : wv a < 1701411834604692317316873037158841057280) (hA : A = ((nI a).map (Value.int .u64)).toArray) (w : World) :
  Calls Tryz.prog 96 #[.agg A] w fun e w' => ∃ x : List Nat, e = .returned (nmV x) ∧ Nm3 x ∧ wv x = wv a % p8 ∧ Below w.heap.size w w' := by
 have HBd : Hid _ := hb
 clear hb
 go_enter Tryz.func96, Tryz.ntmps96
 go_wp2_with (refine wpList_box_row (k := .u64) rfl 115 _ rfl (nI a) (by rw [← hA]; rfl) ha.ne (nmMax ha) ?_)
 intro w1 r1 b1 s1
 rw [ha.len] at r1
 go_wp2_with (refine wpList_alloc_row (k := .u64) rfl 115 rfl (nI z3) (alloc_nm _) z3_nm.ne (nmMax z3_nm) ?_)
 intro w2 r2 b2 s2
 rw [z3_nm.len] at r2
 replace r1 := r1.kept b2
 have hbw := stepB b1 b2
 have n1 : w.heap.size < w1.heap.size := by have := s1.out; omega
 have n2 : w1.heap.size < w2.heap.size := by have := s2.out; omega
 have HA : Hid (Nm3 a) := ha
 clear b1 b2 s1 s2 hA ha
 go_wp2_with (refine wpList_load_row rfl 115 _ rfl rfl r1 _ Tryz.underlying115 rfl (nmInfo HA.out) ?_)
 refine (plus_any _ _ a [5, 0, 0] HA.out (Nm3.mk3 (by decide) (by decide) (by decide)) (by have := HBd.out; simp only [wv] at this ⊢; omega) rfl rfl _).mono ?_
 rintro e w3 ⟨x, rfl, hx, hv, b3⟩
 have hv5 : wv x = wv a + 5 := hv
 replace r1 := r1.kept b3
 replace r2 := r2.kept b3
 replace hbw := stepB hbw b3
 have n3 := b3.size
 clear b3 hv
 go_wp2_with (refine wpList_alloc_row (k := .u64) rfl 115 rfl (nI z3) (alloc_nm _) z3_nm.ne (nmMax z3_nm) ?_)
 intro w4 r4 b4 s4
 rw [z3_nm.len] at r4
 replace r1 := r1.kept b4
 replace r2 := r2.kept b4
 replace hbw := stepB hbw b4
 clear b4 s4
 go_wp2_with (refine wpList_store_row rfl 115 _ _ rfl (nI x) rfl rfl r4 (by rw [z3_nm.len, hx.len]) (nmInfo z3_nm) ?_)
 intro w5 r5 hw5
 replace r1 := r1.wrote hw5 (by omega)
 replace r2 := r2.wrote hw5 (by omega)
 replace hbw := hw5.below _ _ (by omega) hbw
 clear r4 hw5
 obtain ⟨x0, x1, x2, hxe, l0, l1, l2⟩ := hx.three
 subst hxe
 obtain ⟨t1, t2⟩ := rest8_top x0 x1 x2 l0 l1
 have hr8 := rest8 (wv a) _ HBd.out hv5
 rw [← t1, ← t2] at hr8
 have k2 := r5.cell (j := 2) (by simp [nI])
 have f2 := r5.free 2
 rw [nI_get] at k2
 simp only [List.getD_cons_zero, List.getD_cons_succ] at k2
 have m1 := mask3 x2 l2
 have e1 : (x2 : Int) / 4 = ((x2 / 4 : Nat) : Int) := by omega
 have q1 : x2 % 4 < 18446744073709551616 := by omega
 have r6 := r5.set 2 ((x2 % 4 : Nat) : Int)
 rw [nI_set] at r6
 have r1' := r1.other (p := ⟨w3.heap.size, 2, none⟩) (by show w3.heap.size ≠ _; omega) (.int .u64 ((x2 % 4 : Nat) : Int))
 have r2' := r2.other (p := ⟨w3.heap.size, 2, none⟩) (by show w3.heap.size ≠ _; omega) (.int .u64 ((x2 % 4 : Nat) : Int))
 have hbw' := (Wrote.set w3.heap.size 2 w5 (.int .u64 ((x2 % 4 : Nat) : Int))).below _ _ (by omega) hbw
 simp only [List.set_cons_succ, List.set_cons_zero] at r6
 have hX : Nm3 [x0, x1, x2 % 4] := Nm3.mk3 l0 l1 q1
 have HX : Hid (Nm3 [x0, x1, x2 % 4]) := hX
 obtain ⟨M, Y, hY, HYv, HM, hneg⟩ : ∃ (M : Int) (Y : List Nat), Nm3 Y ∧ Hid (wv Y = wv a % p8) ∧ Hid ((M = 0 ∧ Y = a) ∨ (M = 18446744073709551615 ∧ Y = [x0, x1, x2 % 4])) ∧ IntKind.u64.wrap (-((x2 / 4 : Nat) : Int)) = M := by
  rcases hr8 with ⟨h1, h2⟩ | ⟨h1, h2⟩
  ·exact ⟨0, a, HA.out, h2.symm, .inl ⟨rfl, rfl⟩, by rw [h1]; decide⟩
  ·exact ⟨18446744073709551615, _, hX, h2.symm, .inr ⟨rfl, rfl⟩, by rw [h1]; decide⟩
 have HY : Hid (Nm3 Y) := hY
 generalize x2 % 4 = t0 at m1 r6 r1' r2' hbw' HX HM
 generalize x2 / 4 = t3 at e1 hneg
 have R6 : Hid _ := r6
 have R1 : Hid _ := r1'
 have R2 : Hid _ := r2'
 have HBW : Hid _ := hbw'
 clear r1 r2 r5 r6 r1' r2' hbw hbw' hr8 t1 t2 hX hY q1 l0 l1 l2 hv5 hx
 have HW : Hid (∀ i, bits .xor .u64 ((a.getD i 0 : Nat) : Int) (bits .and .u64 M (bits .xor .u64 ((a.getD i 0 : Nat) : Int) (([x0, x1, t0].getD i 0 : Nat) : Int))) = ((Y.getD i 0 : Nat) : Int)) := fun i => by
  refine sel8 M _ _ _ (HA.out.get i) (HX.out.get i) ?_
  rcases HM.out with ⟨h1, h2⟩ | ⟨h1, h2⟩
  ·exact .inl ⟨h1, by rw [h2]⟩
  ·exact .inr ⟨h1, by rw [h2]⟩
 clear HM
 generalize [x0, x1, t0] = X at R6 HX HW
 go_wp2
 go_loopw [17] (fun iv wx => ∃ (i : Nat), i ≤ 3 ∧ iv = .int .i64 (i : Int) ∧ RowAt .u64 115 w.heap.size 3 (nI (mxL Y a i)) wx ∧ RowAt .u64 115 w1.heap.size 3 (nI z3) wx ∧ RowAt .u64 115 w3.heap.size 3 (nI X) wx ∧ Below w.heap.size w wx) (fun iv _ => 3 - (intOf iv).toNat)
 case atStart => exact ⟨0, by omega, rfl, by rw [mxL_zero]; exact R1.out, R2.out, R6.out, HBW.out⟩
 case round =>
  obtain ⟨i, hi, rfl, ra, rz, rx, hbx⟩ := hrel
  clear R1 R2 R6 HBW
  by_cases hlt : i < 3
  ·have hd : decide ((i : Int) < 3) = true := decide_eq_true (by omega)
   have hiI : (i : Int) < 3 := by omega
   have hca := ra.cell (j := i) (by rw [mxL_len HY.out.1 HA.out.1 i hi]; exact hlt)
   have hcx := rx.cell (j := i) (by rw [HX.out.len]; exact hlt)
   have hfa := ra.free i
   rw [nI_get, mxL_get HY.out.1 i hlt] at hca
   rw [nI_get] at hcx
   have hwi := HW.out i
   have HR : Hid (∀ W : World, Below wr.heap.size wr W → RowAt .u64 115 w.heap.size 3 (nI (mxL Y a (i + 1))) (W.setCell ⟨w.heap.size, i, none⟩ (.int .u64 ((Y.getD i 0 : Nat) : Int))) ∧
     RowAt .u64 115 w1.heap.size 3 (nI z3) (W.setCell ⟨w.heap.size, i, none⟩ (.int .u64 ((Y.getD i 0 : Nat) : Int))) ∧
     RowAt .u64 115 w3.heap.size 3 (nI X) (W.setCell ⟨w.heap.size, i, none⟩ (.int .u64 ((Y.getD i 0 : Nat) : Int))) ∧
     Below w.heap.size w (W.setCell ⟨w.heap.size, i, none⟩ (.int .u64 ((Y.getD i 0 : Nat) : Int)))) := by
    intro W hW
    refine ⟨?_, ?_, ?_, ?_⟩
    ·have h1 := (ra.kept hW).set i ((Y.getD i 0 : Nat) : Int)
     rw [nI_set, mxL_set HY.out.1 HA.out.1 i hlt] at h1
     exact h1
    ·exact (rz.kept hW).other (p := ⟨w.heap.size, i, none⟩) (by show w.heap.size ≠ _; omega) _
    ·exact (rx.kept hW).other (p := ⟨w.heap.size, i, none⟩) (by show w.heap.size ≠ _; omega) _
    ·exact (Wrote.set w.heap.size i _ _).below _ _ (Nat.le_refl _) (stepB hbx hW)
   generalize a.getD i 0 = p at hca hwi
   generalize X.getD i 0 = q at hcx hwi
   generalize Y.getD i 0 = p' at HR hwi
   clear ra rz rx hbx
   go_wp2_with fail
   have hB : Below wr.heap.size wr wr.drew := (Below.refl _ _).drew
   refine wpF_begin 14 (w0 := wr) (by kernel_rfl) ?_
   refine wpF_p (hb := .inr hB) (i := 0) (oi := ⟨some 20, .move (.tmp 5), 3, "poly.go:96", #[], none⟩) (v := ?_) ?_ ?_
   rotate_left
   ·intro W; go_simp <;> with_reducible rfl
   try simp only [Act.put, putA, putB, putC]
   refine wpF_p (hb := .inr hB) (i := 1) (oi := ⟨some 21, .indexAddr 115 (.tmp 1) (.tmp 20), 0, "poly.go:96", #[⟨0, .data⟩], none⟩) (v := ?_) ?_ ?_
   rotate_left
   ·intro W; go_simp <;> with_reducible rfl
   try simp only [Act.put, putA, putB, putC]
   refine wpF_t (hb := hB) (i := 2) (oi := ⟨some 22, .load 27 (.tmp 21), 27, "poly.go:96", #[⟨1, .data⟩], none⟩) (v := ?_) ?_ ?_
   rotate_left
   ·intro W hW; have hcW := cellK hca hW; go_simp <;> with_reducible rfl
   try simp only [Act.put, putA, putB, putC]
   refine wpF_p (hb := .inr hB) (i := 3) (oi := ⟨some 23, .move (.tmp 4), 27, "poly.go:96", #[], none⟩) (v := ?_) ?_ ?_
   rotate_left
   ·intro W; go_simp <;> with_reducible rfl
   try simp only [Act.put, putA, putB, putC]
   refine wpF_p (hb := .inr hB) (i := 4) (oi := ⟨some 24, .move (.tmp 5), 3, "poly.go:96", #[], none⟩) (v := ?_) ?_ ?_
   rotate_left
   ·intro W; go_simp <;> with_reducible rfl
   try simp only [Act.put, putA, putB, putC]
   refine wpF_p (hb := .inr hB) (i := 5) (oi := ⟨some 25, .indexAddr 115 (.tmp 1) (.tmp 24), 0, "poly.go:96", #[⟨4, .data⟩], none⟩) (v := ?_) ?_ ?_
   rotate_left
   ·intro W; go_simp <;> with_reducible rfl
   try simp only [Act.put, putA, putB, putC]
   refine wpF_t (hb := hB) (i := 6) (oi := ⟨some 26, .load 27 (.tmp 25), 27, "poly.go:96", #[⟨5, .data⟩], none⟩) (v := ?_) ?_ ?_
   rotate_left
   ·intro W hW; have hcW := cellK hca hW; go_simp <;> with_reducible rfl
   try simp only [Act.put, putA, putB, putC]
   refine wpF_p (hb := .inr hB) (i := 7) (oi := ⟨some 27, .move (.tmp 5), 3, "poly.go:96", #[], none⟩) (v := ?_) ?_ ?_
   rotate_left
   ·intro W; go_simp <;> with_reducible rfl
   try simp only [Act.put, putA, putB, putC]
   refine wpF_p (hb := .inr hB) (i := 8) (oi := ⟨some 28, .indexAddr 115 (.tmp 3) (.tmp 27), 0, "poly.go:96", #[⟨7, .data⟩], none⟩) (v := ?_) ?_ ?_
   rotate_left
   ·intro W; go_simp <;> with_reducible rfl
   try simp only [Act.put, putA, putB, putC]
   refine wpF_t (hb := hB) (i := 9) (oi := ⟨some 29, .load 27 (.tmp 28), 27, "poly.go:96", #[⟨8, .data⟩], none⟩) (v := ?_) ?_ ?_
   rotate_left
   ·intro W hW; have hcW := cellK hcx hW; go_simp <;> with_reducible rfl
   try simp only [Act.put, putA, putB, putC]
   refine wpF_p (hb := .inr hB) (i := 10) (oi := ⟨some 30, .binOp .xor 27 (.tmp 26) (.tmp 29) 27, 27, "poly.go:96", #[⟨6, .data⟩, ⟨9, .data⟩], none⟩) (v := ?_) ?_ ?_
   rotate_left
   ·intro W; go_simp <;> with_reducible rfl
   try simp only [Act.put, putA, putB, putC]
   refine wpF_p (hb := .inr hB) (i := 11) (oi := ⟨some 31, .binOp .and 27 (.tmp 23) (.tmp 30) 27, 27, "poly.go:96", #[⟨3, .data⟩, ⟨10, .data⟩], none⟩) (v := ?_) ?_ ?_
   rotate_left
   ·intro W; go_simp <;> with_reducible rfl
   try simp only [Act.put, putA, putB, putC]
   refine wpF_p (hb := .inr hB) (i := 12) (oi := ⟨some 32, .binOp .xor 27 (.tmp 22) (.tmp 31) 27, 27, "poly.go:96", #[⟨2, .data⟩, ⟨11, .data⟩], none⟩) (v := ?_) ?_ ?_
   rotate_left
   ·intro W; go_simp <;> with_reducible rfl
   try simp only [Act.put, putA, putB, putC]
   refine wpF_p (hb := .inr hB) (i := 13) (oi := ⟨some 33, .indexAddr 115 (.tmp 1) (.tmp 20), 0, "poly.go:96", #[⟨0, .data⟩, ⟨0, .phase⟩, ⟨1, .phase⟩, ⟨2, .phase⟩, ⟨3, .phase⟩, ⟨4, .phase⟩, ⟨5, .phase⟩, ⟨6, .phase⟩, ⟨7, .phase⟩, ⟨8, .phase⟩, ⟨9, .phase⟩, ⟨10, .phase⟩, ⟨11, .phase⟩, ⟨12, .phase⟩], none⟩) (v := ?_) ?_ ?_
   rotate_left
   ·intro W; go_simp <;> with_reducible rfl
   try simp only [Act.put, putA, putB, putC]
   refine wpF_do (i := 14) (o := ⟨none, .store 27 (.tmp 33) (.tmp 32), 0, "poly.go:96", #[⟨13, .data⟩, ⟨12, .data⟩, ⟨0, .phase⟩, ⟨1, .phase⟩, ⟨2, .phase⟩, ⟨3, .phase⟩, ⟨4, .phase⟩, ⟨5, .phase⟩, ⟨6, .phase⟩, ⟨7, .phase⟩, ⟨8, .phase⟩, ⟨9, .phase⟩, ⟨10, .phase⟩, ⟨11, .phase⟩, ⟨12, .phase⟩], none⟩) (by kernel_rfl) rfl (by rfl) fun K hK => ?_
   go_simp
   refine hK.out _ _ (.inl rfl) ?_
   clear hK K
   try simp only [Act.put, putA, putB, putC]
   refine wpF_done (by kernel_rfl) ?_
   obtain ⟨h1, h2, h3, h4⟩ := HR.out _ hB
   go_wp2
   go_roundw
   case rel => exact ⟨i + 1, by omega, by go_num, h1, h2, h3, h4⟩
   case measure => simp [intOf] <;> omega
  ·have hie : i = 3 := by omega
   have hd : decide ((i : Int) < 3) = false := decide_eq_false (by omega)
   have hiI : (3 : Int) ≤ (i : Int) := by omega
   rw [hie, mxL_full HY.out.1 HA.out.1] at ra
   clear hie
   go_wp2_with (first | refine wpList_load_row rfl 115 _ rfl rfl ra _ Tryz.underlying115 rfl (nmInfo HY.out) ?_ | (refine wpList_store_row rfl 115 _ _ rfl (nI Y) rfl rfl rz (by rw [z3_nm.len, HY.out.len]) (nmInfo z3_nm) ?_; intro w6 r6 hw6))
   refine bodyPost_row (p := 2) (ty := 115) rfl rfl rfl r6 Tryz.underlying115 rfl (nmInfo HY.out) ?_
   exact ⟨Y, rfl, HY.out, HYv.out, hw6.below _ _ (by omega) hbx⟩
def Ow (e : TypeId) (base : Nat) (v : Value) (l : List UInt8) (w : World) : Prop := w.ownsRow base e 1 v l.length (l.map bv)
theorem Ow.rd {e : TypeId} {base : Nat} {v : Value} {l : List UInt8} {w : World} (h : Ow e base v l w) : Rd w v l := Rd.of_row h
theorem Ow.of_new {e : TypeId} {v : Value} {l : List UInt8} {w w' : World} (h : New e w v l w') : Ow e w.heap.size v l w' := h.1
theorem Ow.mono {e : TypeId} {base base' : Nat} {v : Value} {l : List UInt8} {w : World} (h : Ow e base v l w) (hb : base' ≤ base) : Ow e base' v l w := own_mono h hb
theorem Ow.kept {e : TypeId} {base : Nat} {v : Value} {l : List UInt8} {w w' : World} (h : Ow e base v l w) (hb : Below w.heap.size w w') : Ow e base v l w' := own_chg h (Chg.of_below (S := fun _ => False) hb) (fun _ _ => id)
theorem Ow.nil (e : TypeId) (base : Nat) (w : World) : Ow e base (.slice none 0 0) [] w := World.ownsRow_nil _ _ _ _
theorem Ow.not_blk {e ty : TypeId} {base g : Nat} {v : Value} {l : List UInt8} {cs : List Value} {w : World} (h : Ow e base v l w) (hb : BlkAt g ty cs w) (hne : e ≠ ty) : v.ownBlock ≠ some g := by
 rcases h.2 with ⟨rfl, h0⟩ | ⟨g', cap, cur, rfl, hb', hg, hn, hm, hs, ht⟩
 ·simp [Value.ownBlock]
 ·intro h
  have h1 : g' = g := by simpa [Value.ownBlock] using h
  subst h1
  unfold BlkAt at hb
  rw [hg] at hb
  simp at hb
  exact hne hb.2
theorem Ow.chg {e ty : TypeId} {base g : Nat} {v : Value} {l : List UInt8} {cs : List Value} {w w' : World} (h : Ow e base v l w) (hb : BlkAt g ty cs w) (hne : e ≠ ty) (c : Chg (fun b => b = g) w w') : Ow e base v l w' :=
 own_chg h c fun b h1 h2 => h.not_blk hb hne (by rw [h1, h2])
theorem Ow.other {e : TypeId} {base g : Nat} {v : Value} {l : List UInt8} {w w' : World} (h : Ow e base v l w) (c : Chg (fun b => b = g) w w') (hg : v.ownBlock ≠ some g) : Ow e base v l w' :=
 own_chg h c fun b h1 h2 => hg (by rw [h1, h2])
theorem Ow.lt {e : TypeId} {base : Nat} {v : Value} {l : List UInt8} {w : World} (h : Ow e base v l w) {g : Nat} (hg : v.ownBlock = some g) : base ≤ g ∧ g < w.heap.size := World.ownsRow.lt h g hg
def No8 (cs : List Value) : Prop := ∀ (j : Nat) (x : Int), cs[j]? ≠ some (.int .u8 x)
theorem Rd.past16 {w w' : World} {v : Value} {l : List UInt8} {g : Nat} {ty : TypeId} {cs : List Value} (h : Rd w v l) (hb : BlkAt g ty cs w) (hn : No8 cs) (c : Chg (fun b => b = g) w w') : Rd w' v l := by
 obtain ⟨a, k, e1, h2, h3, h4, h5⟩ := h
 refine ⟨a, k, e1, h2, h3, h4, h5.imp id ?_⟩
 rintro ⟨b, off, e2, hc⟩
 refine ⟨b, off, e2, fun i hi => ?_⟩
 have h6 := hc i hi
 have hne : b ≠ g := by
  rintro rfl
  rw [hb.cell] at h6
  exact hn _ _ h6
 rw [World.cell?_of_block (w := w) (c.block b (World.block_lt_of_cell? _ _ h6) hne)]
 exact h6
theorem Chg.gone {g B : Nat} {a w w' : World} (h : Below B a w) (c : Chg (fun b => b = g) w w') (hB : B ≤ w.heap.size) (hg : B ≤ g) : Below B a w' := c.below h hB fun k _ e => by omega
theorem No8.of_slices {cs : List Value} (h : ∀ v ∈ cs, ∀ x, v ≠ .int .u8 x) : No8 cs := fun j x e => h _ (List.mem_of_getElem? e) x rfl
def ckD (vk : Value) (n : Nat) : List Value := [vk, .int .u64 (n : Int)]
def stD (vc vh vk : Value) (n : Nat) : List Value := [vc, vh, vk, .int .u64 (n : Int)]
theorem stD_no8 (a1 a2 a3 : Option Addr) (l1 c1 l2 c2 l3 c3 n : Nat) : No8 (stD (.slice a1 l1 c1) (.slice a2 l2 c2) (.slice a3 l3 c3) n) := No8.of_slices (by
 intro v hv x
 simp only [stD, List.mem_cons, List.not_mem_nil, or_false] at hv
 rcases hv with rfl | rfl | rfl | rfl <;> simp)
def inB (pre post : List Value) (vk : Value) (n : Nat) : List Value := pre ++ [vk, .int .u64 (n : Int)] ++ post
theorem set_mid (pre post : List Value) (a b c : Value) : (pre ++ [a, b] ++ post).set (pre.length + 1) c = pre ++ [a, c] ++ post := by
 rw [List.append_assoc, List.set_append_right _ _ (by omega), Nat.add_sub_cancel_left, List.append_assoc]
 rfl
theorem set_mid0 (pre post : List Value) (a b c : Value) : (pre ++ [a, b] ++ post).set pre.length c = pre ++ [c, b] ++ post := by
 rw [List.append_assoc, List.set_append_right _ _ (by omega), Nat.sub_self, List.append_assoc]
 rfl
theorem get_mid0 (pre post : List Value) (a b : Value) : (pre ++ [a, b] ++ post)[pre.length]? = some a := by
 rw [List.append_assoc, List.getElem?_append_right (Nat.le_refl _), Nat.sub_self]
 rfl
theorem get_mid1 (pre post : List Value) (a b : Value) : (pre ++ [a, b] ++ post)[pre.length + 1]? = some b := by
 rw [List.append_assoc, List.getElem?_append_right (by omega), Nat.add_sub_cancel_left]
 rfl
theorem inB_set (pre post : List Value) (vk : Value) (n m : Nat) : (inB pre post vk n).set (pre.length + 1) (.int .u64 (m : Int)) = inB pre post vk m := set_mid _ _ _ _ _
theorem inB_set0 (pre post : List Value) (vk v : Value) (n : Nat) : (inB pre post vk n).set pre.length v = inB pre post v n := set_mid0 _ _ _ _ _
theorem inB_get0 (pre post : List Value) (vk : Value) (n : Nat) : (inB pre post vk n)[pre.length]? = some vk := get_mid0 _ _ _ _
theorem inB_get1 (pre post : List Value) (vk : Value) (n : Nat) : (inB pre post vk n)[pre.length + 1]? = some (.int .u64 (n : Int)) := get_mid1 _ _ _ _
def KpT (w : World) : Prop := ∀ i, i < 16 → w.cell? ⟨1, i, none⟩ = some (.int .u8 ((kpL.getD i 0 : Nat) : Int))
theorem KpT.kept {w w' : World} (h : KpT w) (hb : Below w.heap.size w w') : KpT w' := fun i hi => by
 rw [hb.cell (p := ⟨1, i, none⟩) (World.block_lt_of_cell? w _ (h i hi))]
 exact h i hi
def mxB (x a : List UInt8) (i : Nat) : List UInt8 := x.take i ++ a.drop i
theorem mxB_zero (x a : List UInt8) : mxB x a 0 = a := by simp [mxB]
theorem mxB_full {x a : List UInt8} {n : Nat} (hx : x.length = n) (ha : a.length = n) : mxB x a n = x := by
 unfold mxB
 rw [List.take_of_length_le (by omega), List.drop_eq_nil_of_le (by omega), List.append_nil]
theorem mxB_set {x a : List UInt8} {n : Nat} (hx : x.length = n) (ha : a.length = n) (i : Nat) (hi : i < n) : (mxB x a i).set i (x.getD i 0) = mxB x a (i + 1) := by
 have h1 : (x.take i).length = i := by rw [List.length_take, hx]; omega
 have h2 : i < x.length := by omega
 have h3 : i < a.length := by omega
 unfold mxB
 rw [List.set_append_right _ _ (by omega), h1, Nat.sub_self, List.drop_eq_getElem_cons h3, List.set_cons_zero, List.take_succ_eq_append_getElem h2, List.append_assoc]
 simp [h2]
theorem mxB_len {x a : List UInt8} {n : Nat} (hx : x.length = n) (ha : a.length = n) (i : Nat) (hi : i ≤ n) : (mxB x a i).length = n := by
 unfold mxB
 rw [List.length_append, List.length_take, List.length_drop, hx, ha]
 omega
theorem Rd.cells {w : World} {v : Value} {l : List UInt8} (h : Rd w v l) (hl : 0 < l.length) : ∃ b off cap, v = .slice (some ⟨b, off, none⟩) l.length cap ∧ l.length ≤ cap ∧ cap ≤ maxLen ∧ ∀ i, i < l.length → w.cell? ⟨b, off + i, none⟩ = some (.int .u8 ((l.getD i 0).toNat : Int)) := by
 obtain ⟨a, cap, e, h2, h3, h4, h5⟩ := h
 rcases h5 with h5 | ⟨b, off, ha, hc⟩
 ·rw [h5] at hl
  simp at hl
 ·subst ha
  exact ⟨b, off, cap, e, h2, h3, hc⟩

set_option maxRecDepth 100000 in
set_option maxHeartbeats 2000000 in
theorem pclamp_any (vk : Value) (k : List UInt8) (w : World) (hT : KpT w) (hr : Rd w vk k) (hk32 : k.length = 32) :
  Calls Tryz.prog 92 #[vk] w fun e w' => ∃ r, e = .returned r ∧ New 5 w r (clP k) w' := by
 obtain ⟨ti, hti, hz0, hz1, hz2⟩ := info_parts info5
 obtain ⟨bk, ok, ck, rfl, hck, hmk, hcells⟩ := hr.cells (by omega)
 rw [hk32] at hck ⊢
 have HCells : Hid (∀ i, i < 16 → w.cell? ⟨bk, ok + i, none⟩ = some (.int .u8 ((k.getD i 0).toNat : Int))) := fun i hi => hcells i (by omega)
 have HT : Hid (KpT w) := hT
 unfold maxLen at hmk
 clear hr hk32 hT hcells
 have hcl : (clP k).length = 16 := clP_length k
 have HCl : Hid _ := hcl
 clear hcl
 go_enter Tryz.func92, Tryz.ntmps92
 go_wp2_with (at_make; go_must (refine wpList_make_full _ rfl _ _ 26 rfl w.heap.size 5 ti _ 1 Tryz.underlying26 hti hz0 hz1 _ _ _ _ 16 rfl rfl rfl rfl (by rw [hz2]; omega) (by unfold maxLen; omega) (Nat.le_refl _) ?_))
 intro w1 hown hgr
 have hN1 := New.made hown hgr
 rw [← mxB_zero (clP k) (List.replicate 16 0)] at hN1
 have hlR : (List.replicate 16 (0 : UInt8)).length = 16 := by simp
 have HlR : Hid _ := hlR
 generalize List.replicate 16 (0 : UInt8) = Z at hN1 HlR
 clear hown hgr hlR
 go_wp2
 go_loopw [9] (fun iv wx => ∃ i : Nat, i ≤ 16 ∧ iv = .int .i64 (i : Int) ∧ New 5 w (.slice (some ⟨w.heap.size, 0, none⟩) 16 16) (mxB (clP k) Z i) wx) (fun iv _ => 16 - (intOf iv).toNat)
 case atStart => exact ⟨0, by omega, rfl, hN1⟩
 case round =>
  obtain ⟨i, hi, rfl, hN⟩ := hrel
  clear hN1
  by_cases hlt : i < 16
  ·have hd : decide ((i : Int) < 16) = true := decide_eq_true (by omega)
   have hiI : (i : Int) < 16 := by omega
   have hiK : (i : Int) < 32 := by omega
   obtain ⟨g', c', ev, -, hcell, hfree, hset⟩ := hN.store (j := i) (by rw [mxB_len HCl.out HlR.out i hi]; exact hlt)
   simp only [Value.slice.injEq, Option.some.injEq, Addr.mk.injEq, and_true, true_and] at ev
   obtain ⟨rfl, -, rfl⟩ := ev
   have hck := cellK (HCells.out i hlt) hN.2
   have hct := (HT.out.kept hN.2) i hlt
   have hv : bits .and .u8 ((k.getD i 0).toNat : Int) ((kpL.getD i 0 : Nat) : Int) = (((clP k).getD i 0).toNat : Int) := by
    rw [u8_and_nat _ _ (k.getD i 0).toNat_lt (kp_lt i hlt), clP_get k i hlt]
   have HNx : Hid (∀ W : World, Below wr.heap.size wr W → New 5 w (.slice (some ⟨w.heap.size, 0, none⟩) 16 16) (mxB (clP k) Z (i + 1)) (W.setCell ⟨w.heap.size, i, none⟩ (.int .u8 (((clP k).getD i 0).toNat : Int)))) := by
    intro W hW
    obtain ⟨g2, c2, ev2, -, -, -, hset2⟩ := (hN.kept hW).store (j := i) (by rw [mxB_len HCl.out HlR.out i hi]; exact hlt)
    simp only [Value.slice.injEq, Option.some.injEq, Addr.mk.injEq, and_true, true_and] at ev2
    obtain ⟨rfl, -, rfl⟩ := ev2
    have := hset2 ((clP k).getD i 0)
    rw [mxB_set HCl.out HlR.out i hlt] at this
    exact this
   have hcell' := hcell
   generalize ((clP k).getD i 0).toNat = y at hv HNx
   generalize (k.getD i 0).toNat = p at hck hv
   generalize kpL.getD i 0 = q at hct hv
   clear hset hN
   go_wp2_with fail
   have hB : Below wr.heap.size wr wr.drew := (Below.refl _ _).drew
   refine wpF_begin 11 (w0 := wr) (by kernel_rfl) ?_
   refine wpF_p (hb := .inr hB) (i := 0) (oi := ⟨some 12, .move (.tmp 3), 26, "poly.go:125", #[], none⟩) (v := ?_) ?_ ?_
   rotate_left
   ·intro W; go_simp <;> with_reducible rfl
   try simp only [Act.put, putA, putB, putC]
   refine wpF_p (hb := .inr hB) (i := 1) (oi := ⟨some 13, .move (.tmp 4), 3, "poly.go:125", #[], none⟩) (v := ?_) ?_ ?_
   rotate_left
   ·intro W; go_simp <;> with_reducible rfl
   try simp only [Act.put, putA, putB, putC]
   refine wpF_p (hb := .inr hB) (i := 2) (oi := ⟨some 14, .move (.tmp 0), 26, "poly.go:125", #[], none⟩) (v := ?_) ?_ ?_
   rotate_left
   ·intro W; go_simp <;> with_reducible rfl
   try simp only [Act.put, putA, putB, putC]
   refine wpF_p (hb := .inr hB) (i := 3) (oi := ⟨some 15, .move (.tmp 4), 3, "poly.go:125", #[], none⟩) (v := ?_) ?_ ?_
   rotate_left
   ·intro W; go_simp <;> with_reducible rfl
   try simp only [Act.put, putA, putB, putC]
   refine wpF_p (hb := .inr hB) (i := 4) (oi := ⟨some 16, .indexAddr 26 (.tmp 14) (.tmp 15), 0, "poly.go:125", #[⟨2, .data⟩, ⟨3, .data⟩], none⟩) (v := ?_) ?_ ?_
   rotate_left
   ·intro W; go_simp <;> with_reducible rfl
   try simp only [Act.put, putA, putB, putC]
   refine wpF_t (hb := hB) (i := 5) (oi := ⟨some 17, .load 5 (.tmp 16), 5, "poly.go:125", #[⟨4, .data⟩], none⟩) (v := ?_) ?_ ?_
   rotate_left
   ·intro W hW; have hcW := cellK hck hW; go_simp <;> with_reducible rfl
   try simp only [Act.put, putA, putB, putC]
   refine wpF_p (hb := .inr hB) (i := 6) (oi := ⟨some 18, .move (.tmp 4), 3, "poly.go:125", #[], none⟩) (v := ?_) ?_ ?_
   rotate_left
   ·intro W; go_simp <;> with_reducible rfl
   try simp only [Act.put, putA, putB, putC]
   refine wpF_p (hb := .inr hB) (i := 7) (oi := ⟨some 19, .indexAddr 125 (.global 1) (.tmp 18), 0, "poly.go:125", #[⟨6, .data⟩], none⟩) (v := ?_) ?_ ?_
   rotate_left
   ·intro W; go_simp <;> with_reducible rfl
   try simp only [Act.put, putA, putB, putC]
   refine wpF_t (hb := hB) (i := 8) (oi := ⟨some 20, .load 5 (.tmp 19), 5, "poly.go:125", #[⟨7, .data⟩], none⟩) (v := ?_) ?_ ?_
   rotate_left
   ·intro W hW; have hcW := cellK hct hW; go_simp <;> with_reducible rfl
   try simp only [Act.put, putA, putB, putC]
   refine wpF_p (hb := .inr hB) (i := 9) (oi := ⟨some 21, .binOp .and 5 (.tmp 17) (.tmp 20) 5, 5, "poly.go:125", #[⟨5, .data⟩, ⟨8, .data⟩], none⟩) (v := ?_) ?_ ?_
   rotate_left
   ·intro W; go_simp <;> with_reducible rfl
   try simp only [Act.put, putA, putB, putC]
   refine wpF_p (hb := .inr hB) (i := 10) (oi := ⟨some 22, .indexAddr 26 (.tmp 12) (.tmp 13), 0, "poly.go:125", #[⟨0, .data⟩, ⟨1, .data⟩, ⟨0, .phase⟩, ⟨1, .phase⟩, ⟨2, .phase⟩, ⟨3, .phase⟩, ⟨4, .phase⟩, ⟨5, .phase⟩, ⟨6, .phase⟩, ⟨7, .phase⟩, ⟨8, .phase⟩, ⟨9, .phase⟩], none⟩) (v := ?_) ?_ ?_
   rotate_left
   ·intro W; go_simp <;> with_reducible rfl
   try simp only [Act.put, putA, putB, putC]
   refine wpF_do (i := 11) (o := ⟨none, .store 5 (.tmp 22) (.tmp 21), 0, "poly.go:125", #[⟨10, .data⟩, ⟨9, .data⟩, ⟨0, .phase⟩, ⟨1, .phase⟩, ⟨2, .phase⟩, ⟨3, .phase⟩, ⟨4, .phase⟩, ⟨5, .phase⟩, ⟨6, .phase⟩, ⟨7, .phase⟩, ⟨8, .phase⟩, ⟨9, .phase⟩], none⟩) (by kernel_rfl) rfl (by rfl) fun K hK => ?_
   go_simp
   refine hK.out _ _ (.inl rfl) ?_
   clear hK K
   try simp only [Act.put, putA, putB, putC]
   refine wpF_done (by kernel_rfl) ?_
   have hN2 := HNx.out _ hB
   go_wp2
   go_roundw
   case rel => exact ⟨i + 1, by omega, by go_num, hN2⟩
   case measure => simp [intOf] <;> omega
  ·have hie : i = 16 := by omega
   have hd : decide ((i : Int) < 16) = false := decide_eq_false (by omega)
   have hiI : (16 : Int) ≤ (i : Int) := by omega
   rw [hie, mxB_full HCl.out HlR.out] at hN
   clear hie
   go_wp2
   go_ret
   exact ⟨_, rfl, hN⟩
end Go.Proofs.YtdlmmcilembjgaaGreatDoor
