/- Bytes taken in block by block and lane by lane: plain mathematics. No program's text is named. -/
import Derived.Test.YtkoecgoajbgkgaaDoorSMath
namespace Go.Proofs.YtkoecgoajbgkgaaDoor
set_option linter.unusedSimpArgs false
set_option linter.unusedVariables false

/-! ### Laid over one another, lane by lane -/
theorem leN_xor : ∀ (a b : List UInt8), a.length = b.length → leN (List.zipWith (· ^^^ ·) a b) = leN a ^^^ leN b
  | [], [], _ => rfl
  | x :: a, y :: b, h => by
    have ih := leN_xor a b (by simpa using h)
    have e : ∀ (u : UInt8) (n : Nat), u.toNat + 256 * n = 2 ^ 8 * n ||| u.toNat := fun u n => by
      rw [← Nat.two_pow_add_eq_or_of_lt (show u.toNat < 2 ^ 8 from u.toNat_lt)]
      omega
    show (x ^^^ y).toNat + 256 * leN (List.zipWith (· ^^^ ·) a b) = (x.toNat + 256 * leN a) ^^^ (y.toNat + 256 * leN b)
    rw [ih, e, e, e]
    apply Nat.eq_of_testBit_eq
    intro i
    simp only [Nat.testBit_or, Nat.testBit_xor, Nat.testBit_two_pow_mul, UInt8.toNat_xor]
    by_cases hi : 8 ≤ i
    · have h8 : ∀ u : UInt8, u.toNat.testBit i = false := fun u => Nat.testBit_lt_two_pow (Nat.lt_of_lt_of_le u.toNat_lt (Nat.pow_le_pow_right (by decide) hi))
      simp [hi, h8]
    · simp [hi]
  | [], _ :: _, h => by simp at h
  | _ :: _, [], h => by simp at h
theorem leN_cons (x : UInt8) (l : List UInt8) : leN (x :: l) = x.toNat + 256 * leN l := rfl
/-- Lane j of the first r bytes of a block. -/
def xbl (blk : Nat → UInt8) (r j : Nat) : Nat := leN ((List.range 8).map fun t => if 8 * j + t < r then blk (8 * j + t) else 0)
theorem xbl_lt (blk : Nat → UInt8) (r j : Nat) : xbl blk r j < 18446744073709551616 := by
  have h := leN_lt ((List.range 8).map fun t => if 8 * j + t < r then blk (8 * j + t) else 0)
  have e : (256 : Nat) ^ ((List.range 8).map fun t => if 8 * j + t < r then blk (8 * j + t) else 0).length = 18446744073709551616 := by
    rw [List.length_map, List.length_range]
  rw [e] at h
  exact h
theorem xbl_congr {b1 b2 : Nat → UInt8} (r j : Nat) (h : ∀ k, k < r → b1 k = b2 k) : xbl b1 r j = xbl b2 r j := by
  unfold xbl
  congr 1
  refine List.map_congr_left fun t _ => ?_
  by_cases e : 8 * j + t < r
  · rw [if_pos e, if_pos e, h _ e]
  · rw [if_neg e, if_neg e]
theorem stF_xor (f : Nat → Nat) (hf : ∀ i, f i < 18446744073709551616) (p : List UInt8) (i r j : Nat) (hj : j < 25) :
    stF (xhP (bsP f 200) p i r) j = f j ^^^ xbl (fun k => p.getD (i + k) 0) r j := by
  have e1 : ((xhP (bsP f 200) p i r).drop (8 * j)).take 8 = List.zipWith (· ^^^ ·) ((List.range 8).map (stB (f j))) ((List.range 8).map fun t => if 8 * j + t < r then p.getD (i + (8 * j + t)) 0 else 0) := by
    refine List.ext_getElem (by simp [xhP_length]; omega) fun t h1 h2 => ?_
    have ht : t < 8 := by simp at h1; omega
    have hk : 8 * j + t < 200 := by omega
    have e2 : byF f (8 * j + t) = stB (f j) t := by
      unfold byF
      rw [show (8 * j + t) / 8 = j by omega, show (8 * j + t) % 8 = t by omega]
    simp only [List.getElem_take, List.getElem_drop, xhP, List.getElem_map, List.getElem_range, List.getElem_zipWith]
    rw [bsP_get f 200 _ hk, e2]
    split
    · rfl
    · simp
  unfold stF
  have h8 : f j < 256 ^ 8 := hf j
  rw [e1, leN_xor _ _ (by simp), leN_stB, Nat.mod_eq_of_lt h8]
  rfl

/-! ### The blocks of padded bytes -/
/-- Byte k of the last block. -/
def lasB (r : Nat) (s : UInt8) (l : List UInt8) (k : Nat) : UInt8 :=
  (if k < l.length % r then l.getD (l.length / r * r + k) 0 else if k = l.length % r then s else 0) ^^^ (if k = r - 1 then 128 else 0)
theorem zN_eq (r n : Nat) (hr : 0 < r) : zN r n = r - 1 - n % r := by
  unfold zN
  have h1 : n % r < r := Nat.mod_lt _ hr
  have h2 := Nat.div_add_mod n r
  have h3 : n + 1 = r * (n / r) + (n % r + 1) := by omega
  rw [h3, Nat.mul_add_mod]
  by_cases h : n % r + 1 = r
  · rw [h, Nat.mod_self, Nat.sub_zero, Nat.mod_self]
    omega
  · rw [Nat.mod_eq_of_lt (by omega : n % r + 1 < r), Nat.mod_eq_of_lt (by omega)]
    omega
theorem blN_eq (r : Nat) (l : List UInt8) (hr : 0 < r) : blN r l = l.length / r + 1 := by
  unfold blN
  rw [zN_eq r _ hr]
  have h1 : l.length % r < r := Nat.mod_lt _ hr
  have h2 := Nat.div_add_mod l.length r
  have h3 : l.length + 1 + (r - 1 - l.length % r) = r * (l.length / r + 1) := by rw [Nat.mul_add, Nat.mul_one]; omega
  rw [h3, Nat.mul_div_cancel_left _ hr]
theorem pdP_get (s : UInt8) (l : List UInt8) (z k : Nat) : (pdP s l z).getD k 0 = if k < l.length then l.getD k 0 else if k = l.length then s else 0 := by
  unfold pdP
  by_cases h : k < l.length
  · rw [if_pos h]
    simp [List.getElem?_append, h, show k < l.length + 1 by omega]
  · rw [if_neg h]
    by_cases h2 : k = l.length
    · subst h2
      simp [List.getElem?_append]
    · rw [if_neg h2]
      have h3 : ¬ k < l.length + 1 := by omega
      obtain ⟨d, hd⟩ : ∃ d, k - l.length = d + 1 := ⟨k - l.length - 1, by omega⟩
      by_cases h4 : d < z
      · simp [List.getElem?_append, h, hd, List.getElem?_replicate, h4]
      · simp [List.getElem?_append, h, hd, List.getElem?_replicate, h4]
theorem padL_get (r : Nat) (s : UInt8) (l : List UInt8) (k : Nat) (hk : k < l.length + 1 + zN r l.length) :
    (padL r s l).getD k 0 = (if k < l.length then l.getD k 0 else if k = l.length then s else 0) ^^^ (if k = l.length + zN r l.length then 128 else 0) := by
  unfold padL
  rw [← pdP_get s l (zN r l.length)]
  have hlen := pdP_length s l (zN r l.length)
  by_cases e : k = l.length + zN r l.length
  · rw [if_pos e, ← e]
    have h1 : k < (pdP s l (zN r l.length)).length := by omega
    simp [List.getElem?_set, h1]
  · rw [if_neg e]
    simp [List.getElem?_set, Ne.symm e]
theorem pad_full (r : Nat) (s : UInt8) (l : List UInt8) (hr : 0 < r) (b k : Nat) (hb : b < l.length / r) (hk : k < r) : (padL r s l).getD (b * r + k) 0 = l.getD (b * r + k) 0 := by
  have h1 : (b + 1) * r ≤ l.length / r * r := Nat.mul_le_mul_right r hb
  have h2 := Nat.div_mul_le_self l.length r
  rw [Nat.add_mul, Nat.one_mul] at h1
  rw [padL_get r s l _ (by omega), if_pos (by omega), if_neg (by omega)]
  simp
theorem pad_last (r : Nat) (s : UInt8) (l : List UInt8) (hr : 0 < r) (k : Nat) (hk : k < r) : (padL r s l).getD (l.length / r * r + k) 0 = lasB r s l k := by
  have h0 := Nat.div_add_mod l.length r
  rw [Nat.mul_comm] at h0
  have h1 : l.length % r < r := Nat.mod_lt _ hr
  have hz := zN_eq r l.length hr
  rw [padL_get r s l _ (by omega)]
  unfold lasB
  have c1 : (l.length / r * r + k < l.length) ↔ k < l.length % r := by omega
  have c2 : (l.length / r * r + k = l.length) ↔ k = l.length % r := by omega
  have c3 : (l.length / r * r + k = l.length + zN r l.length) ↔ k = r - 1 := by omega
  simp only [c1, c2, c3]
/-- One block taken in. -/
def tkF (f : Nat → Nat) (blk : Nat → UInt8) (r : Nat) : Nat → Nat := rdsF (fun j => f j ^^^ xbl blk r j) 24
theorem abN_tk (r : Nat) (p : List UInt8) (b : Nat) (k : Nat) (hk : k < 25) : abN r p (b + 1) k = tkF (abN r p b) (fun t => p.getD (b * r + t) 0) r k := by
  show rdsF (stF (xhP (bsP (abN r p b) 200) p (b * r) r)) 24 k = _
  have hlt : ∀ b k, abN r p b k < 18446744073709551616 := by
    intro b
    cases b with
    | zero => intro k; simp [abN]
    | succ b => intro k; exact rdsF_lt _ (stF_lt _) 24 k
  exact rdsF_congr (fun j hj => stF_xor _ (hlt b) p (b * r) r j hj) 24 k hk
theorem tkF_congr {f g : Nat → Nat} {b1 b2 : Nat → UInt8} (r : Nat) (h : ∀ j, j < 25 → f j = g j) (hb : ∀ k, k < r → b1 k = b2 k) (k : Nat) (hk : k < 25) : tkF f b1 r k = tkF g b2 r k :=
  rdsF_congr (fun j hj => by rw [h j hj, xbl_congr r j hb]) 24 k hk
/-- The whole blocks of the bytes themselves, taken in. -/
def fuN (r : Nat) (l : List UInt8) : Nat → Nat → Nat
  | 0 => fun _ => 0
  | b + 1 => tkF (fuN r l b) (fun t => l.getD (b * r + t) 0) r
theorem fuN_eq (r : Nat) (s : UInt8) (l : List UInt8) (hr : 0 < r) : ∀ b, b ≤ l.length / r → ∀ k, k < 25 → abN r (padL r s l) b k = fuN r l b k
  | 0, _, _, _ => rfl
  | b + 1, hb, k, hk => (abN_tk r _ b k hk).trans (tkF_congr r (fuN_eq r s l hr b (by omega)) (fun t ht => pad_full r s l hr b t (by omega) ht) k hk)
/-- All blocks: the whole ones, then the last. -/
theorem abs_eq (r : Nat) (s : UInt8) (l : List UInt8) (hr : 0 < r) (k : Nat) (hk : k < 25) : abN r (padL r s l) (blN r l) k = tkF (fuN r l (l.length / r)) (lasB r s l) r k := by
  rw [blN_eq r l hr]
  exact (abN_tk r _ _ k hk).trans (tkF_congr r (fuN_eq r s l hr _ (Nat.le_refl _)) (fun t ht => pad_last r s l hr t ht) k hk)
theorem fuN_lt (r : Nat) (l : List UInt8) : ∀ b k, fuN r l b k < 18446744073709551616
  | 0, _ => by simp [fuN]
  | b + 1, k => rdsF_lt _ (fun j => xor_lt64 (fuN_lt r l b j) (xbl_lt _ _ _)) 24 k

/-! ### Read in pieces -/
theorem otL_split (f : Nat → Nat) (r a b : Nat) : otL f r (a + b) = otL f r a ++ (List.range b).map (fun k => smF f r (a + k)) := by
  unfold otL
  rw [List.range_add, List.map_append, List.map_map]
  rfl
end Go.Proofs.YtkoecgoajbgkgaaDoor
