/- More of digits of 256: sums and products of numbers, opposites, powers, words of 64 bits, bytes: plain mathematics. No program's text is named. -/
import Derived.Test.YtonnngndknoljaaFMath
import Derived.Test.YtonnngndknoljaaLib
namespace Go.Proofs.Ytonnngndknoljaa
set_option linter.unusedSimpArgs false
set_option linter.unusedVariables false

/-- Some entries laid down, the others noughts. -/
def layF (f : Nat → Nat) (L i : Nat) : List Nat := (List.range i).map f ++ List.replicate (L - i) 0
theorem layF_zero (f : Nat → Nat) (L : Nat) : layF f L 0 = List.replicate L 0 := by simp [layF]
theorem layF_next (f : Nat → Nat) (L i : Nat) (h : i < L) : (layF f L i).set i (f i) = layF f L (i + 1) := by
  obtain ⟨k, hk⟩ : ∃ k, L - i = k + 1 := ⟨L - i - 1, by omega⟩
  unfold layF
  rw [List.set_append_right _ _ (by simp), List.length_map, List.length_range, Nat.sub_self, hk, List.replicate_succ, List.set_cons_zero, List.range_succ, List.map_append, List.append_assoc, show L - (i + 1) = k by omega]
  rfl
theorem layF_length (f : Nat → Nat) (L i : Nat) (h : i ≤ L) : (layF f L i).length = L := by
  simp [layF]
  omega
theorem layF_full (f : Nat → Nat) (L : Nat) : layF f L L = (List.range L).map f := by simp [layF]
theorem dv_map_add (f g : Nat → Nat) : ∀ n, dv ((List.range n).map fun j => f j + g j) = dv ((List.range n).map f) + dv ((List.range n).map g)
  | 0 => rfl
  | n + 1 => by
    have h := dv_map_add f g n
    simp only [List.range_succ, List.map_append, List.map_cons, List.map_nil, dv_snoc, List.length_map, List.length_range, h, Nat.mul_add]
    omega
theorem p_lt : pN < 256 ^ 32 := by decide
theorem rest_lt (x : Nat) : x % pN < 256 ^ 32 := Nat.lt_trans (Nat.mod_lt _ pN_pos) p_lt
theorem rest_dv (x : Nat) : dv (dgN (x % pN) 32) = x % pN := by rw [dv_dgN, Nat.mod_eq_of_lt (rest_lt x)]
theorem add_dv (x y : Nat) : dv ((List.range 32).map fun j => dg (x % pN) j + dg (y % pN) j) % pN = (x + y) % pN := by
  rw [dv_map_add]
  show (dv (dgN (x % pN) 32) + dv (dgN (y % pN) 32)) % pN = _
  rw [rest_dv, rest_dv, ← Nat.add_mod]
/-! ### Opposites -/
theorem p_digit : ∀ i, i < 32 → dg pN i = if i = 0 then 237 else if i = 31 then 127 else 255 := by decide +kernel
theorem neg_step (x i c c' y d a : Nat) (hy : y + dg x i + c = dg pN i + 256 * c') (h : d + x % 256 ^ i = pN % 256 ^ i + c * 256 ^ i) (ha : a = d + 256 ^ i * y) : a + x % 256 ^ (i + 1) = pN % 256 ^ (i + 1) + c' * 256 ^ (i + 1) := by
  rw [mod_succ, mod_succ, Nat.pow_succ, ha]
  have h2 : 256 ^ i * (y + dg x i + c) = 256 ^ i * (dg pN i + 256 * c') := by rw [hy]
  rw [Nat.mul_add, Nat.mul_add, Nat.mul_add] at h2
  have e1 : 256 ^ i * c = c * 256 ^ i := Nat.mul_comm _ _
  have e2 : 256 ^ i * (256 * c') = c' * (256 ^ i * 256) := by rw [Nat.mul_comm, Nat.mul_comm 256 c', Nat.mul_assoc, Nat.mul_comm 256]
  generalize 256 ^ i * y = Y at *
  generalize 256 ^ i * dg x i = X at *
  generalize 256 ^ i * dg pN i = Z at *
  generalize c' * (256 ^ i * 256) = T at *
  omega
theorem neg_end (x d c : Nat) (hx : x < pN) (hd : d < 256 ^ 32) (h : d + x % 256 ^ 32 = pN % 256 ^ 32 + c * 256 ^ 32) : d = pN - x := by
  rw [Nat.mod_eq_of_lt (Nat.lt_trans hx p_lt), Nat.mod_eq_of_lt p_lt] at h
  rcases Nat.eq_zero_or_pos c with rfl | hc
  · omega
  · have : 1 * 256 ^ 32 ≤ c * 256 ^ 32 := Nat.mul_le_mul_right _ hc
    omega
/-! ### Products -/
theorem mul_step (x y i j z d : Nat) (h : d = x % 256 ^ i * y + 256 ^ i * dg x i * (y % 256 ^ j)) : d + 256 ^ (i + j) * (dg x i * dg y j) = x % 256 ^ i * y + 256 ^ i * dg x i * (y % 256 ^ (j + 1)) := by
  rw [h, mod_succ, Nat.mul_add, Nat.pow_add, Nat.add_assoc]
  congr 2
  rw [Nat.mul_mul_mul_comm]
theorem mul_row (x y i d : Nat) (hy : y < 256 ^ 32) (h : d = x % 256 ^ i * y + 256 ^ i * dg x i * (y % 256 ^ 32)) : d = x % 256 ^ (i + 1) * y := by
  rw [h, Nat.mod_eq_of_lt hy, mod_succ, Nat.add_mul]
/-! ### The power that inverts -/
def exN : Nat := 57896044618658097711785492504343953926634992332820282019728792003956564819947
theorem ex_bits : ∀ i, i < 255 → exN / 2 ^ i = 2 * (exN / 2 ^ (i + 1)) + (if i = 2 ∨ i = 4 then 0 else 1) := by decide +kernel
theorem ex_top : exN / 2 ^ 255 = 0 := by decide +kernel
theorem pow_step (x i : Nat) (hi : i < 255) : (if i = 2 ∨ i = 4 then (x ^ (exN / 2 ^ (i + 1)) * x ^ (exN / 2 ^ (i + 1))) else (x ^ (exN / 2 ^ (i + 1)) * x ^ (exN / 2 ^ (i + 1)) * x)) = x ^ (exN / 2 ^ i) := by
  rw [ex_bits i hi]
  generalize exN / 2 ^ (i + 1) = q
  split
  · rw [Nat.add_zero, Nat.two_mul, Nat.pow_add]
  · rw [Nat.pow_succ, Nat.two_mul, Nat.pow_add]
/-! ### Words of 64 bits, and bytes -/
def wv : List Nat → Nat
  | [] => 0
  | x :: l => x + 18446744073709551616 * wv l
theorem wv_lt : ∀ l : List Nat, (∀ x ∈ l, x < 18446744073709551616) → wv l < 18446744073709551616 ^ l.length
  | [], _ => by simp [wv]
  | y :: l, h => by
    have h1 := wv_lt l fun x hx => h x (List.mem_cons_of_mem _ hx)
    have h2 := h y (List.mem_cons_self ..)
    simp only [wv, List.length_cons, Nat.pow_succ]
    omega
theorem wv_div : ∀ (l : List Nat) (i : Nat), (∀ x ∈ l, x < 18446744073709551616) → i ≤ l.length → wv l / 18446744073709551616 ^ i = wv (l.drop i)
  | l, 0, _, _ => by simp
  | [], i + 1, _, h => by simp at h
  | y :: l, i + 1, hl, h => by
    have h1 := wv_div l i (fun x hx => hl x (List.mem_cons_of_mem _ hx)) (by simpa using h)
    have h2 := hl y (List.mem_cons_self ..)
    rw [List.drop_succ_cons, ← h1, Nat.pow_succ, Nat.mul_comm, ← Nat.div_div_eq_div_mul]
    congr 1
    simp only [wv]
    omega
theorem word_digit (l : List Nat) (i k : Nat) (hl : ∀ x ∈ l, x < 18446744073709551616) (hi : i < l.length) (hk : k < 8) : dg (wv l) (8 * i + k) = l.getD i 0 / 256 ^ k % 256 := by
  unfold dg
  have e1 : (256 : Nat) ^ (8 * i + k) = 18446744073709551616 ^ i * 256 ^ k := by rw [Nat.pow_add, Nat.pow_mul]
  rw [e1, ← Nat.div_div_eq_div_mul, wv_div l i hl (by omega), List.drop_eq_getElem_cons hi]
  have e2 : l.getD i 0 = l[i] := by simp [hi]
  rw [e2]
  simp only [wv]
  generalize wv (List.drop (i + 1) l) = t
  generalize l[i] = x
  have h256 : ∀ k, k < 8 → (x + 18446744073709551616 * t) / 256 ^ k % 256 = x / 256 ^ k % 256 := by
    intro k hk
    obtain ⟨m, hm⟩ : ∃ m, (18446744073709551616 : Nat) = 256 ^ k * (256 * m) := by
      refine ⟨256 ^ (7 - k), ?_⟩
      rw [show 256 * 256 ^ (7 - k) = 256 ^ (8 - k) by rw [show 8 - k = (7 - k) + 1 by omega, Nat.pow_succ, Nat.mul_comm], ← Nat.pow_add, show k + (8 - k) = 8 by omega]
    rw [hm, Nat.mul_assoc, Nat.add_mul_div_left _ _ (Nat.pow_pos (by decide)), Nat.mul_assoc, Nat.add_mul_mod_self_left]
  exact h256 k hk
theorem words_lt (l : List Nat) (hl : ∀ x ∈ l, x < 18446744073709551616) (h4 : l.length = 4) : wv l < 256 ^ 32 := by
  have := wv_lt l hl
  rw [h4] at this
  have e : (18446744073709551616 : Nat) ^ 4 = 256 ^ 32 := by decide
  omega
theorem dv_bytes : ∀ b : List UInt8, dv (b.map (·.toNat)) = leN b
  | [] => rfl
  | x :: b => by simp only [List.map_cons, dv, dv_bytes b, leN]
/-- The number that bytes are decoded to. -/
def decN (b : List UInt8) : Nat := leN (b.take 32) % 57896044618658097711785492504343953926634992332820282019728792003956564819968
theorem dv_getD (b : List UInt8) : dv ((List.range 32).map fun j => (b.getD j 0).toNat) = leN (b.take 32) := by
  rw [← dv_bytes]
  by_cases h : 32 ≤ b.length
  · congr 1
    refine List.ext_getElem (by simp; omega) fun i h1 h2 => ?_
    have : i < b.length := by simp at h1; omega
    simp [this]
  · have e : ((List.range 32).map fun j => (b.getD j 0).toNat) = (b.take 32).map (·.toNat) ++ List.replicate (32 - b.length) 0 := by
      refine List.ext_getElem (by simp; omega) fun i h1 h2 => ?_
      simp only [List.getElem_map, List.getElem_range, List.getElem_append, List.length_map, List.length_take]
      split
      · have : i < b.length := by omega
        simp [this]
      · have : b.length ≤ i := by omega
        simp [this]
    rw [e, dv_append, dv_zeros, Nat.mul_zero, Nat.add_zero]
/-- The bytes of a number's rest. -/
def enL (x : Nat) : List UInt8 := (List.range 32).map (stB (x % pN))
theorem enL_length (x : Nat) : (enL x).length = 32 := by simp [enL]
theorem stB_dg (x i : Nat) : IntKind.u8.wrap ((dg x i : Nat) : Int) = ((stB x i).toNat : Int) := by
  rw [IntKind.wrap_u8]
  unfold dg stB
  rw [UInt8.toNat_ofNat']
  omega
theorem enL_inj {x y : Nat} (h : enL x = enL y) : x % pN = y % pN := by
  have h1 : leN (enL x) = leN (enL y) := by rw [h]
  unfold enL at h1
  rw [leN_stB, leN_stB, Nat.mod_eq_of_lt (rest_lt x), Nat.mod_eq_of_lt (rest_lt y)] at h1
  exact h1
end Go.Proofs.Ytonnngndknoljaa
