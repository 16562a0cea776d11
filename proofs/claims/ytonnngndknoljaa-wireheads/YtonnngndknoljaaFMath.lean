/- Numbers as digits of 256, the lowest first, and rests by 2^255 - 19: plain mathematics. No program's text is named. -/
import Derived.Test.YtonnngndknoljaaLibI
namespace Go.Proofs.Ytonnngndknoljaa
set_option linter.unusedSimpArgs false
set_option linter.unusedVariables false

/-- The prime 2^255 - 19. -/
def pN : Nat := 57896044618658097711785492504343953926634992332820282019728792003956564819949
theorem pN_val : pN = 57896044618658097711785492504343953926634992332820282019728792003956564819949 := rfl
theorem pN_pos : 0 < pN := by decide
/-- What digits stand for. -/
def dv : List Nat → Nat
  | [] => 0
  | x :: l => x + 256 * dv l
theorem dv_snoc : ∀ (l : List Nat) (x : Nat), dv (l ++ [x]) = dv l + 256 ^ l.length * x
  | [], x => by simp [dv]
  | y :: l, x => by
    have := dv_snoc l x
    simp only [List.cons_append, dv, this, List.length_cons, Nat.pow_succ]
    rw [Nat.mul_add, ← Nat.mul_assoc, Nat.mul_comm 256 (256 ^ l.length)]
    omega
theorem dv_append : ∀ (l m : List Nat), dv (l ++ m) = dv l + 256 ^ l.length * dv m
  | [], m => by simp [dv]
  | y :: l, m => by
    have := dv_append l m
    simp only [List.cons_append, dv, this, List.length_cons, Nat.pow_succ]
    rw [Nat.mul_add, ← Nat.mul_assoc, Nat.mul_comm 256 (256 ^ l.length)]
    omega
theorem dv_zeros : ∀ n, dv (List.replicate n 0) = 0
  | 0 => rfl
  | n + 1 => by simp [List.replicate_succ, dv, dv_zeros n]
theorem dv_take_succ (l : List Nat) (i : Nat) (h : i < l.length) : dv (l.take (i + 1)) = dv (l.take i) + 256 ^ i * l.getD i 0 := by
  rw [List.take_succ_eq_append_getElem h, dv_snoc, List.length_take, Nat.min_eq_left (by omega)]
  simp [h]
theorem dv_set : ∀ (l : List Nat) (k z : Nat), k < l.length → dv (l.set k (l.getD k 0 + z)) = dv l + 256 ^ k * z
  | [], k, z, h => by simp at h
  | y :: l, 0, z, h => by simp [dv]; omega
  | y :: l, k + 1, z, h => by
    have := dv_set l k z (by simpa using h)
    simp only [List.set_cons_succ, dv, List.getD_cons_succ, this, Nat.pow_succ]
    rw [Nat.mul_add, ← Nat.mul_assoc, Nat.mul_comm 256 (256 ^ k)]
    omega
theorem dv_lt : ∀ (l : List Nat), (∀ x ∈ l, x < 256) → dv l < 256 ^ l.length
  | [], _ => by simp [dv]
  | y :: l, h => by
    have h1 := dv_lt l fun x hx => h x (List.mem_cons_of_mem _ hx)
    have h2 := h y (List.mem_cons_self ..)
    simp only [dv, List.length_cons, Nat.pow_succ]
    omega
/-- With great digits too. -/
theorem dv_le' (B : Nat) : ∀ (l : List Nat), (∀ x ∈ l, x ≤ B) → 255 * dv l + B ≤ B * 256 ^ l.length
  | [], _ => by simp [dv]
  | y :: l, h => by
    have h1 := dv_le' B l fun x hx => h x (List.mem_cons_of_mem _ hx)
    have h2 := h y (List.mem_cons_self ..)
    have e : B * (256 ^ l.length * 256) = B * 256 ^ l.length * 256 := by rw [Nat.mul_assoc]
    simp only [dv, List.length_cons, Nat.pow_succ]
    rw [e]
    omega
theorem dv_le (B : Nat) (l : List Nat) (h : ∀ x ∈ l, x ≤ B) : dv l ≤ B * 256 ^ l.length := by
  have := dv_le' B l h
  omega
/-- A number's digit, its digits. -/
def dg (x i : Nat) : Nat := x / 256 ^ i % 256
def dgN (x n : Nat) : List Nat := (List.range n).map (dg x)
theorem dg_lt (x i : Nat) : dg x i < 256 := Nat.mod_lt _ (by decide)
theorem dgN_length (x n : Nat) : (dgN x n).length = n := by simp [dgN]
theorem dgN_get (x n i : Nat) (h : i < n) : (dgN x n).getD i 0 = dg x i := by simp [dgN, h]
theorem dgN_next (x n : Nat) : dgN x n ++ [dg x n] = dgN x (n + 1) := by
  unfold dgN
  rw [List.range_succ, List.map_append]
  rfl
theorem dgN_lt (x n : Nat) : ∀ y ∈ dgN x n, y < 256 := by
  intro y hy
  obtain ⟨i, -, rfl⟩ := List.mem_map.1 hy
  exact dg_lt x i
theorem mod_succ (x i : Nat) : x % 256 ^ (i + 1) = x % 256 ^ i + 256 ^ i * dg x i := by
  rw [Nat.pow_succ, Nat.mod_mul]
  rfl
theorem dv_dgN (x : Nat) : ∀ n, dv (dgN x n) = x % 256 ^ n
  | 0 => by simp [dgN, dv, Nat.mod_one]
  | n + 1 => by rw [← dgN_next, dv_snoc, dgN_length, dv_dgN x n, mod_succ]
theorem dgN_congr (x y n : Nat) (h : x % 256 ^ n = y % 256 ^ n) : dgN x n = dgN y n := by
  unfold dgN
  refine List.map_congr_left fun i hi => ?_
  have hi := List.mem_range.1 hi
  have e : ∀ z, dg (z % 256 ^ n) i = dg z i := fun z => by
    unfold dg
    obtain ⟨k, rfl⟩ : ∃ k, n = i + 1 + k := ⟨n - (i + 1), by omega⟩
    rw [Nat.pow_add, Nat.pow_add, Nat.pow_one, Nat.mul_assoc, Nat.mod_mul, Nat.mod_mul, Nat.add_mul_div_left _ _ (Nat.pow_pos (by decide)), Nat.div_eq_of_lt (Nat.mod_lt _ (Nat.pow_pos (by decide))), Nat.zero_add, Nat.add_mul_mod_self_left, Nat.mod_mod]
  rw [← e x, ← e y, h]
theorem dgN_small (x : Nat) {n m : Nat} (h : n ≤ m) (hx : x < 256 ^ n) : dgN x m = dgN x n ++ List.replicate (m - n) 0 := by
  obtain ⟨k, rfl⟩ : ∃ k, m = n + k := ⟨m - n, by omega⟩
  rw [Nat.add_sub_cancel_left]
  clear h
  induction k with
  | zero => simp
  | succ k ih =>
    have h0 : dg x (n + k) = 0 := by
      unfold dg
      rw [Nat.div_eq_of_lt (Nat.lt_of_lt_of_le hx (Nat.pow_le_pow_right (by decide) (by omega)))]
    rw [← Nat.add_assoc, ← dgN_next, ih, h0, List.replicate_succ', List.append_assoc]
/-- A step of carrying. -/
theorem carry_step (s a c i : Nat) (hc : c = s / 256 ^ i) : (s + 256 ^ i * a) / 256 ^ (i + 1) = (c + a) / 256 ∧ dg (s + 256 ^ i * a) i = (c + a) % 256 ∧ dgN (s + 256 ^ i * a) i = dgN s i := by
  have hp : 0 < 256 ^ i := Nat.pow_pos (by decide)
  have e : (s + 256 ^ i * a) / 256 ^ i = c + a := by rw [Nat.add_mul_div_left _ _ hp, hc]
  refine ⟨?_, ?_, dgN_congr _ _ _ (by rw [Nat.add_mul_mod_self_left])⟩
  · rw [Nat.pow_succ, ← Nat.div_div_eq_div_mul, e]
  · unfold dg
    rw [e]
/-- Numbers as the program's. -/
def nI (l : List Nat) : List Int := l.map fun x : Nat => (x : Int)
theorem nI_length (l : List Nat) : (nI l).length = l.length := by simp [nI]
theorem nI_get (l : List Nat) (i : Nat) : (nI l).getD i 0 = ((l.getD i 0 : Nat) : Int) := by
  simp only [nI, List.getD_eq_getElem?_getD, List.getElem?_map]
  cases l[i]? <;> simp
theorem nI_set (l : List Nat) (i x : Nat) : (nI l).set i (x : Int) = nI (l.set i x) := by simp [nI, List.map_set]
theorem nI_append (l m : List Nat) : nI l ++ nI m = nI (l ++ m) := by simp [nI]
theorem nI_ne {l : List Nat} (h : l ≠ []) : nI l ≠ [] := by simpa [nI] using h
theorem nI_zeros (n : Nat) : nI (List.replicate n 0) = List.replicate n 0 := by simp [nI]
theorem nI_take (l : List Nat) (n : Nat) : (nI l).take n = nI (l.take n) := by simp [nI]
theorem getD_le {l : List Nat} {B : Nat} (h : ∀ x ∈ l, x ≤ B) (i : Nat) : l.getD i 0 ≤ B := by
  simp only [List.getD_eq_getElem?_getD]
  cases e : l[i]? with
  | none => simp
  | some x => exact h x (List.mem_of_getElem? e)
theorem pow256_lt {i j x : Nat} (h1 : 256 ^ i ≤ x) (h2 : x < 256 ^ j) : i < j := (Nat.pow_lt_pow_iff_right (by decide)).1 (Nat.lt_of_le_of_lt h1 h2)
/-- The canonical digits of a number's rest. -/
def fdL (x : Nat) : List Int := nI (dgN (x % pN) 32)
theorem fdL_length (x : Nat) : (fdL x).length = 32 := by simp [fdL, nI_length, dgN_length]

/-! ### Rests -/
/-- What stands above 2^255 counts 19 times. -/
def foldN (x : Nat) : Nat := x % 57896044618658097711785492504343953926634992332820282019728792003956564819968 + 19 * (x / 57896044618658097711785492504343953926634992332820282019728792003956564819968)
theorem foldN_mod (x : Nat) : foldN x % pN = x % pN := by
  unfold foldN
  have h := Nat.div_add_mod x 57896044618658097711785492504343953926634992332820282019728792003956564819968
  generalize x % 57896044618658097711785492504343953926634992332820282019728792003956564819968 = r at h ⊢
  generalize x / 57896044618658097711785492504343953926634992332820282019728792003956564819968 = q at h ⊢
  rw [← h]
  rw [show 57896044618658097711785492504343953926634992332820282019728792003956564819968 * q + r = (r + 19 * q) + pN * q by rw [pN_val]; omega, Nat.add_mul_mod_self_left]
theorem foldN_lt (x : Nat) (h : 57896044618658097711785492504343953926634992332820282019728792003956564819968 ≤ x) : foldN x < x := by
  unfold foldN
  omega
theorem high_digit (x j : Nat) : dg (x / 57896044618658097711785492504343953926634992332820282019728792003956564819968) j = dg x (j + 31) / 128 + dg x (j + 32) % 128 * 2 := by
  unfold dg
  have e1 : x / 57896044618658097711785492504343953926634992332820282019728792003956564819968 / 256 ^ j = x / 256 ^ (j + 31) / 128 := by
    rw [Nat.div_div_eq_div_mul, Nat.div_div_eq_div_mul, Nat.pow_add]
    congr 1
    rw [Nat.mul_comm (256 ^ j), Nat.mul_assoc, Nat.mul_comm (256 ^ j), ← Nat.mul_assoc]
  have e2 : x / 256 ^ (j + 32) = x / 256 ^ (j + 31) / 256 := by
    rw [Nat.div_div_eq_div_mul, ← Nat.pow_succ]
  rw [e1, e2]
  generalize x / 256 ^ (j + 31) = y
  omega
theorem fold_low (x : Nat) : x % 57896044618658097711785492504343953926634992332820282019728792003956564819968 = x % 256 ^ 31 + 256 ^ 31 * (dg x 31 % 128) := by
  unfold dg
  omega
theorem fold_bound (x L : Nat) (hL : 32 ≤ L) (hx : x < 256 ^ L) : x / 57896044618658097711785492504343953926634992332820282019728792003956564819968 < 256 ^ (L - 31) := by
  obtain ⟨k, rfl⟩ : ∃ k, L = 32 + k := ⟨L - 32, by omega⟩
  rw [show 32 + k - 31 = k + 1 by omega]
  rw [Nat.pow_add] at hx
  rw [Nat.pow_succ]
  generalize 256 ^ k = m at hx ⊢
  omega
theorem high_step (x i : Nat) (h : 32 ≤ i) : 256 ^ 32 ≤ x % 256 ^ (i + 1) ↔ (256 ^ 32 ≤ x % 256 ^ i ∨ 0 < dg x i) := by
  rw [mod_succ]
  have h1 : 256 ^ 32 ≤ 256 ^ i := Nat.pow_le_pow_right (by decide) h
  constructor
  · intro h2
    by_cases h3 : 0 < dg x i
    · exact .inr h3
    · have : dg x i = 0 := by omega
      rw [this, Nat.mul_zero, Nat.add_zero] at h2
      exact .inl h2
  · rintro (h2 | h2)
    · exact Nat.le_trans h2 (Nat.le_add_right _ _)
    · exact Nat.le_trans h1 (Nat.le_trans (Nat.le_mul_of_pos_right _ h2) (Nat.le_add_left _ _))
end Go.Proofs.Ytonnngndknoljaa
