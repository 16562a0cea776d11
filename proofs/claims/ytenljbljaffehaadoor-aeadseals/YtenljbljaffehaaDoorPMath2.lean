/- One fold by 2^130 - 5 on rows of digits, and the last step: plain mathematics. No program's text is named. -/
import Derived.Test.YtenljbljaffehaaDoorPMath
namespace Go.Proofs.YtenljbljaffehaaDoor
set_option linter.unusedSimpArgs false
set_option linter.unusedVariables false

/-- 2^130. -/
def t8 : Nat := 1361129467683753853853498429727072845824
theorem t8_val : t8 = 1361129467683753853853498429727072845824 := rfl
theorem high8_step (x i : Nat) (h : 17 ≤ i) : t8 ≤ x % 256 ^ (i + 1) ↔ (t8 ≤ x % 256 ^ i ∨ 0 < dg x i) := by
  rw [mod_succ]
  have h1 : t8 ≤ 256 ^ i := Nat.le_trans (by decide) (Nat.pow_le_pow_right (n := 256) (by decide) h)
  constructor
  · intro h2
    by_cases h3 : 0 < dg x i
    · exact .inr h3
    · have : dg x i = 0 := by omega
      rw [this, Nat.mul_zero, Nat.add_zero] at h2
      exact .inl h2
  · rintro (h2 | h2)
    · exact Nat.le_trans h2 (Nat.le_add_right _ _)
    · exact Nat.le_trans h1 (Nat.le_trans (Nat.le_mul_of_pos_right _ h2) (Nat.le_add_left _ _))
theorem high8_start (x : Nat) : (3 < dg x 16) ↔ t8 ≤ x % 256 ^ 17 := by
  rw [mod_succ, t8_val]
  unfold dg
  omega
/-- What a row of digits holds behind m steps of a fold. -/
structure Fd8 (x m : Nat) (o : List Nat) : Prop where
  len : 17 ≤ o.length
  all : ∀ y ∈ o, y ≤ 1530
  rest : ∀ j, m ≤ j → o.getD j 0 ≤ 255
  val : dv o = x % t8 + 5 * (x / t8 % 256 ^ m)
theorem lay8_next (x L i : Nat) (h : i < L) : (dgN x i ++ List.replicate (L - i) 0).set i (dg x i) = dgN x (i + 1) ++ List.replicate (L - (i + 1)) 0 := by
  obtain ⟨k, hk⟩ : ∃ k, L - i = k + 1 := ⟨L - i - 1, by omega⟩
  rw [List.set_append_right _ _ (by rw [dgN_length]; exact Nat.le_refl _), dgN_length, Nat.sub_self, hk, List.replicate_succ, List.set_cons_zero, ← dgN_next, List.append_assoc, show L - (i + 1) = k by omega]
  rfl
theorem lay8_length (x L i : Nat) (h : i ≤ L) : (dgN x i ++ List.replicate (L - i) 0).length = L := by
  simp [dgN_length]
  omega
theorem getD_of_all {l : List Nat} {B : Nat} (h : ∀ x ∈ l, x ≤ B) (i : Nat) : l.getD i 0 ≤ B := getD_le h i
theorem Fd8.start (x : Nat) : Fd8 x 0 ((dgN x 17).set 16 (dg x 16 % 4)) := by
  have e : (dgN x 17).set 16 (dg x 16 % 4) = dgN x 16 ++ [dg x 16 % 4] := by
    rw [← dgN_next x 16, List.set_append_right _ _ (by rw [dgN_length]; exact Nat.le_refl _), dgN_length, Nat.sub_self, List.set_cons_zero]
  have hall : ∀ y ∈ (dgN x 17).set 16 (dg x 16 % 4), y ≤ 255 := by
    intro y hy
    rw [e] at hy
    rcases List.mem_append.1 hy with h | h
    · have := dgN_lt _ _ _ h
      omega
    · have h1 := List.mem_singleton.1 h
      omega
  refine ⟨by simp [dgN_length], fun y hy => by have := hall y hy; omega, fun j _ => getD_of_all hall j, ?_⟩
  rw [e, dv_snoc, dgN_length, dv_dgN, Nat.pow_zero, Nat.mod_one, Nat.mul_zero, Nat.add_zero]
  exact (low8 x).symm
theorem Fd8.app {x m : Nat} {o : List Nat} (h : Fd8 x m o) : Fd8 x m (o ++ [0]) := by
  refine ⟨by have := h.len; simp; omega, fun y hy => ?_, fun j hj => ?_, by rw [dv_snoc, Nat.mul_zero, Nat.add_zero, h.val]⟩
  · rcases List.mem_append.1 hy with h1 | h1
    · exact h.all y h1
    · have := List.mem_singleton.1 h1
      omega
  · have := h.rest j hj
    simp only [List.getD_eq_getElem?_getD] at this ⊢
    by_cases h1 : j < o.length
    · rw [List.getElem?_append_left h1]; exact this
    · rw [List.getElem?_append_right (by omega)]
      cases j - o.length with
      | zero => simp
      | succ k => simp
theorem Fd8.put {x m : Nat} {o : List Nat} (h : Fd8 x m o) (hm : m < o.length) {n : Nat} (hn : n = dg (x / t8) m) : Fd8 x (m + 1) (o.set m (o.getD m 0 + 5 * n)) := by
  have hb : n ≤ 255 := by have := dg_lt (x / t8) m; omega
  have hr := h.rest m (Nat.le_refl _)
  refine ⟨by rw [List.length_set]; exact h.len, fun y hy => ?_, fun j hj => ?_, ?_⟩
  · rcases List.mem_or_eq_of_mem_set hy with h1 | h1
    · exact h.all y h1
    · omega
  · have := h.rest j (by omega)
    rw [List.getD_eq_getElem?_getD, List.getElem?_set_ne (by omega), ← List.getD_eq_getElem?_getD]
    exact this
  · rw [dv_set _ _ _ hm, h.val, mod_succ, ← hn, Nat.mul_add, Nat.add_assoc, Nat.mul_left_comm]
theorem Fd8.done {x m : Nat} {o : List Nat} (h : Fd8 x m o) (hx : x < 256 ^ (m + 16)) : dv o = fold8 x := by
  have : x / t8 < 256 ^ m := by
    refine (Nat.div_lt_iff_lt_mul (by decide)).2 (Nat.lt_of_lt_of_le hx ?_)
    rw [Nat.pow_add]
    exact Nat.mul_le_mul_left _ (by decide)
  rw [h.val, Nat.mod_eq_of_lt this]
  rfl
theorem high8' (x m : Nat) : dg (x / t8) m = dg x (m + 16) / 4 + dg x (m + 17) % 4 * 64 := high8 x m
theorem fold8_lt' (x : Nat) (h : t8 ≤ x) : fold8 x < x := fold8_lt x h
/-- Which numbers below 2^130 are below the prime. -/
theorem tail8_a (x : Nat) (h : x < t8) (h1 : dg x 16 ≠ 3) : x < p8 := by
  rw [t8_val] at h
  rw [p8_val]
  unfold dg at h1
  omega
theorem tail8_b (x : Nat) (h : x < t8) (h1 : dg x 0 < 251) : x < p8 := by
  rw [t8_val] at h
  rw [p8_val]
  unfold dg at h1
  omega
theorem tail8_k : ∀ j, j < 15 → 5316911983139663491615228241121378303 / 256 ^ j % 256 = 255 := by decide +kernel
theorem tail8_c (x j : Nat) (h : x < t8) (h0 : 1 ≤ j) (h1 : j < 16) (h2 : dg x j ≠ 255) : x < p8 := by
  refine Nat.lt_of_not_le fun hp => h2 ?_
  rw [t8_val] at h
  rw [p8_val] at hp
  obtain ⟨k, rfl⟩ : ∃ k, j = k + 1 := ⟨j - 1, by omega⟩
  have e : x / 256 = 5316911983139663491615228241121378303 := by omega
  unfold dg
  rw [Nat.pow_succ, Nat.mul_comm, ← Nat.div_div_eq_div_mul, e]
  exact tail8_k k (by omega)
theorem tail8_d (x : Nat) (h : x < t8) (h1 : dg x 16 = 3) (h2 : 251 ≤ dg x 0) (h3 : ∀ j, j < 16 → 1 ≤ j → dg x j = 255) : p8 ≤ x := by
  have e := dv_dgN x 17
  rw [Nat.mod_eq_of_lt (Nat.lt_trans h (by decide))] at e
  have e2 : dgN x 17 = dg x 0 :: (List.replicate 15 255 ++ [3]) := by
    unfold dgN
    rw [show List.range 17 = [0, 1, 2, 3, 4, 5, 6, 7, 8, 9, 10, 11, 12, 13, 14, 15, 16] from rfl]
    simp only [List.map]
    rw [h1, h3 1 (by decide) (by decide), h3 2 (by decide) (by decide), h3 3 (by decide) (by decide), h3 4 (by decide) (by decide), h3 5 (by decide) (by decide), h3 6 (by decide) (by decide), h3 7 (by decide) (by decide), h3 8 (by decide) (by decide), h3 9 (by decide) (by decide), h3 10 (by decide) (by decide), h3 11 (by decide) (by decide), h3 12 (by decide) (by decide), h3 13 (by decide) (by decide), h3 14 (by decide) (by decide), h3 15 (by decide) (by decide)]
    rfl
  rw [e2] at e
  have e3 : dv (dg x 0 :: (List.replicate 15 255 ++ [3])) = dg x 0 + 256 * dv (List.replicate 15 255 ++ [3]) := rfl
  have e4 : dv (List.replicate 15 255 ++ [3]) = 5316911983139663491615228241121378303 := by decide +kernel
  rw [e3, e4] at e
  rw [p8_val]
  omega
theorem last8 (x : Nat) (h1 : p8 ≤ x) (h2 : x < t8) : dg x 0 = 251 + x % p8 ∧ x % p8 < 5 := by
  have e : x % p8 = x - p8 := by
    rw [Nat.mod_eq_sub_mod h1, Nat.mod_eq_of_lt (by rw [p8_val] at *; rw [t8_val] at h2; omega)]
  rw [e]
  unfold dg
  rw [Nat.pow_zero, Nat.div_one]
  rw [p8_val] at *
  rw [t8_val] at h2
  omega
theorem small8 (d : Nat) (h : d < 5) : (List.replicate 18 0).set 0 d = dgN d 18 := by
  rw [dgN_small d (n := 1) (m := 18) (by decide) (by simp; omega)]
  have : dgN d 1 = [d] := by
    unfold dgN dg
    simp
    omega
  rw [this]
  rfl
end Go.Proofs.YtenljbljaffehaaDoor
