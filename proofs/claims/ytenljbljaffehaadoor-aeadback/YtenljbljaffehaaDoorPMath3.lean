/- Bytes added to digits, and rows of digits multiplied: plain mathematics. No program's text is named. -/
import Derived.Test.YtenljbljaffehaaDoorPMath2
namespace Go.Proofs.YtenljbljaffehaaDoor
set_option linter.unusedSimpArgs false
set_option linter.unusedVariables false

theorem getD_set8 (o : List Nat) (k j z : Nat) (h : j ≠ k) : (o.set k z).getD j 0 = o.getD j 0 := by
  rw [List.getD_eq_getElem?_getD, List.getElem?_set_ne (by omega), ← List.getD_eq_getElem?_getD]
/-- Digits to which n bytes are added. -/
structure Ad8 (s : Nat) (bs : List UInt8) (n : Nat) (o : List Nat) : Prop where
  all : ∀ y ∈ o, y ≤ 510
  rest : ∀ j, n ≤ j → o.getD j 0 ≤ 255
  val : dv o = s + leN (bs.take n)
theorem Ad8.start (s L : Nat) (bs : List UInt8) (h : s < 256 ^ L) : Ad8 s bs 0 (dgN s L) := by
  have hall : ∀ y ∈ dgN s L, y ≤ 255 := fun y hy => by have := dgN_lt _ _ _ hy; omega
  exact ⟨fun y hy => by have := hall y hy; omega, fun j _ => getD_of_all hall j, by rw [dv_dgN, Nat.mod_eq_of_lt h]; rfl⟩
theorem Ad8.put {s n : Nat} {bs : List UInt8} {o : List Nat} (h : Ad8 s bs n o) (hn : n < bs.length) (ho : n < o.length) : Ad8 s bs (n + 1) (o.set n (o.getD n 0 + (bs.getD n 0).toNat)) := by
  have hb := (bs.getD n 0).toNat_lt
  have hr := h.rest n (Nat.le_refl _)
  refine ⟨fun y hy => ?_, fun j hj => ?_, ?_⟩
  · rcases List.mem_or_eq_of_mem_set hy with h1 | h1
    · exact h.all y h1
    · omega
  · rw [getD_set8 _ _ _ _ (by omega)]
    exact h.rest j (by omega)
  · rw [dv_set _ _ _ ho, h.val, leN_take_succ _ _ hn, Nat.add_assoc]
/-- And a one above them. -/
theorem Ad8.one {s n : Nat} {bs : List UInt8} {o : List Nat} (h : Ad8 s bs n o) (ho : n < o.length) : dv (o.set n (o.getD n 0 + 1)) = s + (leN (bs.take n) + 256 ^ n) ∧ ∀ y ∈ o.set n (o.getD n 0 + 1), y ≤ 1099511627776 := by
  have hr := h.rest n (Nat.le_refl _)
  refine ⟨by rw [dv_set _ _ _ ho, h.val, Nat.mul_one, Nat.add_assoc], fun y hy => ?_⟩
  rcases List.mem_or_eq_of_mem_set hy with h1 | h1
  · have := h.all y h1
    omega
  · omega
/-- A product under way: x digits of s whole, and y digits of r with the next. -/
structure Mu8 (s r x y : Nat) (o : List Nat) : Prop where
  all : ∀ z ∈ o, z ≤ 65025 * (x + 1)
  rest : ∀ j, x + y ≤ j → o.getD j 0 ≤ 65025 * x
  val : dv o = s % 256 ^ x * r + 256 ^ x * (dg s x * (r % 256 ^ y))
theorem Mu8.start (s r L : Nat) : Mu8 s r 0 0 (List.replicate L 0) := by
  refine ⟨fun z hz => by rw [List.eq_of_mem_replicate hz]; omega, fun j _ => ?_, ?_⟩
  · exact getD_of_all (B := 65025 * 0) (fun z hz => by rw [List.eq_of_mem_replicate hz]; omega) j
  · rw [dv_zeros, Nat.pow_zero, Nat.mod_one, Nat.mod_one, Nat.zero_mul, Nat.mul_zero, Nat.mul_zero]
theorem Mu8.put {s r x y : Nat} {o : List Nat} (h : Mu8 s r x y o) (ho : x + y < o.length) : Mu8 s r x (y + 1) (o.set (x + y) (o.getD (x + y) 0 + dg s x * dg r y)) := by
  have hb : dg s x * dg r y ≤ 255 * 255 := Nat.mul_le_mul (by have := dg_lt s x; omega) (by have := dg_lt r y; omega)
  have hr := h.rest (x + y) (Nat.le_refl _)
  refine ⟨fun z hz => ?_, fun j hj => ?_, ?_⟩
  · rcases List.mem_or_eq_of_mem_set hz with h1 | h1
    · exact h.all z h1
    · omega
  · rw [getD_set8 _ _ _ _ (by omega)]
    exact h.rest j (by omega)
  · rw [dv_set _ _ _ ho, h.val, mod_succ r y, Nat.mul_add (dg s x), Nat.mul_add (256 ^ x), Nat.pow_add, Nat.add_assoc, Nat.mul_left_comm (dg s x), Nat.mul_assoc]
theorem Mu8.next {s r x : Nat} {o : List Nat} (h : Mu8 s r x 16 o) (hr : r < 256 ^ 16) : Mu8 s r (x + 1) 0 o := by
  refine ⟨fun z hz => by have := h.all z hz; omega, fun j hj => ?_, ?_⟩
  · have := getD_of_all h.all j
    exact this
  · rw [h.val, Nat.mod_eq_of_lt hr, mod_succ s x, Nat.pow_zero, Nat.mod_one, Nat.mul_zero, Nat.mul_zero, Nat.add_zero, Nat.add_mul, Nat.mul_assoc]
theorem Mu8.done {s r L : Nat} {o : List Nat} (h : Mu8 s r L 0 o) (hs : s < 256 ^ L) (hL : L ≤ 16000000) : dv o = s * r ∧ ∀ z ∈ o, z ≤ 1099511627776 := by
  refine ⟨by rw [h.val, Nat.mod_eq_of_lt hs, Nat.pow_zero, Nat.mod_one, Nat.mul_zero, Nat.mul_zero, Nat.add_zero], fun z hz => ?_⟩
  have := h.all z hz
  omega
theorem dg_leN8 : ∀ (l : List UInt8) (i : Nat), dg (leN l) i = (l.getD i 0).toNat
  | [], i => by simp [leN, dg]
  | x :: l, 0 => by
    have := x.toNat_lt
    simp only [leN, dg, Nat.pow_zero, Nat.div_one, List.getD_cons_zero]
    omega
  | x :: l, i + 1 => by
    have hx := x.toNat_lt
    rw [List.getD_cons_succ, ← dg_leN8 l i]
    unfold dg
    rw [Nat.pow_succ, Nat.mul_comm, ← Nat.div_div_eq_div_mul]
    have : leN (x :: l) / 256 = leN l := by
      simp only [leN]
      omega
    rw [this]
/-- The block at 16 j, and how long it is. -/
theorem blk_length (b : List UInt8) (j : Nat) : ((b.drop (16 * j)).take 16).length = min 16 (b.length - 16 * j) := by simp
theorem blk_get (b : List UInt8) (j n : Nat) (h : n < 16) : ((b.drop (16 * j)).take 16).getD n 0 = b.getD (16 * j + n) 0 := by
  simp [List.getElem?_take, h]
theorem blkN_lt (b : List UInt8) (j : Nat) : blkN b j < 2 * 256 ^ 16 := by
  unfold blkN
  have h1 := leN_lt ((b.drop (16 * j)).take 16)
  have h2 : 256 ^ ((b.drop (16 * j)).take 16).length ≤ 256 ^ 16 := Nat.pow_le_pow_right (by decide) (by rw [List.length_take]; exact Nat.min_le_left _ _)
  omega
theorem acc_blk_lt (r : Nat) (b : List UInt8) (j L : Nat) (hL : 18 ≤ L) : accN r b j + blkN b j < 256 ^ L := by
  have h1 := accN_lt r b j
  have h2 := blkN_lt b j
  have h3 : 256 ^ 18 ≤ 256 ^ L := Nat.pow_le_pow_right (by decide) hL
  rw [p8_val] at h1
  omega
end Go.Proofs.YtenljbljaffehaaDoor
