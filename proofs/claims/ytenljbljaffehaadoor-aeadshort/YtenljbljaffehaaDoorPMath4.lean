/- Numbers in three words of 64 bits, as a program's steps make them, by the prime 2^130 - 5: plain mathematics. No program's text is named. -/
import Derived.Test.YtenljbljaffehaaDoorPMath3
import Derived.Test.YtenljbljaffehaaDoorFMath3
import Derived.Laws.BitsAllLaws
namespace Go.Proofs.YtenljbljaffehaaDoor
set_option linter.unusedSimpArgs false
set_option linter.unusedVariables false

/-- Three words. -/
def Nm3 (l : List Nat) : Prop := l.length = 3 ∧ ∀ x ∈ l, x < 18446744073709551616
theorem Nm3.get {l : List Nat} (h : Nm3 l) (i : Nat) : l.getD i 0 < 18446744073709551616 := by
  have := getD_le (B := 18446744073709551615) (fun x hx => by have := h.2 x hx; omega) i
  omega
theorem Nm3.set {l : List Nat} (h : Nm3 l) (k : Nat) {z : Nat} (hz : z < 18446744073709551616) : Nm3 (l.set k z) := by
  refine ⟨by rw [List.length_set]; exact h.1, fun x hx => ?_⟩
  rcases List.mem_or_eq_of_mem_set hx with h1 | h1
  · exact h.2 x h1
  · rw [h1]; exact hz
theorem Nm3.mk3 {a b c : Nat} (ha : a < 18446744073709551616) (hb : b < 18446744073709551616) (hc : c < 18446744073709551616) : Nm3 [a, b, c] := by
  refine ⟨rfl, fun x hx => ?_⟩
  simp only [List.mem_cons, List.not_mem_nil, or_false] at hx
  rcases hx with rfl | rfl | rfl <;> assumption
theorem Nm3.three {l : List Nat} (h : Nm3 l) : ∃ a b c, l = [a, b, c] ∧ a < 18446744073709551616 ∧ b < 18446744073709551616 ∧ c < 18446744073709551616 := by
  obtain ⟨h1, h2⟩ := h
  match l, h1 with
  | [a, b, c], _ => exact ⟨a, b, c, rfl, h2 a (by simp), h2 b (by simp), h2 c (by simp)⟩
theorem Nm3.lt {l : List Nat} (h : Nm3 l) : wv l < 6277101735386680763835789423207666416102355444464034512896 := by
  have := wv_lt l h.2
  rw [h.1] at this
  exact this
theorem Nm3.ne {l : List Nat} (h : Nm3 l) : nI l ≠ [] := nI_ne (by rw [← List.length_pos_iff, h.1]; decide)
theorem Nm3.len {l : List Nat} (h : Nm3 l) : (nI l).length = 3 := by rw [nI_length]; exact h.1
/-- Five words. -/
def Wd5 (l : List Nat) : Prop := l.length = 5 ∧ ∀ x ∈ l, x < 18446744073709551616
theorem Wd5.get {l : List Nat} (h : Wd5 l) (i : Nat) : l.getD i 0 < 18446744073709551616 := by
  have := getD_le (B := 18446744073709551615) (fun x hx => by have := h.2 x hx; omega) i
  omega
theorem Wd5.set {l : List Nat} (h : Wd5 l) (k : Nat) {z : Nat} (hz : z < 18446744073709551616) : Wd5 (l.set k z) := by
  refine ⟨by rw [List.length_set]; exact h.1, fun x hx => ?_⟩
  rcases List.mem_or_eq_of_mem_set hx with h1 | h1
  · exact h.2 x h1
  · rw [h1]; exact hz
theorem Wd5.five {l : List Nat} (h : Wd5 l) : ∃ a b c d e, l = [a, b, c, d, e] ∧ a < 18446744073709551616 ∧ b < 18446744073709551616 ∧ c < 18446744073709551616 ∧ d < 18446744073709551616 ∧ e < 18446744073709551616 := by
  obtain ⟨h1, h2⟩ := h
  match l, h1 with
  | [a, b, c, d, e], _ => exact ⟨a, b, c, d, e, rfl, h2 a (by simp), h2 b (by simp), h2 c (by simp), h2 d (by simp), h2 e (by simp)⟩
theorem Wd5.ne {l : List Nat} (h : Wd5 l) : nI l ≠ [] := nI_ne (by rw [← List.length_pos_iff, h.1]; decide)
theorem Wd5.len {l : List Nat} (h : Wd5 l) : (nI l).length = 5 := by rw [nI_length]; exact h.1
def z3 : List Nat := [0, 0, 0]
theorem z3_nm : Nm3 z3 := Nm3.mk3 (by decide) (by decide) (by decide)
theorem z3_wv : wv z3 = 0 := by decide
theorem z3_get (i : Nat) : z3.getD i 0 = 0 := by
  match i with
  | 0 => rfl
  | 1 => rfl
  | 2 => rfl
  | (n + 3) => simp [z3]
def z5 : List Nat := [0, 0, 0, 0, 0]
theorem z5_wd : Wd5 z5 := ⟨rfl, by decide⟩
theorem z5_wv : wv z5 = 0 := by decide
theorem z5_get (i : Nat) : z5.getD i 0 = 0 := by
  match i with
  | 0 => rfl
  | 1 => rfl
  | 2 => rfl
  | 3 => rfl
  | 4 => rfl
  | (n + 5) => simp [z5]
/-- One word more of w b, added from a place on. -/
theorem at_off (cur b : List Nat) (o k c c' s A w : Nat) (hc : o + k < cur.length) (hb : k < b.length) (hs : s + 18446744073709551616 * c' = cur.getD (o + k) 0 + w * b.getD k 0 + c)
    (h : wv cur + 18446744073709551616 ^ (o + k) * c = A + 18446744073709551616 ^ o * (w * wv (b.take k))) : wv (cur.set (o + k) s) + 18446744073709551616 ^ (o + (k + 1)) * c' = A + 18446744073709551616 ^ o * (w * wv (b.take (k + 1))) := by
  have e1 := wv_set cur (o + k) s hc
  rw [wv_take_succ b k hb, ← Nat.add_assoc, Nat.pow_succ, Nat.mul_add w, Nat.mul_add (18446744073709551616 ^ o), Nat.mul_left_comm w, ← Nat.mul_assoc (18446744073709551616 ^ o) (18446744073709551616 ^ k), ← Nat.pow_add]
  generalize 18446744073709551616 ^ (o + k) = P at e1 h ⊢
  have h3 : P * s + P * (18446744073709551616 * c') = P * cur.getD (o + k) 0 + P * (w * b.getD k 0) + P * c := by rw [← Nat.mul_add, hs, Nat.mul_add, Nat.mul_add]
  rw [Nat.mul_assoc P]
  generalize P * s = t1 at e1 h3
  generalize P * (18446744073709551616 * c') = t2 at h3 ⊢
  generalize P * cur.getD (o + k) 0 = t3 at e1 h3
  generalize P * (w * b.getD k 0) = t4 at h3 ⊢
  generalize P * c = t5 at h h3
  generalize 18446744073709551616 ^ o * (w * wv (b.take k)) = t6 at h ⊢
  omega
/-- One row more of a product. -/
theorem row_step (l : List Nat) (r : List Nat) (i o z A B : Nat) (hl : 3 + i < l.length) (hr : i < r.length) (h0 : l.getD (3 + i) 0 = 0) (hz : A = wv (r.take i) * B)
    (h : wv l + 18446744073709551616 ^ (i + 3) * o = A + 18446744073709551616 ^ i * (r.getD i 0 * B)) : wv (l.set (3 + i) o) = wv (r.take (i + 1)) * B := by
  have e1 := wv_set l (3 + i) o hl
  rw [h0, Nat.mul_zero, Nat.add_zero] at e1
  rw [e1, wv_take_succ r i hr, Nat.add_mul, ← hz, Nat.mul_assoc, Nat.add_comm 3 i]
  exact h
theorem two_words {r : List Nat} (h : Nm3 r) (hr : wv r < 340282366920938463463374607431768211456) : wv (r.take 2) = wv r := by
  obtain ⟨a, b, c, rfl, ha, hb, hc⟩ := h.three
  simp only [wv, List.take_succ_cons, List.take_zero] at hr ⊢
  omega
/-- What stands above 2^130 comes back five times. -/
theorem times_sum (a b c d e : Nat) (ha : a < 18446744073709551616) (hb : b < 18446744073709551616) (hc : c < 18446744073709551616) (hd : d < 18446744073709551616) (h : wv [a, b, c, d, e] < 57896044618658097711785492504343953926634992332820282019728792003956564819968) :
    wv [a, b, c % 4] + wv [c - c % 4, d, 0] + wv [c / 4 + 4611686018427387904 * (d % 4), d / 4, 0] = fold8 (wv [a, b, c, d, e]) ∧ wv [a, b, c % 4] + wv [c - c % 4, d, 0] < 6277101735386680763835789423207666416102355444464034512896 ∧ fold8 (wv [a, b, c, d, e]) < 1701411834604692317316873037158841057280 := by
  unfold fold8
  simp only [wv] at h ⊢
  omega
theorem fold8_bound (W : Nat) (h : W < 57896044618658097711785492504343953926634992332820282019728792003956564819968) : fold8 W < 1701411834604692317316873037158841057280 := by
  unfold fold8
  omega
/-- The number below the prime. -/
theorem rest8 (a l : Nat) (ha : a < 1701411834604692317316873037158841057280) (hl : l = a + 5) :
    (l / 1361129467683753853853498429727072845824 = 0 ∧ a % p8 = a) ∨ (l / 1361129467683753853853498429727072845824 = 1 ∧ a % p8 = l % 1361129467683753853853498429727072845824) := by
  rw [p8_val]
  omega
theorem rest8_top (a b c : Nat) (ha : a < 18446744073709551616) (hb : b < 18446744073709551616) : c / 4 = wv [a, b, c] / 1361129467683753853853498429727072845824 ∧ wv [a, b, c % 4] = wv [a, b, c] % 1361129467683753853853498429727072845824 := by
  simp only [wv]
  omega
/-- One block more. -/
theorem acc_step (r : Nat) (b : List UInt8) (j X : Nat) (hX : X % p8 = accN r b j) : fold8 ((X + blkN b j) * r) % p8 = accN r b (j + 1) := by
  rw [fold8_mod]
  show _ = (accN r b j + blkN b j) * r % p8
  rw [← hX, Nat.mul_mod, Nat.mul_mod (X % p8 + blkN b j), Nat.mod_add_mod]
theorem acc_bound (X B r : Nat) (hX : X < 1701411834604692317316873037158841057280) (hB : B < 2 * 256 ^ 16) (hr : r < 21267647932558653966460912964485513216) : X + B < 2722258935367507707706996859454145691648 ∧ (X + B) * r < 57896044618658097711785492504343953926634992332820282019728792003956564819968 := by
  have h1 : X + B < 2722258935367507707706996859454145691648 := by omega
  refine ⟨h1, ?_⟩
  have := Nat.mul_lt_mul'' h1 hr
  omega
/-- The first i words of one, the others of another one. -/
def mxL (x a : List Nat) (i : Nat) : List Nat := x.take i ++ a.drop i
theorem mxL_zero (x a : List Nat) : mxL x a 0 = a := by simp [mxL]
theorem mxL_full {x a : List Nat} {n : Nat} (hx : x.length = n) (ha : a.length = n) : mxL x a n = x := by
  unfold mxL
  rw [List.take_of_length_le (by omega), List.drop_eq_nil_of_le (by omega), List.append_nil]
theorem mxL_get {x a : List Nat} {n : Nat} (hx : x.length = n) (i : Nat) (hi : i < n) : (mxL x a i).getD i 0 = a.getD i 0 := by
  have h1 : (x.take i).length = i := by rw [List.length_take, hx]; omega
  unfold mxL
  rw [List.getD_eq_getElem?_getD, List.getElem?_append_right (by omega), h1, Nat.sub_self]
  simp
theorem mxL_set {x a : List Nat} {n : Nat} (hx : x.length = n) (ha : a.length = n) (i : Nat) (hi : i < n) : (mxL x a i).set i (x.getD i 0) = mxL x a (i + 1) := by
  have h1 : (x.take i).length = i := by rw [List.length_take, hx]; omega
  have h2 : i < x.length := by omega
  have h3 : i < a.length := by omega
  unfold mxL
  rw [List.set_append_right _ _ (by omega), h1, Nat.sub_self, List.drop_eq_getElem_cons h3, List.set_cons_zero, List.take_succ_eq_append_getElem h2, List.append_assoc]
  simp [h2]
theorem mxL_len {x a : List Nat} {n : Nat} (hx : x.length = n) (ha : a.length = n) (i : Nat) (hi : i ≤ n) : (nI (mxL x a i)).length = n := by
  rw [nI_length]
  unfold mxL
  rw [List.length_append, List.length_take, List.length_drop, hx, ha]
  omega
/-! ### Words and bits -/
open Go.ChangeShapes
theorem mask3 (x : Nat) (hx : x < 18446744073709551616) : bits .and .u64 (x : Int) 3 = ((x % 4 : Nat) : Int) := by
  have := u64_and_nat x 3 hx (by decide)
  rw [show (3 : Int) = ((3 : Nat) : Int) from rfl, this, show (3 : Nat) = 2 ^ 2 - 1 from rfl, Nat.and_two_pow_sub_one_eq_mod]
theorem unmask3 (x : Nat) (hx : x < 18446744073709551616) : bits .andNot .u64 (x : Int) 3 = ((x - x % 4 : Nat) : Int) := by
  have := u64_andNot_nat x 3 hx (by decide)
  rw [show (3 : Int) = ((3 : Nat) : Int) from rfl, this]
  congr 1
  have e : x &&& (18446744073709551615 - 3) = (x >>> 2) <<< 2 := by
    refine Nat.eq_of_testBit_eq fun i => ?_
    rw [Nat.testBit_and, Nat.testBit_shiftLeft, Nat.testBit_shiftRight, show 18446744073709551615 - 3 = (2 ^ 62 - 1) <<< 2 by decide, Nat.testBit_shiftLeft, Nat.testBit_two_pow_sub_one]
    by_cases h2 : 2 ≤ i
    · rw [show 2 + (i - 2) = i by omega]
      by_cases h3 : i - 2 < 62
      · simp [h2, h3]
      · have : x.testBit i = false := Nat.testBit_lt_two_pow (Nat.lt_of_lt_of_le hx (show 2 ^ 64 ≤ 2 ^ i from Nat.pow_le_pow_right (by decide) (by omega)))
        simp [this]
    · simp [h2]
  rw [e, Nat.shiftLeft_eq, Nat.shiftRight_eq_div_pow]
  omega
theorem or_parts (x y : Nat) (hx : x < 4611686018427387904) (hy : y < 4) : bits .or .u64 (x : Int) ((4611686018427387904 * y : Nat) : Int) = ((x + 4611686018427387904 * y : Nat) : Int) := by
  rw [u64_or_nat x _ (by omega) (by omega), Nat.or_comm, show 4611686018427387904 * y = 2 ^ 62 * y from rfl, ← Nat.two_pow_add_eq_or_of_lt hx, Nat.add_comm]
theorem sel8 (M : Int) (x y z : Nat) (hx : x < 18446744073709551616) (hy : y < 18446744073709551616) (h : (M = 0 ∧ z = x) ∨ (M = 18446744073709551615 ∧ z = y)) :
    bits .xor .u64 (x : Int) (bits .and .u64 M (bits .xor .u64 (x : Int) (y : Int))) = (z : Int) := by
  have hxy : x ^^^ y < 18446744073709551616 := Nat.xor_lt_two_pow (n := 64) hx hy
  rw [u64_xor_nat x y hx hy]
  rcases h with ⟨hM, hz⟩ | ⟨hM, hz⟩
  · rw [hM, show (0 : Int) = ((0 : Nat) : Int) from rfl, u64_and_nat 0 _ (by decide) hxy, Nat.zero_and, u64_xor_nat _ 0 hx (by decide), Nat.xor_zero, hz]
  · rw [hM, show (18446744073709551615 : Int) = ((18446744073709551615 : Nat) : Int) from rfl, u64_and_nat _ _ (by decide) hxy, Nat.and_comm, show (18446744073709551615 : Nat) = 2 ^ 64 - 1 from rfl, Nat.and_two_pow_sub_one_eq_mod, Nat.mod_eq_of_lt hxy, u64_xor_nat _ _ hx hxy, ← Nat.xor_assoc, Nat.xor_self, Nat.zero_xor, hz]
/-! ### Bytes -/
/-- The bits that stay. -/
def kpL : List Nat := [255, 255, 255, 15, 252, 255, 255, 15, 252, 255, 255, 15, 252, 255, 255, 15]
theorem kp_lt : ∀ i, i < 16 → kpL.getD i 0 < 256 := by decide
theorem and15 : ∀ x : Fin 256, x.val &&& 15 = x.val % 16 := by decide +kernel
theorem and252 : ∀ x : Fin 256, x.val &&& 252 = x.val / 4 * 4 := by decide +kernel
theorem and255 : ∀ x : Fin 256, x.val &&& 255 = x.val := by decide +kernel
theorem kp_kind : ∀ i, i < 16 → (i % 4 = 3 ∧ kpL.getD i 0 = 15) ∨ ((i % 4 = 0 ∧ 0 < i) ∧ kpL.getD i 0 = 252) ∨ ((i % 4 ≠ 3 ∧ ¬ (i % 4 = 0 ∧ 0 < i)) ∧ kpL.getD i 0 = 255) := by decide
theorem clP_get (key : List UInt8) (i : Nat) (hi : i < 16) : ((clP key).getD i 0).toNat = (key.getD i 0).toNat &&& kpL.getD i 0 := by
  have hx := (key.getD i 0).toNat_lt
  unfold clP
  rw [List.getD_eq_getElem?_getD, List.getElem?_map, List.getElem?_range hi]
  simp only [Option.map_some, Option.getD_some]
  rcases kp_kind i hi with ⟨h1, h2⟩ | ⟨h1, h2⟩ | ⟨h1, h2⟩
  · rw [if_pos h1, h2, and15 ⟨_, hx⟩, UInt8.toNat_ofNat']
    simp only
    omega
  · rw [if_neg (by omega), if_pos h1, h2, and252 ⟨_, hx⟩, UInt8.toNat_ofNat']
    simp only
    omega
  · rw [if_neg h1.1, if_neg h1.2, h2, and255 ⟨_, hx⟩]
theorem clP_lt (key : List UInt8) : leN (clP key) < 21267647932558653966460912964485513216 := by
  have h1 := leN_take_succ (clP key) 15 (by rw [clP_length]; decide)
  rw [List.take_of_length_le (by rw [clP_length]; exact Nat.le_refl _), clP_get key 15 (by decide)] at h1
  have hx := (key.getD 15 0).toNat_lt
  have h2 : (key.getD 15 0).toNat &&& kpL.getD 15 0 < 16 := by
    have := and15 ⟨_, hx⟩
    show _ &&& 15 < 16
    rw [this]
    exact Nat.mod_lt _ (by decide)
  have h3 := leN_lt ((clP key).take 15)
  rw [List.length_take, clP_length, Nat.min_eq_left (by decide)] at h3
  rw [h1]
  omega
theorem stB_leN (l : List UInt8) (i : Nat) : stB (leN l) i = l.getD i 0 := by
  have := dg_leN8 l i
  unfold dg at this
  unfold stB
  refine UInt8.toNat_inj.1 ?_
  rw [UInt8.toNat_ofNat']
  exact this
theorem bytes_leN (l : List UInt8) (n : Nat) (h : l.length = n) : (List.range n).map (stB (leN l)) = l := by
  refine List.ext_getElem (by simp [h]) fun i h1 h2 => ?_
  rw [List.getElem_map, List.getElem_range, stB_leN]
  simp [h2]
theorem bytes_wv {l : List Nat} (h : Nm3 l) : (List.range 8).map (stB (l.getD 0 0)) ++ (List.range 8).map (stB (l.getD 1 0)) = (List.range 16).map (stB (wv l)) := by
  obtain ⟨a, b, c, rfl, ha, hb, hc⟩ := h.three
  rw [show 16 = 8 + 8 from rfl, range_add (stB (wv [a, b, c])) 8 8]
  have e : ∀ i k, i < 2 → k < 8 → stB (wv [a, b, c]) (8 * i + k) = stB ([a, b, c].getD i 0) k := fun i k hi hk => by
    have e := word_digit [a, b, c] i k (by rintro x hx; simp at hx; omega) (by simp; omega) hk
    unfold dg at e
    unfold stB
    refine UInt8.toNat_inj.1 ?_
    rw [UInt8.toNat_ofNat', UInt8.toNat_ofNat']
    exact e
  congr 1
  · refine List.map_congr_left fun k hk => ?_
    have := e 0 k (by decide) (List.mem_range.1 hk)
    rw [Nat.mul_zero, Nat.zero_add] at this
    exact this.symm
  · refine List.map_congr_left fun k hk => (e 1 k (by decide) (List.mem_range.1 hk)).symm
/-- One word more out of bytes, however many there are. -/
theorem num_step (b : List UInt8) (cur : List Nat) (i z : Nat) (hc : i < cur.length) (h0 : cur.getD i 0 = 0) (h : wv cur = leN (b.take (8 * i))) (hz : z = leN ((b.drop (min (8 * i) b.length)).take 8)) :
    wv (cur.set i z) = leN (b.take (8 * (i + 1))) := by
  have e1 := wv_set cur i z hc
  rw [h0, Nat.mul_zero, Nat.add_zero] at e1
  rw [e1, h, hz]
  by_cases hl : 8 * i ≤ b.length
  · rw [Nat.min_eq_left hl, show 8 * (i + 1) = 8 * i + 8 by omega, List.take_add, leN_append, List.length_take, Nat.min_eq_left hl, Nat.pow_mul]
  · rw [Nat.min_eq_right (by omega), List.drop_eq_nil_of_le (Nat.le_refl _), List.take_of_length_le (by omega), List.take_of_length_le (l := b) (by omega)]
    simp [leN]
theorem num_full (b : List UInt8) (l : List Nat) (h : wv l = leN (b.take (8 * 3))) (hb : b.length ≤ 24) : wv l = leN b := by
  rw [h, List.take_of_length_le (by omega)]
/-- A piece with a one behind it. -/
theorem piece_num (b : List UInt8) (hb : b.length ≤ 16) : leN ((b ++ (List.replicate 24 (0 : UInt8)).drop b.length).set b.length 1) = leN b + 256 ^ b.length := by
  rw [List.set_append_right _ _ (Nat.le_refl _), Nat.sub_self, List.drop_replicate, show 24 - b.length = (23 - b.length) + 1 by omega, List.replicate_succ, List.set_cons_zero, leN_append]
  simp only [leN, leN_zeros]
  simp
end Go.Proofs.YtenljbljaffehaaDoor
