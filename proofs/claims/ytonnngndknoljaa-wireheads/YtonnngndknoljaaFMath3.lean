/- Numbers in four words of 64 bits: sums, differences, products, powers and rests by the prime, as a program's steps make them: plain mathematics. No program's text is named. -/
import Derived.Test.YtonnngndknoljaaFMath2
import Derived.Test.YtonnngndknoljaaPrime
namespace Go.Proofs.Ytonnngndknoljaa
set_option linter.unusedSimpArgs false
set_option linter.unusedVariables false

/-- Four words. -/
def El4 (l : List Nat) : Prop := l.length = 4 ∧ ∀ x ∈ l, x < 18446744073709551616
theorem El4.get {l : List Nat} (h : El4 l) (i : Nat) : l.getD i 0 < 18446744073709551616 := by
  have := getD_le (B := 18446744073709551615) (fun x hx => by have := h.2 x hx; omega) i
  omega
theorem El4.set {l : List Nat} (h : El4 l) (k : Nat) {z : Nat} (hz : z < 18446744073709551616) : El4 (l.set k z) := by
  refine ⟨by rw [List.length_set]; exact h.1, fun x hx => ?_⟩
  rcases List.mem_or_eq_of_mem_set hx with h1 | h1
  · exact h.2 x h1
  · rw [h1]; exact hz
theorem El4.mk4 {a b c d : Nat} (ha : a < 18446744073709551616) (hb : b < 18446744073709551616) (hc : c < 18446744073709551616) (hd : d < 18446744073709551616) : El4 [a, b, c, d] := by
  refine ⟨rfl, fun x hx => ?_⟩
  simp only [List.mem_cons, List.not_mem_nil, or_false] at hx
  rcases hx with rfl | rfl | rfl | rfl <;> assumption
theorem El4.four {l : List Nat} (h : El4 l) : ∃ a b c d, l = [a, b, c, d] ∧ a < 18446744073709551616 ∧ b < 18446744073709551616 ∧ c < 18446744073709551616 ∧ d < 18446744073709551616 := by
  obtain ⟨h1, h2⟩ := h
  match l, h1 with
  | [a, b, c, d], _ => exact ⟨a, b, c, d, rfl, h2 a (by simp), h2 b (by simp), h2 c (by simp), h2 d (by simp)⟩
theorem El4.lt {l : List Nat} (h : El4 l) : wv l < 115792089237316195423570985008687907853269984665640564039457584007913129639936 := by
  have := wv_lt l h.2
  rw [h.1] at this
  exact this
theorem El4.ne {l : List Nat} (h : El4 l) : nI l ≠ [] := nI_ne (by rw [← List.length_pos_iff, h.1]; decide)
theorem El4.len {l : List Nat} (h : El4 l) : (nI l).length = 4 := by rw [nI_length]; exact h.1
theorem wv_inj : ∀ (l m : List Nat), (∀ x ∈ l, x < 18446744073709551616) → (∀ x ∈ m, x < 18446744073709551616) → l.length = m.length → wv l = wv m → l = m
  | [], [], _, _, _, _ => rfl
  | [], _ :: _, _, _, h, _ => by simp at h
  | _ :: _, [], _, _, h, _ => by simp at h
  | x :: l, y :: m, hl, hm, hlen, h => by
    have hx := hl x (List.mem_cons_self ..)
    have hy := hm y (List.mem_cons_self ..)
    simp only [wv] at h
    have e1 : x = y := by omega
    have e2 : wv l = wv m := by omega
    rw [e1, wv_inj l m (fun z hz => hl z (List.mem_cons_of_mem _ hz)) (fun z hz => hm z (List.mem_cons_of_mem _ hz)) (by simpa using hlen) e2]
theorem El4.inj {l m : List Nat} (hl : El4 l) (hm : El4 m) (h : wv l = wv m) : l = m := wv_inj l m hl.2 hm.2 (by rw [hl.1, hm.1]) h
theorem nI_inj {l m : List Nat} (h : nI l = nI m) : l = m := by
  refine List.ext_getElem (by rw [← nI_length l, ← nI_length m, h]) fun i h1 h2 => ?_
  have e : (nI l).getD i 0 = (nI m).getD i 0 := by rw [h]
  rw [nI_get, nI_get] at e
  have e2 : ((l[i] : Nat) : Int) = ((m[i] : Nat) : Int) := by simpa [h1, h2] using e
  omega
theorem wv_set : ∀ (l : List Nat) (k z : Nat), k < l.length → wv (l.set k z) + 18446744073709551616 ^ k * l.getD k 0 = wv l + 18446744073709551616 ^ k * z
  | [], k, z, h => by simp at h
  | x :: l, 0, z, h => by
    simp only [List.set_cons_zero, wv, Nat.pow_zero, List.getD_cons_zero]
    omega
  | x :: l, k + 1, z, h => by
    have ih := wv_set l k z (by simpa using h)
    simp only [List.set_cons_succ, wv, List.getD_cons_succ, Nat.pow_succ]
    rw [Nat.mul_comm (18446744073709551616 ^ k) 18446744073709551616, Nat.mul_assoc, Nat.mul_assoc]
    omega
theorem wv_snoc : ∀ (l : List Nat) (x : Nat), wv (l ++ [x]) = wv l + 18446744073709551616 ^ l.length * x
  | [], x => by simp [wv]
  | y :: l, x => by
    simp only [List.cons_append, wv, wv_snoc l x, List.length_cons, Nat.pow_succ]
    rw [Nat.mul_comm (18446744073709551616 ^ l.length) 18446744073709551616, Nat.mul_assoc]
    omega
theorem wv_take_succ (l : List Nat) (i : Nat) (h : i < l.length) : wv (l.take (i + 1)) = wv (l.take i) + 18446744073709551616 ^ i * l.getD i 0 := by
  rw [List.take_succ_eq_append_getElem h, wv_snoc]
  simp [h, Nat.min_eq_left (Nat.le_of_lt h)]

/-- One word more of a + w b. -/
theorem at_step (cur b : List Nat) (i c c' s A w : Nat) (hc : i < cur.length) (hb : i < b.length) (hs : s + 18446744073709551616 * c' = cur.getD i 0 + w * b.getD i 0 + c)
    (h : wv cur + 18446744073709551616 ^ i * c = A + w * wv (b.take i)) : wv (cur.set i s) + 18446744073709551616 ^ (i + 1) * c' = A + w * wv (b.take (i + 1)) := by
  have e1 := wv_set cur i s hc
  rw [wv_take_succ b i hb, Nat.pow_succ, Nat.mul_add w]
  generalize 18446744073709551616 ^ i = P at e1 h ⊢
  have h3 : P * s + P * (18446744073709551616 * c') = P * cur.getD i 0 + P * (w * b.getD i 0) + P * c := by rw [← Nat.mul_add, hs, Nat.mul_add, Nat.mul_add]
  rw [Nat.mul_left_comm w P, Nat.mul_assoc P]
  generalize P * s = t1 at e1 h3
  generalize P * (18446744073709551616 * c') = t2 at h3 ⊢
  generalize P * cur.getD i 0 = t3 at e1 h3
  generalize P * (w * b.getD i 0) = t4 at h3 ⊢
  generalize P * c = t5 at h h3
  generalize w * wv (b.take i) = t6 at h ⊢
  omega
theorem at_bound (q w b c s c' : Nat) (hq : q < 18446744073709551616) (hw : w < 18446744073709551616) (hb : b < 18446744073709551616) (hc : c < 18446744073709551616) (hs : s + 18446744073709551616 * c' = q + w * b + c) : c' < 18446744073709551616 := by
  have h1 : w * b ≤ 18446744073709551615 * 18446744073709551615 := Nat.mul_le_mul (by omega) (by omega)
  generalize w * b = t at h1 hs
  omega
/-- One word more of a - b. -/
theorem tk_step (cur b : List Nat) (i br br' d A : Nat) (hc : i < cur.length) (hb : i < b.length) (hs : d + b.getD i 0 + br = cur.getD i 0 + 18446744073709551616 * br')
    (h : wv cur + wv (b.take i) = A + 18446744073709551616 ^ i * br) : wv (cur.set i d) + wv (b.take (i + 1)) = A + 18446744073709551616 ^ (i + 1) * br' := by
  have e1 := wv_set cur i d hc
  rw [wv_take_succ b i hb, Nat.pow_succ]
  generalize 18446744073709551616 ^ i = P at e1 h ⊢
  have h3 : P * d + P * b.getD i 0 + P * br = P * cur.getD i 0 + P * (18446744073709551616 * br') := by rw [← Nat.mul_add, ← Nat.mul_add, hs, Nat.mul_add]
  rw [Nat.mul_assoc P]
  generalize P * d = t1 at e1 h3
  generalize P * (18446744073709551616 * br') = t2 at h3 ⊢
  generalize P * cur.getD i 0 = t3 at e1 h3
  generalize P * b.getD i 0 = t4 at h3 ⊢
  generalize P * br = t5 at h h3
  omega
/-- One row more of a product. -/
theorem ml_step (low a : List Nat) (i s h1 H B : Nat) (hl : i < low.length) (ha : i < a.length) (h0 : low.getD i 0 = 0) (hs : s + 18446744073709551616 * h1 = H + a.getD i 0 * B)
    (h : wv low + 18446744073709551616 ^ i * H = wv (a.take i) * B) : wv (low.set i s) + 18446744073709551616 ^ (i + 1) * h1 = wv (a.take (i + 1)) * B := by
  have e1 := wv_set low i s hl
  rw [h0, Nat.mul_zero, Nat.add_zero] at e1
  rw [wv_take_succ a i ha, Nat.pow_succ, e1, Nat.add_mul, ← h]
  generalize 18446744073709551616 ^ i = P
  have h3 : P * s + P * (18446744073709551616 * h1) = P * H + P * (a.getD i 0 * B) := by rw [← Nat.mul_add, hs, Nat.mul_add]
  rw [Nat.mul_assoc P, Nat.mul_assoc P]
  generalize P * s = t1 at h3 ⊢
  generalize P * (18446744073709551616 * h1) = t2 at h3 ⊢
  generalize P * H = t3 at h3 ⊢
  generalize P * (a.getD i 0 * B) = t4 at h3 ⊢
  omega
theorem wv_small (x : Nat) : wv [x, 0, 0, 0] = x := by simp [wv]
theorem wv_zero4 : wv [0, 0, 0, 0] = 0 := by decide
theorem wv_shift (s0 s1 s2 s3 t : Nat) : wv [s0, s1, s2, s3] + 115792089237316195423570985008687907853269984665640564039457584007913129639936 * t = s0 + 18446744073709551616 * wv [s1, s2, s3, t] := by
  simp only [wv]
  omega

/-! ### By the prime -/
theorem q_mod (A t : Nat) : (A + 115792089237316195423570985008687907853269984665640564039457584007913129639936 * t) % pN = (A + 38 * t) % pN := by
  rw [show A + 115792089237316195423570985008687907853269984665640564039457584007913129639936 * t = (A + 38 * t) + pN * (2 * t) by rw [pN_val]; omega, Nat.add_mul_mod_self_left]
theorem fold_math (A t c1 c2 X1 X2 : Nat) (hA : A < 115792089237316195423570985008687907853269984665640564039457584007913129639936) (ht : t < 18446744073709551616)
    (h1 : X1 + 115792089237316195423570985008687907853269984665640564039457584007913129639936 * c1 = A + t * 38) (h2 : X2 + 115792089237316195423570985008687907853269984665640564039457584007913129639936 * c2 = X1 + c1 * 38) (b1 : X1 < 115792089237316195423570985008687907853269984665640564039457584007913129639936) (b2 : X2 < 115792089237316195423570985008687907853269984665640564039457584007913129639936) :
    X2 % pN = (A + 115792089237316195423570985008687907853269984665640564039457584007913129639936 * t) % pN := by
  have hc1 : c1 ≤ 1 := by omega
  have hc2 : c2 = 0 := by omega
  subst hc2
  rw [q_mod, show A + 38 * t = X1 + 115792089237316195423570985008687907853269984665640564039457584007913129639936 * c1 by omega, q_mod, show X1 + 38 * c1 = X2 by omega]
theorem fold_carry (A t c1 X1 : Nat) (hA : A < 115792089237316195423570985008687907853269984665640564039457584007913129639936) (ht : t < 18446744073709551616)
    (h1 : X1 + 115792089237316195423570985008687907853269984665640564039457584007913129639936 * c1 = A + t * 38) : c1 < 18446744073709551616 := by omega
/-- Two take away thrice. -/
theorem sub_math (A B X1 X2 X3 b1 b2 b3 : Nat) (hA : A < 115792089237316195423570985008687907853269984665640564039457584007913129639936) (hB : B < 115792089237316195423570985008687907853269984665640564039457584007913129639936)
    (k1 : X1 < 115792089237316195423570985008687907853269984665640564039457584007913129639936) (k2 : X2 < 115792089237316195423570985008687907853269984665640564039457584007913129639936) (k3 : X3 < 115792089237316195423570985008687907853269984665640564039457584007913129639936)
    (h1 : X1 + B = A + 115792089237316195423570985008687907853269984665640564039457584007913129639936 * b1) (h2 : X2 + 38 * b1 = X1 + 115792089237316195423570985008687907853269984665640564039457584007913129639936 * b2) (h3 : X3 + 38 * b2 = X2 + 115792089237316195423570985008687907853269984665640564039457584007913129639936 * b3)
    (l1 : b1 ≤ 1) (l2 : b2 ≤ 1) (l3 : b3 ≤ 1) : (X3 + B) % pN = A % pN := by
  have e3 : b3 = 0 := by omega
  subst e3
  have hb : (b1 = 0 ∧ b2 = 0) ∨ (b1 = 1 ∧ b2 = 0) ∨ (b1 = 1 ∧ b2 = 1) := by omega
  rcases hb with ⟨rfl, rfl⟩ | ⟨rfl, rfl⟩ | ⟨rfl, rfl⟩
  · rw [show X3 + B = A by omega]
  · rw [show X3 + B = A + pN * 2 by rw [pN_val]; omega, Nat.add_mul_mod_self_left]
  · rw [show X3 + B = A + pN * 4 by rw [pN_val]; omega, Nat.add_mul_mod_self_left]
/-- A difference, as the reference has it. -/
theorem sub_rest (X A B : Nat) (h : (X + B) % pN = A % pN) : X % pN = (A + (pN - B % pN)) % pN := by
  have hp := pN_pos
  have hb : B % pN < pN := Nat.mod_lt _ hp
  have e1 : (X + B + (pN - B % pN)) % pN = (A + (pN - B % pN)) % pN := by
    rw [Nat.add_mod, h, ← Nat.add_mod]
  rw [← e1]
  have e2 : X + B + (pN - B % pN) = X + pN * (B / pN + 1) := by
    have := Nat.div_add_mod B pN
    rw [Nat.mul_add, Nat.mul_one]
    generalize pN * (B / pN) = t at this ⊢
    omega
  rw [e2, Nat.add_mul_mod_self_left]
theorem mul_math (A B L H X c : Nat) (h : L + 115792089237316195423570985008687907853269984665640564039457584007913129639936 * H = A * B) (h1 : X + 115792089237316195423570985008687907853269984665640564039457584007913129639936 * c = L + 38 * H) :
    (X + 115792089237316195423570985008687907853269984665640564039457584007913129639936 * c) % pN = A * B % pN := by
  rw [h1, ← h, q_mod]
/-- The number below the prime. -/
theorem rest_math (A X c Y br : Nat) (hA : A < 115792089237316195423570985008687907853269984665640564039457584007913129639936) (hX : X < 115792089237316195423570985008687907853269984665640564039457584007913129639936) (hY : Y < 115792089237316195423570985008687907853269984665640564039457584007913129639936)
    (h1 : X + 115792089237316195423570985008687907853269984665640564039457584007913129639936 * c = A % 57896044618658097711785492504343953926634992332820282019728792003956564819968 + A / 57896044618658097711785492504343953926634992332820282019728792003956564819968 * 19)
    (h2 : Y + pN = X + 115792089237316195423570985008687907853269984665640564039457584007913129639936 * br) (hb : br ≤ 1) : (br = 1 → X = A % pN) ∧ (br = 0 → Y = A % pN) := by
  have hp := pN_val
  have e0 : X = A % 57896044618658097711785492504343953926634992332820282019728792003956564819968 + A / 57896044618658097711785492504343953926634992332820282019728792003956564819968 * 19 := by omega
  have e1 : A = X + pN * (A / 57896044618658097711785492504343953926634992332820282019728792003956564819968) := by
    have hk : A / 57896044618658097711785492504343953926634992332820282019728792003956564819968 = 0 ∨ A / 57896044618658097711785492504343953926634992332820282019728792003956564819968 = 1 := by omega
    rcases hk with hk | hk <;> rw [hk] <;> omega
  have e2 : A % pN = X % pN := by
    rw [e1, Nat.add_mul_mod_self_left]
  rw [e2]
  refine ⟨fun h => ?_, fun h => ?_⟩
  · rw [Nat.mod_eq_of_lt]
    rw [hp]
    omega
  · have : X = Y + pN := by omega
    rw [this, Nat.add_mod_right, Nat.mod_eq_of_lt]
    rw [hp]
    omega
theorem split255 (a b c d : Nat) (ha : a < 18446744073709551616) (hb : b < 18446744073709551616) (hc : c < 18446744073709551616) (hd : d < 18446744073709551616) :
    wv [a, b, c, d % 9223372036854775808] = wv [a, b, c, d] % 57896044618658097711785492504343953926634992332820282019728792003956564819968 ∧ d / 9223372036854775808 = wv [a, b, c, d] / 57896044618658097711785492504343953926634992332820282019728792003956564819968 := by
  simp only [wv]
  omega
theorem wv_prime : wv [18446744073709551597, 18446744073709551615, 18446744073709551615, 9223372036854775807] = pN := by decide +kernel

/-! ### Powers -/
/-- Words that stand for a power. -/
def Pw (x e : Nat) (l : List Nat) : Prop := wv l % pN = x ^ e % pN
theorem Pw.mul {x e f : Nat} {l m r : List Nat} (h1 : Pw x e l) (h2 : Pw x f m) (h : wv r % pN = wv l * wv m % pN) : Pw x (e + f) r := by
  unfold Pw at h1 h2 ⊢
  rw [h, Nat.mul_mod, h1, h2, ← Nat.mul_mod, Nat.pow_add]
theorem Pw.sqs {x e n : Nat} {l r : List Nat} (h1 : Pw x e l) (h : wv r % pN = wv l ^ 2 ^ n % pN) : Pw x (e * 2 ^ n) r := by
  unfold Pw at h1 ⊢
  rw [h, Nat.pow_mod, h1, ← Nat.pow_mod, Nat.pow_mul]
theorem sq_step (A X Y n : Nat) (h1 : X % pN = A ^ 2 ^ n % pN) (h : Y % pN = X * X % pN) : Y % pN = A ^ 2 ^ (n + 1) % pN := by
  rw [h, Nat.mul_mod, h1, ← Nat.mul_mod, Nat.pow_succ 2 n, Nat.mul_two, Nat.pow_add]
theorem inv_exp : 11 + (2 ^ 250 - 1) * 2 ^ 5 = exN := by decide +kernel
theorem pN_pr : Pr pN := pr_57896044618658097711785492504343953926634992332820282019728792003956564819949
theorem exN_two : exN + 1 = pN - 1 := by decide +kernel
theorem inv_one (x : Nat) (h : x % pN ≠ 0) : x ^ exN * x % pN = 1 % pN := by
  rw [← Nat.pow_succ, show exN.succ = pN - 1 from exN_two, fermat pN_pr x (fun hd => h (Nat.mod_eq_zero_of_dvd hd))]
  decide +kernel
theorem inv_zero (x : Nat) (h : x % pN = 0) : x ^ exN * x % pN = 0 % pN := by
  rw [Nat.mul_mod, h, Nat.mul_zero]

/-! ### Bytes of words -/
theorem stB_word (l : List Nat) (i k : Nat) (h : El4 l) (hi : i < 4) (hk : k < 8) : stB (wv l) (8 * i + k) = stB (l.getD i 0) k := by
  have e := word_digit l i k h.2 (by rw [h.1]; exact hi) hk
  unfold dg at e
  unfold stB
  refine UInt8.toNat_inj.1 ?_
  rw [UInt8.toNat_ofNat', UInt8.toNat_ofNat']
  exact e
theorem range_add (f : Nat → UInt8) (n : Nat) : ∀ m, (List.range (n + m)).map f = (List.range n).map f ++ (List.range m).map fun k => f (n + k)
  | 0 => by simp
  | m + 1 => by
    rw [← Nat.add_assoc, List.range_succ, List.map_append, range_add f n m, List.range_succ, List.map_append, List.append_assoc]
    rfl
theorem bytes_next (l : List Nat) (i : Nat) (h : El4 l) (hi : i < 4) : (List.range (8 * i)).map (stB (wv l)) ++ (List.range 8).map (stB (l.getD i 0)) = (List.range (8 * (i + 1))).map (stB (wv l)) := by
  rw [show 8 * (i + 1) = 8 * i + 8 by omega, range_add]
  congr 1
  refine List.map_congr_left fun k hk => ?_
  rw [stB_word l i k h hi (List.mem_range.1 hk)]
theorem enL_of {x : Nat} {l : List Nat} (h : wv l = x % pN) : (List.range 32).map (stB (wv l)) = enL x := by
  unfold enL
  rw [h]
theorem leN_append : ∀ (l m : List UInt8), leN (l ++ m) = leN l + 256 ^ l.length * leN m
  | [], m => by simp [leN]
  | x :: l, m => by
    simp only [List.cons_append, leN, leN_append l m, List.length_cons, Nat.pow_succ]
    rw [Nat.mul_comm (256 ^ l.length) 256, Nat.mul_assoc]
    omega
theorem leN_zeros : ∀ n, leN (List.replicate n 0) = 0
  | 0 => rfl
  | n + 1 => by
    simp only [List.replicate_succ, leN, leN_zeros n]
    rfl
/-- One word more out of bytes. -/
theorem dec_step (full : List UInt8) (cur : List Nat) (i : Nat) (hc : i < cur.length) (hl : full.length = 32) (hi : i < 4) (h0 : cur.getD i 0 = 0) (h : wv cur = leN (full.take (8 * i))) :
    wv (cur.set i (leN ((full.drop (8 * i)).take 8))) = leN (full.take (8 * (i + 1))) := by
  have e1 := wv_set cur i (leN ((full.drop (8 * i)).take 8)) hc
  rw [h0, Nat.mul_zero, Nat.add_zero] at e1
  rw [e1, h, show 8 * (i + 1) = 8 * i + 8 by omega, List.take_add, leN_append]
  rw [List.length_take, hl, Nat.min_eq_left (by omega), Nat.pow_mul]
theorem dec_full (b : List UInt8) : leN (b.take 32 ++ (List.replicate 32 (0 : UInt8)).drop b.length) = leN (b.take 32) := by
  rw [leN_append, List.drop_replicate, leN_zeros, Nat.mul_zero, Nat.add_zero]
theorem full_length (b : List UInt8) : (b.take 32 ++ (List.replicate 32 (0 : UInt8)).drop b.length).length = 32 := by
  simp only [List.length_append, List.length_take, List.length_drop, List.length_replicate]
  omega
theorem decN_enL (x : Nat) : decN (enL x) = x % pN := by
  unfold decN
  rw [List.take_of_length_le (by rw [enL_length]; exact Nat.le_refl _)]
  unfold enL
  rw [leN_stB, Nat.mod_eq_of_lt (rest_lt x), Nat.mod_eq_of_lt]
  have := Nat.mod_lt x pN_pos
  have e := pN_val
  omega
end Go.Proofs.Ytonnngndknoljaa
