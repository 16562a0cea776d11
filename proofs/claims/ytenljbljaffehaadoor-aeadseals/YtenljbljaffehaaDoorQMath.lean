/- Words of 32 bits: turning, quarter rounds, blocks and streams: plain mathematics. No program's text is named. -/
import Derived.Test.YtenljbljaffehaaDoorLib
namespace Go.Proofs.YtenljbljaffehaaDoor
set_option linter.unusedSimpArgs false
set_option linter.unusedVariables false

/-- A word, turned by one. -/
def tr1 (x : Nat) : Nat := if 4294967296 ≤ x * 2 then x * 2 - 4294967296 + 1 else x * 2
def trn (x : Nat) : Nat → Nat
  | 0 => x
  | n + 1 => tr1 (trn x n)
theorem tr1_lt {x : Nat} (h : x < 4294967296) : tr1 x < 4294967296 := by
  unfold tr1
  split <;> omega
theorem trn_lt {x : Nat} (h : x < 4294967296) : ∀ n, trn x n < 4294967296
  | 0 => h
  | n + 1 => tr1_lt (trn_lt h n)
/-- What goes over the top comes in below. -/
theorem trn_eq {x : Nat} (h : x < 4294967296) : ∀ n, n ≤ 32 → trn x n = x * 2 ^ n % 4294967296 + x * 2 ^ n / 4294967296
  | 0, _ => by
    show x = _
    rw [Nat.pow_zero, Nat.mul_one]
    omega
  | n + 1, hn => by
    have ih := trn_eq h n (by omega)
    have hlt := trn_lt h n
    have hq : x * 2 ^ n / 4294967296 < 2 ^ n := by
      rw [Nat.div_lt_iff_lt_mul (by decide)]
      calc x * 2 ^ n < 4294967296 * 2 ^ n := Nat.mul_lt_mul_of_lt_of_le h (Nat.le_refl _) (Nat.pow_pos (by decide))
        _ = 2 ^ n * 4294967296 := Nat.mul_comm _ _
    show tr1 (trn x n) = _
    rw [Nat.pow_succ, ← Nat.mul_assoc]
    have hdiv : (2 : Nat) ^ n ∣ x * 2 ^ n := ⟨x, Nat.mul_comm _ _⟩
    have hlow : x * 2 ^ n % 4294967296 % 2 ^ n = 0 := by
      have h2 : (2 : Nat) ^ n ∣ 4294967296 := by
        rw [show (4294967296 : Nat) = 2 ^ 32 from rfl]
        exact Nat.pow_dvd_pow 2 (by omega)
      have := Nat.mod_mod_of_dvd (x * 2 ^ n) h2
      rw [this]
      exact Nat.mod_eq_zero_of_dvd hdiv
    generalize hy : x * 2 ^ n = y at ih hq hlow ⊢
    unfold tr1
    rw [ih]
    have hr : y % 4294967296 + y / 4294967296 < 4294967296 := by rw [← ih]; exact hlt
    have hodd : ¬ (y % 4294967296 = 2147483648 - 1 ∧ False) := fun h => h.2
    by_cases hc : 2147483648 ≤ y % 4294967296
    · rw [if_pos (by omega)]
      omega
    · have h31 : y % 4294967296 + y / 4294967296 < 2147483648 := by
        have hp : 2 ^ n ≤ 2147483648 := by
          have := Nat.pow_le_pow_right (show 0 < 2 by decide) (show n ≤ 31 by omega)
          simpa using this
        have hm : ∃ m, y % 4294967296 = 2 ^ n * m := ⟨y % 4294967296 / 2 ^ n, by
          have := Nat.div_add_mod (y % 4294967296) (2 ^ n)
          omega⟩
        obtain ⟨m, hm⟩ := hm
        have hk : ∃ k, 2147483648 = 2 ^ n * k := by
          refine ⟨2 ^ (31 - n), ?_⟩
          rw [← Nat.pow_add, show n + (31 - n) = 31 by omega]
        obtain ⟨k, hk⟩ := hk
        have hmk : m < k := by
          refine Classical.byContradiction fun hge => hc ?_
          rw [hm, hk]
          exact Nat.mul_le_mul_left _ (by omega)
        have : 2 ^ n * m + 2 ^ n ≤ 2147483648 := by
          rw [hk, ← Nat.mul_succ]
          exact Nat.mul_le_mul_left _ hmk
        omega
      rw [if_neg (by omega)]
      omega
/-- Four words. -/
structure Q4 where
  a : Nat
  b : Nat
  c : Nat
  d : Nat
def Q4.ok (q : Q4) : Prop := q.a < 4294967296 ∧ q.b < 4294967296 ∧ q.c < 4294967296 ∧ q.d < 4294967296
/-- Half a quarter round. -/
def qh (p : Q4) (m n : Nat) : Q4 :=
  ⟨(p.a + p.b) % 4294967296, trn (p.b ^^^ ((p.c + trn (p.d ^^^ ((p.a + p.b) % 4294967296)) m) % 4294967296)) n, (p.c + trn (p.d ^^^ ((p.a + p.b) % 4294967296)) m) % 4294967296, trn (p.d ^^^ ((p.a + p.b) % 4294967296)) m⟩
def qr (p : Q4) : Q4 := qh (qh p 16 12) 8 7
theorem xor32 {x y : Nat} (hx : x < 4294967296) (hy : y < 4294967296) : x ^^^ y < 4294967296 := Nat.xor_lt_two_pow (n := 32) hx hy
theorem mod32 (x : Nat) : x % 4294967296 < 4294967296 := Nat.mod_lt _ (by decide)
theorem qh_ok {p : Q4} (h : p.ok) (m n : Nat) : (qh p m n).ok := by
  obtain ⟨h1, h2, h3, h4⟩ := h
  exact ⟨mod32 _, trn_lt (xor32 h2 (mod32 _)) _, mod32 _, trn_lt (xor32 h4 (mod32 _)) _⟩
theorem qr_ok {p : Q4} (h : p.ok) : (qr p).ok := qh_ok (qh_ok h _ _) _ _
/-- Sixteen words. -/
def W16 (v : List Nat) : Prop := v.length = 16 ∧ ∀ x ∈ v, x < 4294967296
theorem W16.get {v : List Nat} (h : W16 v) (i : Nat) : v.getD i 0 < 4294967296 := by
  by_cases hi : i < v.length
  · have := h.2 v[i] (List.getElem_mem hi)
    simpa [hi] using this
  · simp [Nat.not_lt.1 hi]
theorem W16.set {v : List Nat} (h : W16 v) (i : Nat) {x : Nat} (hx : x < 4294967296) : W16 (v.set i x) := by
  refine ⟨by rw [List.length_set]; exact h.1, fun y hy => ?_⟩
  rcases List.mem_or_eq_of_mem_set hy with h1 | h1
  · exact h.2 y h1
  · rw [h1]; exact hx
def q4 (v : List Nat) (i j k l : Nat) : Q4 := ⟨v.getD i 0, v.getD j 0, v.getD k 0, v.getD l 0⟩
theorem q4_ok {v : List Nat} (h : W16 v) (i j k l : Nat) : (q4 v i j k l).ok := ⟨h.get i, h.get j, h.get k, h.get l⟩
/-- The quarter round of the words at four places. -/
def qAt (v : List Nat) (i j k l : Nat) : List Nat := (((v.set i (qr (q4 v i j k l)).a).set j (qr (q4 v i j k l)).b).set k (qr (q4 v i j k l)).c).set l (qr (q4 v i j k l)).d
theorem qAt_ok {v : List Nat} (h : W16 v) (i j k l : Nat) : W16 (qAt v i j k l) := by
  obtain ⟨h1, h2, h3, h4⟩ := qr_ok (q4_ok h i j k l)
  exact (((h.set i h1).set j h2).set k h3).set l h4
def qCol (v : List Nat) : Nat → List Nat
  | 0 => v
  | k + 1 => qAt (qCol v k) k (k + 4) (k + 8) (k + 12)
def qDia (v : List Nat) : Nat → List Nat
  | 0 => v
  | k + 1 => qAt (qDia v k) k (4 + (k + 1) % 4) (8 + (k + 2) % 4) (12 + (k + 3) % 4)
def qDbl (v : List Nat) : Nat → List Nat
  | 0 => v
  | i + 1 => qDia (qCol (qDbl v i) 4) 4
theorem qCol_ok {v : List Nat} (h : W16 v) : ∀ k, W16 (qCol v k)
  | 0 => h
  | k + 1 => qAt_ok (qCol_ok h k) _ _ _ _
theorem qDia_ok {v : List Nat} (h : W16 v) : ∀ k, W16 (qDia v k)
  | 0 => h
  | k + 1 => qAt_ok (qDia_ok h k) _ _ _ _
theorem qDbl_ok {v : List Nat} (h : W16 v) : ∀ i, W16 (qDbl v i)
  | 0 => h
  | i + 1 => qDia_ok (qCol_ok (qDbl_ok h i) 4) 4
/-- A word of four bytes. -/
def w4 (b : List UInt8) (i : Nat) : Nat := leN ((b.drop (4 * i)).take 4)
theorem w4_lt (b : List UInt8) (i : Nat) : w4 b i < 4294967296 := by
  have h1 := leN_lt ((b.drop (4 * i)).take 4)
  have h2 : ((b.drop (4 * i)).take 4).length ≤ 4 := by rw [List.length_take]; omega
  have h3 := Nat.pow_le_pow_right (show 0 < 256 by decide) h2
  have h4 : 256 ^ 4 = 4294967296 := by decide
  unfold w4
  omega
/-- What a block begins with. -/
def bkW (key : List UInt8) (c : Nat) (nonce : List UInt8) : List Nat := [1634760805, 857760878, 2036477234, 1797285236] ++ (List.range 8).map (w4 key) ++ [c % 4294967296] ++ (List.range 3).map (w4 nonce)
theorem bkW_ok (key : List UInt8) (c : Nat) (nonce : List UInt8) : W16 (bkW key c nonce) := by
  refine ⟨by simp [bkW], fun x hx => ?_⟩
  simp only [bkW, List.mem_append, List.mem_cons, List.not_mem_nil, or_false, List.mem_map] at hx
  rcases hx with (((rfl | rfl | rfl | rfl) | ⟨i, -, rfl⟩) | rfl) | ⟨i, -, rfl⟩
  · decide
  · decide
  · decide
  · decide
  · exact w4_lt _ _
  · exact mod32 _
  · exact w4_lt _ _
/-- Words as bytes. -/
def wB (f : Nat → Nat) : Nat → List UInt8
  | 0 => []
  | i + 1 => wB f i ++ (List.range 4).map (stB (f i))
theorem wB_length (f : Nat → Nat) : ∀ i, (wB f i).length = 4 * i
  | 0 => rfl
  | i + 1 => by
    simp only [wB, List.length_append, wB_length f i, List.length_map, List.length_range]
    omega
/-- A block. -/
def bkL (key : List UInt8) (c : Nat) (nonce : List UInt8) : List UInt8 := wB (fun i => ((qDbl (bkW key c nonce) 10).getD i 0 + (bkW key c nonce).getD i 0) % 4294967296) 16
theorem bkL_length (key : List UInt8) (c : Nat) (nonce : List UInt8) : (bkL key c nonce).length = 64 := wB_length _ _
theorem bkL_mod (key : List UInt8) (c : Nat) (nonce : List UInt8) : bkL key (c % 4294967296) nonce = bkL key c nonce := by
  unfold bkL bkW
  rw [Nat.mod_mod]
theorem bkL_congr {key nonce : List UInt8} {c d : Nat} (h : c % 4294967296 = d % 4294967296) : bkL key c nonce = bkL key d nonce := by rw [← bkL_mod key c, h, bkL_mod]
/-- Byte i of the blocks from a counter on. -/
def ksB (key : List UInt8) (c : Nat) (nonce : List UInt8) (i : Nat) : UInt8 := (bkL key (c + i / 64) nonce).getD (i % 64) 0
/-- Bytes with the blocks' laid over them. -/
def smL (key : List UInt8) (c : Nat) (nonce b : List UInt8) : List UInt8 := (List.range b.length).map fun i => b.getD i 0 ^^^ ksB key c nonce i
theorem smL_length (key : List UInt8) (c : Nat) (nonce b : List UInt8) : (smL key c nonce b).length = b.length := by simp [smL]
theorem smL_get (key : List UInt8) (c : Nat) (nonce b : List UInt8) (i : Nat) (h : i < b.length) : (smL key c nonce b).getD i 0 = b.getD i 0 ^^^ ksB key c nonce i := by simp [smL, h]
theorem smL_congr {key nonce b : List UInt8} {c d : Nat} (h : c % 4294967296 = d % 4294967296) : smL key c nonce b = smL key d nonce b := by
  unfold smL
  refine List.map_congr_left fun i _ => ?_
  unfold ksB
  rw [bkL_congr (c := c + i / 64) (d := d + i / 64) (by omega)]
theorem smL_twice (key : List UInt8) (c : Nat) (nonce b : List UInt8) : smL key c nonce (smL key c nonce b) = b := by
  refine List.ext_getElem (by rw [smL_length, smL_length]) fun i h1 h2 => ?_
  have e1 := smL_get key c nonce (smL key c nonce b) i (by rw [smL_length]; exact h2)
  rw [smL_get key c nonce b i h2, UInt8.xor_assoc, UInt8.xor_self, UInt8.xor_zero] at e1
  simpa [h1, h2] using e1
theorem ext_getD {l m : List UInt8} (h : l.length = m.length) (hi : ∀ i, i < l.length → l.getD i 0 = m.getD i 0) : l = m := by
  refine List.ext_getElem h fun i h1 h2 => ?_
  have := hi i h1
  simpa [h1, h2] using this
theorem getD_append (l m : List UInt8) (i : Nat) : (l ++ m).getD i 0 = if i < l.length then l.getD i 0 else m.getD (i - l.length) 0 := by
  rw [List.getD_eq_getElem?_getD, List.getElem?_append]
  split <;> simp
theorem smL_parts (key : List UInt8) (c : Nat) (nonce b : List UInt8) (k : Nat) (h : 64 * k ≤ b.length) : smL key c nonce (b.take (64 * k)) ++ smL key (c + k) nonce (b.drop (64 * k)) = smL key c nonce b := by
  have hl : (b.take (64 * k)).length = 64 * k := by rw [List.length_take]; omega
  refine ext_getD (by rw [List.length_append, smL_length, smL_length, smL_length, hl, List.length_drop]; omega) fun i hi => ?_
  rw [List.length_append, smL_length, smL_length, hl, List.length_drop] at hi
  rw [smL_get key c nonce b i (by omega), getD_append, smL_length, hl]
  split
  · rename_i h3
    rw [smL_get key c nonce (b.take (64 * k)) i (by omega)]
    congr 1
    simp [h3]
  · rename_i h3
    rw [smL_get key (c + k) nonce (b.drop (64 * k)) (i - 64 * k) (by rw [List.length_drop]; omega)]
    have e2 : (b.drop (64 * k)).getD (i - 64 * k) 0 = b.getD i 0 := by
      have : 64 * k + (i - 64 * k) = i := by omega
      simp [this]
    have e3 : ksB key (c + k) nonce (i - 64 * k) = ksB key c nonce i := by
      unfold ksB
      rw [show c + k + (i - 64 * k) / 64 = c + i / 64 by omega, show (i - 64 * k) % 64 = i % 64 by omega]
    rw [e2, e3]
end Go.Proofs.YtenljbljaffehaaDoor
