/- Numbers by the prime 2^130 - 5, and the code of bytes: plain mathematics. No program's text is named. -/
import Derived.Test.YtenljbljaffehaaDoorFMath
import Derived.Test.YtenljbljaffehaaDoorLib
namespace Go.Proofs.YtenljbljaffehaaDoor
set_option linter.unusedSimpArgs false
set_option linter.unusedVariables false

def p8 : Nat := 1361129467683753853853498429727072845819
theorem p8_val : p8 = 1361129467683753853853498429727072845819 := rfl
theorem p8_pos : 0 < p8 := by decide
/-- What stands above 2^130 counts five times. -/
def fold8 (x : Nat) : Nat := x % 1361129467683753853853498429727072845824 + 5 * (x / 1361129467683753853853498429727072845824)
theorem fold8_mod (x : Nat) : fold8 x % p8 = x % p8 := by
  have e : x = fold8 x + p8 * (x / 1361129467683753853853498429727072845824) := by
    unfold fold8
    rw [p8_val]
    omega
  have := Nat.add_mul_mod_self_left (fold8 x) p8 (x / 1361129467683753853853498429727072845824)
  rw [← e] at this
  exact this.symm
theorem fold8_lt (x : Nat) (h : 1361129467683753853853498429727072845824 ≤ x) : fold8 x < x := by
  unfold fold8
  omega
/-- Digit j of what stands above 2^130. -/
theorem high8 (x j : Nat) : dg (x / 1361129467683753853853498429727072845824) j = dg x (j + 16) / 4 + dg x (j + 17) % 4 * 64 := by
  have e : (1361129467683753853853498429727072845824 : Nat) = 256 ^ 16 * 4 := by decide
  unfold dg
  rw [e, Nat.div_div_eq_div_mul, show 256 ^ 16 * 4 * 256 ^ j = 256 ^ (j + 16) * 4 by rw [Nat.pow_add, Nat.mul_comm (256 ^ j), Nat.mul_right_comm], ← Nat.div_div_eq_div_mul, show 256 ^ (j + 17) = 256 ^ (j + 16) * 256 by rw [← Nat.pow_succ], ← Nat.div_div_eq_div_mul]
  generalize x / 256 ^ (j + 16) = q
  omega
theorem low8 (x : Nat) : x % 1361129467683753853853498429727072845824 = x % 256 ^ 16 + 256 ^ 16 * (dg x 16 % 4) := by
  unfold dg
  have e : (1361129467683753853853498429727072845824 : Nat) = 256 ^ 16 * 4 := by decide
  have h : x % (256 ^ 16 * 4) = x % 256 ^ 16 + 256 ^ 16 * (x / 256 ^ 16 % 4) := by rw [Nat.mod_mul]
  rw [e, h]
  have : x / 256 ^ 16 % 256 % 4 = x / 256 ^ 16 % 4 := by omega
  rw [this]
/-- Bytes of a block, and a one above them. -/
def blkN (b : List UInt8) (j : Nat) : Nat := leN ((b.drop (16 * j)).take 16) + 256 ^ ((b.drop (16 * j)).take 16).length
/-- What a key is multiplied with. -/
def clP (key : List UInt8) : List UInt8 := (List.range 16).map fun i => if i % 4 = 3 then UInt8.ofNat ((key.getD i 0).toNat % 16) else if i % 4 = 0 ∧ 0 < i then UInt8.ofNat ((key.getD i 0).toNat / 4 * 4) else key.getD i 0
theorem clP_length (key : List UInt8) : (clP key).length = 16 := by simp [clP]
/-- The sum behind j blocks. -/
def accN (r : Nat) (b : List UInt8) : Nat → Nat
  | 0 => 0
  | j + 1 => (accN r b j + blkN b j) * r % p8
theorem accN_lt (r : Nat) (b : List UInt8) (j : Nat) : accN r b j < p8 := by
  cases j with
  | zero => exact p8_pos
  | succ j => exact Nat.mod_lt _ p8_pos
def nblk (n : Nat) : Nat := (n + 15) / 16
/-- The code of bytes. -/
def mcP (key b : List UInt8) : List UInt8 := (List.range 16).map (stB (accN (leN (clP key)) b (nblk b.length) + leN ((key.drop 16).take 16)))
theorem mcP_length (key b : List UInt8) : (mcP key b).length = 16 := by simp [mcP]
theorem mcP_none (key : List UInt8) : mcP key [] = (List.range 16).map (stB (leN ((key.drop 16).take 16))) := by
  unfold mcP
  show (List.range 16).map (stB (0 + leN ((key.drop 16).take 16))) = _
  rw [Nat.zero_add]
end Go.Proofs.YtenljbljaffehaaDoor
