/- What functions of the program, or of the reference, answer: contracts; several texts in one. -/
import Derived.Test.YtdlmmcilembjgaaGreatDoorRows
import Derived.Test.YtdlmmcilembjgaaGreatDoorBase
import Derived.Deep.QuietTactic
import Derived.BigQuiet
import Derived.WalkSpells
import Derived.Test.YtdlmmcilembjgaaGreatDoorChecked
import Derived.OwnWalk
import Derived.RegionTactic
import Derived.BigRegion
import Derived.Laws.BitsAllLaws
import Derived.WalkKit

namespace Go.Proofs.YtdlmmcilembjgaaGreatDoor
open Go.ChangeShapes Go.WideShapes Go.ChangeAt Go.RowKit
set_option linter.unusedSimpArgs false
set_option linter.unusedVariables false

set_option maxHeartbeats 400000 in
theorem refload_any (v : Value) (l : List UInt8) (w : World) (hr : Rd w v l) :
  Calls Tryz.prog 69 #[v] w fun e w' => e = .returned (.int .u64 ((leN (l.take 8) : Nat) : Int)) ∧ w' = w := by
 obtain ⟨a, cap, rfl, h2, h3, h4, h5⟩ := hr
 unfold maxLen at h3
 go_enter Tryz.func69, Tryz.ntmps69
 go_wp2
 all_goals
  go_loop [3, 5] (fun x i => ∃ k : Nat, k ≤ l.length ∧ k ≤ 8 ∧ i = .int .i64 ((k : Int) - 1) ∧ x = .int .u64 ((leN ((l.take 8).drop k) : Nat) : Int)) (fun _ i => (intOf i + 1).toNat)
  case atStart => 
   first
   | exact ⟨8, by omega, by omega, rfl, valI (by rw [List.drop_eq_nil_of_le (by simp; omega)]; rfl)⟩
   | exact ⟨l.length, by omega, by omega, rfl, valI (by rw [List.drop_eq_nil_of_le (by simp; omega)]; rfl)⟩
  case round =>
   obtain ⟨k, hk, hk8, rfl, rfl⟩ := hrel
   by_cases hlt : 0 < k
   ·obtain ⟨j, rfl⟩ : ∃ j, k = j + 1 := ⟨k - 1, by omega⟩
    rcases h5 with rfl | ⟨b, off, rfl, hc⟩
    ·simp at hk
    have hck := hc j (by omega)
    have HS : Hid _ := refload_step l j (by omega) (by omega)
    clear hc h4
    go_wp2
    go_round
    case rel => exact ⟨j, by omega, by omega, by go_num, valI (by simpa using HS.out)⟩
    case measure => simp [intOf]
   ·go_wp2
    go_ret
    refine ⟨retI ?_, rfl⟩
    have : k = 0 := by omega
    subst this
    rfl

theorem infoU8 : (Tryz.prog.info? 5).map (fun i => (i.zero, i.size, i.bytes)) = some (some (.int .u8 0), 1, 1) := by kernel_rfl

set_option maxHeartbeats 400000 in
theorem refstore_k (x : Nat) (hx : x < 18446744073709551616) (n : Int) (k : Nat) (hk : k ≤ 8) (hn : (n < 0 ∧ k = 0) ∨ (0 ≤ n ∧ n ≤ 8 ∧ n = k) ∨ (8 < n ∧ k = 8)) (w : World) :
  Calls Tryz.prog 61 #[.int .u64 x, .int .i64 n] w fun e w' => ∃ v, e = .returned v ∧ New 5 w v ((List.range k).map (stB x)) w' := by
 obtain ⟨i, hi, hz0, hz1, hz2⟩ := info_parts infoU8
 have HK : Hid ((n < 0 ∧ k = 0) ∨ (0 ≤ n ∧ n ≤ 8 ∧ n = k) ∨ (8 < n ∧ k = 8)) := hn
 clear hn
 go_enter Tryz.func61, Tryz.ntmps61
 go_wp2
 go_loopw [0, 5, 6] (fun xv v i wr => ∃ j y : Nat, j ≤ k ∧ Hid (y = x / 256 ^ j) ∧ xv = .int .u64 (y : Int) ∧ i = .int .i64 j ∧ New 5 w v ((List.range j).map (stB x)) wr) (fun _ _ i _ => k - (intOf i).toNat)
 case atStart => exact ⟨0, x, Nat.zero_le _, by simp [Hid], rfl, rfl, New.start w⟩
 case round =>
  obtain ⟨j, y, hj, Hy, rfl, rfl, hN⟩ := hrel
  have hy : (0 : Int) ≤ (y : Int) := by omega
  have hy2 : (y : Int) < 18446744073709551616 := by have := Hy.out; have := Nat.div_le_self x (256 ^ j); omega
  by_cases hlt : j < k
  ·have h1 : (j : Int) < n := by have := HK.out; omega
   have h2 : (j : Int) < 8 := by omega
   go_wp2_with (at_builtin; go_must (refine wpList_append_new (w := w) rfl _ _ 26 rfl 5 Tryz.underlying26 infoU8 _ _ rfl (hN.alloc _) _ _ rfl (Rd.lit1 (stB x j) (by rw [← stB_mod, ← Hy.out])) (by simp; omega) ?_))
   intro v' w2 hN2 _
   go_wp2
   go_roundw
   case rel => exact ⟨j + 1, y / 256, by omega, by rw [Hy.out]; exact div_succ x j, by go_num, by go_num, by rw [List.range_succ, List.map_append]; exact hN2⟩
   case measure => simp [intOf]; omega
  ·have hjk : j = k := by omega
   subst hjk
   have hno : ¬ (j : Int) < n ∨ ((j : Int) < n ∧ ¬ (j : Int) < 8) := by have := HK.out; omega
   rcases hno with h1 | ⟨h1, h2⟩
   all_goals
    go_wp2
    go_ret
    exact ⟨_, rfl, hN⟩
end Go.Proofs.YtdlmmcilembjgaaGreatDoor

namespace Go.Proofs.YtdlmmcilembjgaaGreatDoor
set_option linter.unusedSimpArgs false
set_option linter.unusedVariables false

def piF (f : Nat → Nat) (i : Nat) : Nat := f ((i % 5 + 3 * (i / 5)) % 5 + 5 * (i % 5))
def chB (f : Nat → Nat) (x y z : Nat) : Bool := decide ((bitN f x y z + if bitN f ((x + 1) % 5) y z = 0 ∧ bitN f ((x + 2) % 5) y z = 1 then 1 else 0) % 2 = 1)
def chF (f : Nat → Nat) (i : Nat) : Nat := ofB (chB f (i % 5) (i / 5)) 64
def rhXY : Nat → Nat × Nat
 | 0 => (1, 0)
 | t + 1 => ((rhXY t).2, (2 * (rhXY t).1 + 3 * (rhXY t).2) % 5)
def rhPos (t : Nat) : Nat := (rhXY t).1 + 5 * (rhXY t).2
def rhBy (t : Nat) : Nat := (t + 1) * (t + 2) / 2 % 64
def rhTau (i : Nat) : Nat := (List.range 24).findIdx fun t => rhPos t == i
theorem rhXY_lt : ∀ t, t < 25 → (rhXY t).1 < 5 ∧ (rhXY t).2 < 5 := by decide
theorem rhPos_tau : ∀ i, i < 25 → i ≠ 0 → rhTau i < 24 ∧ rhPos (rhTau i) = i := by decide
def rhG (f : Nat → Nat) (t z p : Nat) : Bool := decide ((p + 64 - rhBy t) % 64 < z) && decide (bitN f (rhXY t).1 (rhXY t).2 ((p + 64 - rhBy t) % 64) = 1)
def rhF (f : Nat → Nat) (i : Nat) : Nat := if i = 0 then f 0 else ofB (rhG f (rhTau i) 64) 64
theorem rhBy_lt (t : Nat) : rhBy t < 64 := Nat.mod_lt _ (by decide)
def rcStep (r : List Int) : List Int :=
 [r.getD 7 0 % 2, r.getD 0 0, r.getD 1 0, r.getD 2 0, (r.getD 3 0 + r.getD 7 0) % 2, (r.getD 4 0 + r.getD 7 0) % 2, (r.getD 5 0 + r.getD 7 0) % 2, r.getD 6 0]
def rcS : Nat → List Int
 | 0 => [1, 0, 0, 0, 0, 0, 0, 0]
 | n + 1 => rcStep (rcS n)
def rcB (t : Nat) : Bool := decide ((rcS (t % 255)).getD 0 0 = 1)
def ioT (i J p : Nat) : Bool := (List.range J).any fun j => decide (p = 2 ^ j - 1) && rcB (j + 7 * i)
def ioG (x i J p : Nat) : Bool := Bool.xor (decide (x / 2 ^ p % 2 = 1)) (ioT i J p)
def ioL (x i J : Nat) : Nat := ofB (ioG x i J) 64
def ioF (f : Nat → Nat) (i k : Nat) : Nat := if k = 0 then ioL (f 0) i 7 else f k
theorem ioL_lt (x i J : Nat) : ioL x i J < 18446744073709551616 := ofB_64 _ _ (Nat.le_refl _)
theorem thF_lt (f : Nat → Nat) (i : Nat) : thF f i < 18446744073709551616 := ofB_64 _ _ (Nat.le_refl _)
theorem chF_lt (f : Nat → Nat) (i : Nat) : chF f i < 18446744073709551616 := ofB_64 _ _ (Nat.le_refl _)
theorem piF_lt (f : Nat → Nat) (hf : ∀ i, f i < 18446744073709551616) (i : Nat) : piF f i < 18446744073709551616 := hf _
theorem ioF_lt (f : Nat → Nat) (hf : ∀ i, f i < 18446744073709551616) (j i : Nat) : ioF f j i < 18446744073709551616 := by
 unfold ioF
 split
 ·exact ioL_lt _ _ _
 ·exact hf i
def rdF (f : Nat → Nat) (i : Nat) : Nat → Nat := ioF (chF (piF (rhF (thF f)))) i
theorem rdF_lt (f : Nat → Nat) (j i : Nat) : rdF f j i < 18446744073709551616 := ioF_lt _ (chF_lt _) _ _
def rdsF (f : Nat → Nat) : Nat → Nat → Nat
 | 0 => f
 | n + 1 => rdF (rdsF f n) n
theorem rdsF_lt (f : Nat → Nat) (hf : ∀ i, f i < 18446744073709551616) : ∀ n i, rdsF f n i < 18446744073709551616
 | 0, i => hf i
 | n + 1, i => rdF_lt _ _ _
def bt (x z : Nat) : Nat := x / 2 ^ z % 2
theorem bt_lt (x z : Nat) : bt x z < 2 := Nat.mod_lt _ (by decide)
theorem bt_test (x z : Nat) : x.testBit z = decide (bt x z = 1) := Nat.testBit_eq_decide_div_mod_eq
theorem bt_of (x z : Nat) : bt x z = (x.testBit z).toNat := by
 rw [bt_test]
 have := bt_lt x z
 have h : bt x z = 0 ∨ bt x z = 1 := by omega
 rcases h with h | h <;> simp [h]
theorem bitN_bt (f : Nat → Nat) (x y z : Nat) : bitN f x y z = bt (f (x + 5 * y)) z := rfl
theorem bt_xor (x y z : Nat) : bt (x ^^^ y) z = (bt x z + bt y z) % 2 := by
 simp only [bt_of, Nat.testBit_xor]
 cases x.testBit z <;> cases y.testBit z <;> rfl
theorem bt_and (x y z : Nat) : bt (x &&& y) z = bt x z * bt y z := by
 simp only [bt_of, Nat.testBit_and]
 cases x.testBit z <;> cases y.testBit z <;> rfl
theorem ext64 {x y : Nat} (hx : x < 18446744073709551616) (hy : y < 18446744073709551616) (h : ∀ z, z < 64 → bt x z = bt y z) : x = y := lanes_ext hx hy h
theorem xor_lt64 {x y : Nat} (hx : x < 18446744073709551616) (hy : y < 18446744073709551616) : x ^^^ y < 18446744073709551616 := by
 have h64 : (2 : Nat) ^ 64 = 18446744073709551616 := by decide
 rw [← h64] at *
 exact Nat.xor_lt_two_pow hx hy

def rotN (x n : Nat) : Nat := x * 2 ^ n % 18446744073709551616 + x / 2 ^ (64 - n)
theorem rotN_bit (x n z : Nat) (hx : x < 18446744073709551616) (hn : n < 64) (hn0 : 0 < n) (hz : z < 64) : bt (rotN x n) z = bt x ((z + 64 - n) % 64) := by
 have h64 : (18446744073709551616 : Nat) = 2 ^ n * 2 ^ (64 - n) := by rw [← Nat.pow_add, show n + (64 - n) = 64 by omega]
 have hB : x / 2 ^ (64 - n) < 2 ^ n := by
  refine Nat.div_lt_of_lt_mul ?_
  rw [Nat.mul_comm, ← h64]
  exact hx
 have e1 : rotN x n = 2 ^ n * (x % 2 ^ (64 - n)) + x / 2 ^ (64 - n) := by
  unfold rotN
  rw [h64, Nat.mul_comm x, Nat.mul_mod_mul_left]
 rw [e1]
 by_cases h : z < n
 ·have hz2 : (z + 64 - n) % 64 = 64 - n + z := by omega
  rw [hz2]
  unfold bt
  obtain ⟨d, hd⟩ : ∃ d, n = z + (d + 1) := ⟨n - z - 1, by omega⟩
  have e2 : 2 ^ n * (x % 2 ^ (64 - n)) = 2 ^ z * (2 * (2 ^ d * (x % 2 ^ (64 - n)))) := by
   rw [hd, Nat.pow_add, Nat.pow_succ]
   ac_rfl
  rw [e2, Nat.add_comm, Nat.add_mul_div_left _ _ (Nat.pow_pos (by decide)), Nat.add_mul_mod_self_left, Nat.div_div_eq_div_mul, ← Nat.pow_add]
 ·have hz2 : (z + 64 - n) % 64 = z - n := by omega
  rw [hz2]
  have e3 : (2 ^ n * (x % 2 ^ (64 - n)) + x / 2 ^ (64 - n)) / 2 ^ z = x % 2 ^ (64 - n) / 2 ^ (z - n) := by
   obtain ⟨d, hd⟩ : ∃ d, z = n + d := ⟨z - n, by omega⟩
   rw [hd, Nat.pow_add, ← Nat.div_div_eq_div_mul, Nat.mul_add_div (Nat.pow_pos (by decide)), Nat.div_eq_of_lt hB, Nat.add_zero, Nat.add_sub_cancel_left]
  have e4 : bt (x % 2 ^ (64 - n)) (z - n) = bt x (z - n) := by
   rw [bt_of, bt_of, Nat.testBit_mod_two_pow]
   simp [show z - n < 64 - n by omega]
  unfold bt at e4 ⊢
  rw [e3]
  exact e4
theorem rotN_lt (x n : Nat) (hx : x < 18446744073709551616) (hn : n < 64) : rotN x n < 18446744073709551616 := by
 have h64 : (18446744073709551616 : Nat) = 2 ^ n * 2 ^ (64 - n) := by rw [← Nat.pow_add, show n + (64 - n) = 64 by omega]
 have hB : x / 2 ^ (64 - n) < 2 ^ n := by
  refine Nat.div_lt_of_lt_mul ?_
  rw [Nat.mul_comm, ← h64]
  exact hx
 have e1 : rotN x n = 2 ^ n * (x % 2 ^ (64 - n)) + x / 2 ^ (64 - n) := by
  unfold rotN
  rw [h64, Nat.mul_comm x, Nat.mul_mod_mul_left]
 have h2 : x % 2 ^ (64 - n) + 1 ≤ 2 ^ (64 - n) := Nat.mod_lt _ (Nat.pow_pos (by decide))
 have h3 := Nat.mul_le_mul_left (2 ^ n) h2
 rw [← h64, Nat.mul_add] at h3
 omega
def turnN (x n : Nat) : Nat := if n = 0 then x else rotN x n
theorem turnN_bit (x n z : Nat) (hx : x < 18446744073709551616) (hn : n < 64) (hz : z < 64) : bt (turnN x n) z = bt x ((z + 64 - n) % 64) := by
 unfold turnN
 split
 ·rename_i h; subst h; rw [show (z + 64 - 0) % 64 = z by omega]
 ·exact rotN_bit x n z hx hn (by omega) hz
theorem turnN_lt (x n : Nat) (hx : x < 18446744073709551616) (hn : n < 64) : turnN x n < 18446744073709551616 := by
 unfold turnN
 split
 ·exact hx
 ·exact rotN_lt x n hx hn

def colN (f : Nat → Nat) (x : Nat) : Nat := f x ^^^ f (x + 5) ^^^ f (x + 10) ^^^ f (x + 15) ^^^ f (x + 20)
def thL (f : Nat → Nat) (k : Nat) : Nat := f k ^^^ colN f ((k % 5 + 4) % 5) ^^^ turnN (colN f ((k % 5 + 1) % 5)) 1
theorem colN_lt (f : Nat → Nat) (hf : ∀ i, f i < 18446744073709551616) (x : Nat) : colN f x < 18446744073709551616 :=
 xor_lt64 (xor_lt64 (xor_lt64 (xor_lt64 (hf _) (hf _)) (hf _)) (hf _)) (hf _)
theorem colN_bit (f : Nat → Nat) (x z : Nat) : bt (colN f x) z = (bitN f x 0 z + bitN f x 1 z + bitN f x 2 z + bitN f x 3 z + bitN f x 4 z) % 2 := by
 unfold colN
 simp only [bt_xor, bitN_bt]
 simp only [Nat.mul_zero, Nat.add_zero, Nat.mul_one, show 5 * 2 = 10 from rfl, show 5 * 3 = 15 from rfl, show 5 * 4 = 20 from rfl]
 omega
theorem thL_lt (f : Nat → Nat) (hf : ∀ i, f i < 18446744073709551616) (k : Nat) : thL f k < 18446744073709551616 :=
 xor_lt64 (xor_lt64 (hf _) (colN_lt f hf _)) (turnN_lt _ _ (colN_lt f hf _) (by decide))
theorem ofB_bt (g : Nat → Bool) (z : Nat) (hz : z < 64) : bt (ofB g 64) z = if g z then 1 else 0 := ofB_bit g 64 z hz
theorem if_odd (n : Nat) (b : Bool) (h : b = decide (n % 2 = 1)) : (if b then 1 else 0) = n % 2 := by
 subst h
 have := Nat.mod_two_eq_zero_or_one n
 rcases this with h | h <;> simp [h]
theorem thL_eq (f : Nat → Nat) (hf : ∀ i, f i < 18446744073709551616) (k : Nat) (hk : k < 25) : thL f k = thF f k := by
 refine ext64 (thL_lt f hf k) (thF_lt f k) fun z hz => ?_
 unfold thL thF
 rw [bt_xor, bt_xor, turnN_bit _ _ _ (colN_lt f hf _) (by decide) hz, colN_bit, colN_bit, ofB_bt _ _ hz, if_odd (thN f (k % 5) z 5 + bitN f (k % 5) (k / 5) z) (thB f (k % 5) (k / 5) z) rfl]
 simp only [thN]
 have e : k % 5 + 5 * (k / 5) = k := by omega
 rw [show bt (f k) z = bitN f (k % 5) (k / 5) z from by rw [bitN_bt, e]]
 rw [show (z + 64 - 1) % 64 = (z + 63) % 64 by omega]
 omega

def rhL (f : Nat → Nat) (i : Nat) : Nat := if i = 0 then f 0 else turnN (f i) (rhBy (rhTau i))
theorem rhL_lt (f : Nat → Nat) (hf : ∀ i, f i < 18446744073709551616) (k : Nat) : rhL f k < 18446744073709551616 := by
 unfold rhL
 split
 ·exact hf 0
 ·exact turnN_lt _ _ (hf _) (rhBy_lt _)
theorem rhL_eq (f : Nat → Nat) (hf : ∀ i, f i < 18446744073709551616) (k : Nat) (hk : k < 25) : rhL f k = rhF f k := by
 unfold rhL rhF
 split
 ·rfl
 ·rename_i h0
  refine ext64 (turnN_lt _ _ (hf _) (rhBy_lt _)) (ofB_64 _ _ (Nat.le_refl _)) fun z hz => ?_
  obtain ⟨h1, h2⟩ := rhPos_tau k hk h0
  rw [turnN_bit _ _ _ (hf _) (rhBy_lt _) hz, ofB_bt _ _ hz]
  unfold rhG
  rw [bitN_bt, show (rhXY (rhTau k)).1 + 5 * (rhXY (rhTau k)).2 = k from h2]
  have hlt : (z + 64 - rhBy (rhTau k)) % 64 < 64 := Nat.mod_lt _ (by decide)
  have hb := bt_lt (f k) ((z + 64 - rhBy (rhTau k)) % 64)
  have hc : bt (f k) ((z + 64 - rhBy (rhTau k)) % 64) = 0 ∨ bt (f k) ((z + 64 - rhBy (rhTau k)) % 64) = 1 := by omega
  rcases hc with hc | hc <;> simp [hlt, hc]

theorem sub_and (x y : Nat) : x - (x &&& y) = x ^^^ (x &&& y) := by
 have h : (x ^^^ (x &&& y)) + (x &&& y) = x := by
  have hle : x < 2 ^ (x + 1) := Nat.lt_of_lt_of_le Nat.lt_two_pow_self (Nat.pow_le_pow_right (by decide) (by omega))
  have ha : x &&& y < 2 ^ (x + 1) := Nat.lt_of_le_of_lt Nat.and_le_left hle
  have hx : x ^^^ (x &&& y) < 2 ^ (x + 1) := Nat.xor_lt_two_pow hle ha
  have e0 : BitVec.ofNat (x + 1) (x ^^^ (x &&& y)) &&& BitVec.ofNat (x + 1) (x &&& y) = 0#(x + 1) := by
   apply BitVec.eq_of_getLsbD_eq
   intro i hi
   simp only [BitVec.getLsbD_and, BitVec.getLsbD_ofNat, Nat.testBit_xor, Nat.testBit_and, BitVec.getLsbD_zero]
   cases x.testBit i <;> cases y.testBit i <;> simp
  have e1 := BitVec.add_eq_or_of_and_eq_zero _ _ e0
  have e2 := congrArg BitVec.toNat e1
  rw [BitVec.toNat_add, BitVec.toNat_or, BitVec.toNat_ofNat, BitVec.toNat_ofNat, Nat.mod_eq_of_lt hx, Nat.mod_eq_of_lt ha] at e2
  have e3 : (x ^^^ (x &&& y)) ||| (x &&& y) = x := by
   apply Nat.eq_of_testBit_eq
   intro i
   simp only [Nat.testBit_or, Nat.testBit_xor, Nat.testBit_and]
   cases x.testBit i <;> cases y.testBit i <;> rfl
  rw [e3] at e2
  have hx2 : (x ^^^ (x &&& y)) ≤ x := by
   have := Nat.mod_le ((x ^^^ (x &&& y)) + (x &&& y)) (2 ^ (x + 1))
   have h1 : (x ^^^ (x &&& y)) ||| (x &&& y) = x := e3
   have h2 : (x ^^^ (x &&& y)) ≤ (x ^^^ (x &&& y)) ||| (x &&& y) := Nat.left_le_or
   omega
  have hsum : (x ^^^ (x &&& y)) + (x &&& y) < 2 ^ (x + 1) := by
   have h1 : x &&& y ≤ x := Nat.and_le_left
   have h2 : 2 * x < 2 ^ (x + 1) := by rw [Nat.pow_succ]; have := @Nat.lt_two_pow_self x; omega
   omega
  rwa [Nat.mod_eq_of_lt hsum] at e2
 omega
def chL (f : Nat → Nat) (k : Nat) : Nat := f k ^^^ (f (k - k % 5 + (k % 5 + 2) % 5) - (f (k - k % 5 + (k % 5 + 2) % 5) &&& f (k - k % 5 + (k % 5 + 1) % 5)))
theorem chL_lt (f : Nat → Nat) (hf : ∀ i, f i < 18446744073709551616) (k : Nat) : chL f k < 18446744073709551616 :=
 xor_lt64 (hf _) (Nat.lt_of_le_of_lt (Nat.sub_le _ _) (hf _))
theorem chL_eq (f : Nat → Nat) (hf : ∀ i, f i < 18446744073709551616) (k : Nat) (hk : k < 25) : chL f k = chF f k := by
 refine ext64 (chL_lt f hf k) (chF_lt f k) fun z hz => ?_
 unfold chL chF
 rw [bt_xor, sub_and, bt_xor, bt_and, ofB_bt _ _ hz]
 unfold chB
 have e0 : k % 5 + 5 * (k / 5) = k := by omega
 have e1 : k - k % 5 + (k % 5 + 1) % 5 = (k % 5 + 1) % 5 + 5 * (k / 5) := by omega
 have e2 : k - k % 5 + (k % 5 + 2) % 5 = (k % 5 + 2) % 5 + 5 * (k / 5) := by omega
 rw [e1, e2, bitN_bt, bitN_bt, bitN_bt, e0]
 have h0 := bt_lt (f k) z
 have h1 := bt_lt (f ((k % 5 + 1) % 5 + 5 * (k / 5))) z
 have h2 := bt_lt (f ((k % 5 + 2) % 5 + 5 * (k / 5))) z
 generalize bt (f k) z = a at *
 generalize bt (f ((k % 5 + 1) % 5 + 5 * (k / 5))) z = b at *
 generalize bt (f ((k % 5 + 2) % 5 + 5 * (k / 5))) z = c at *
 have ha : a = 0 ∨ a = 1 := by omega
 have hb : b = 0 ∨ b = 1 := by omega
 have hc : c = 0 ∨ c = 1 := by omega
 rcases ha with rfl | rfl <;> rcases hb with rfl | rfl <;> rcases hc with rfl | rfl <;> decide
def kst : List Nat := [0x0000000000000001, 0x0000000000008082, 0x800000000000808a, 0x8000000080008000, 0x000000000000808b, 0x0000000080000001, 0x8000000080008081, 0x8000000000008009,
 0x000000000000008a, 0x0000000000000088, 0x0000000080008009, 0x000000008000000a, 0x000000008000808b, 0x800000000000008b, 0x8000000000008089, 0x8000000000008003,
 0x8000000000008002, 0x8000000000000080, 0x000000000000800a, 0x800000008000000a, 0x8000000080008081, 0x8000000000008080, 0x0000000080000001, 0x8000000080008008]
theorem kst_eq : ∀ i, i < 24 → ofB (ioT i 7) 64 = kst.getD i 0 := by decide +kernel
theorem kst_lt : ∀ i, i < 24 → kst.getD i 0 < 18446744073709551616 := by decide
theorem ioL_xor (x i : Nat) (hx : x < 18446744073709551616) (hi : i < 24) : ioL x i 7 = x ^^^ kst.getD i 0 := by
 rw [← kst_eq i hi]
 refine ext64 (ioL_lt _ _ _) (xor_lt64 hx (ofB_64 _ _ (Nat.le_refl _))) fun z hz => ?_
 unfold ioL
 rw [bt_xor, ofB_bt _ _ hz, ofB_bt _ _ hz]
 unfold ioG
 have hb := bt_lt x z
 have hc : bt x z = 0 ∨ bt x z = 1 := by omega
 rw [show x / 2 ^ z % 2 = bt x z from rfl]
 rcases hc with hc | hc <;> cases ioT i 7 z <;> simp [hc]

theorem bitN_congr {f g : Nat → Nat} (h : ∀ i, i < 25 → f i = g i) (x y z : Nat) (hx : x < 5) (hy : y < 5) : bitN f x y z = bitN g x y z := by
 unfold bitN
 rw [h _ (by omega)]
theorem thN_congr {f g : Nat → Nat} (h : ∀ i, i < 25 → f i = g i) (x z : Nat) : ∀ Y, Y ≤ 5 → thN f x z Y = thN g x z Y
 | 0, _ => rfl
 | Y + 1, hY => by
  unfold thN
  rw [thN_congr h x z Y (by omega), bitN_congr h _ Y z (by omega) (by omega), bitN_congr h _ Y _ (by omega) (by omega)]
theorem thF_congr {f g : Nat → Nat} (h : ∀ i, i < 25 → f i = g i) (k : Nat) (hk : k < 25) : thF f k = thF g k := by
 unfold thF
 refine ofB_congr 64 fun z hz => ?_
 unfold thB
 rw [thN_congr h _ z 5 (Nat.le_refl _), bitN_congr h _ _ z (by omega) (by omega)]
theorem rhF_congr {f g : Nat → Nat} (h : ∀ i, i < 25 → f i = g i) (k : Nat) (hk : k < 25) : rhF f k = rhF g k := by
 unfold rhF
 split
 ·exact h 0 (by omega)
 ·rename_i h0
  refine ofB_congr 64 fun z hz => ?_
  unfold rhG
  have hxy := rhXY_lt (rhTau k) (by have := (rhPos_tau k hk h0).1; omega)
  rw [bitN_congr h _ _ _ hxy.1 hxy.2]
theorem piF_congr {f g : Nat → Nat} (h : ∀ i, i < 25 → f i = g i) (k : Nat) (hk : k < 25) : piF f k = piF g k := h _ (by omega)
theorem chF_congr {f g : Nat → Nat} (h : ∀ i, i < 25 → f i = g i) (k : Nat) (hk : k < 25) : chF f k = chF g k := by
 unfold chF
 refine ofB_congr 64 fun z hz => ?_
 unfold chB
 rw [bitN_congr h _ _ z (by omega) (by omega), bitN_congr h ((k % 5 + 1) % 5) _ z (by omega) (by omega), bitN_congr h ((k % 5 + 2) % 5) _ z (by omega) (by omega)]
theorem ioF_congr {f g : Nat → Nat} (h : ∀ i, i < 25 → f i = g i) (i k : Nat) (hk : k < 25) : ioF f i k = ioF g i k := by
 unfold ioF
 split
 ·rw [h 0 (by omega)]
 ·exact h k hk
theorem rdF_congr {f g : Nat → Nat} (h : ∀ i, i < 25 → f i = g i) (i k : Nat) (hk : k < 25) : rdF f i k = rdF g i k :=
 ioF_congr (fun _ h4 => chF_congr (fun _ h3 => piF_congr (fun _ h2 => rhF_congr (fun _ h1 => thF_congr h _ h1) _ h2) _ h3) _ h4) i k hk
theorem rdsF_congr {f g : Nat → Nat} (h : ∀ i, i < 25 → f i = g i) : ∀ n k, k < 25 → rdsF f n k = rdsF g n k
 | 0, k, hk => h k hk
 | n + 1, k, hk => rdF_congr (rdsF_congr h n) n k hk

def ioK (f : Nat → Nat) (i k : Nat) : Nat := if k = 0 then f 0 ^^^ kst.getD i 0 else f k
def rdL (f : Nat → Nat) (i : Nat) : Nat → Nat := ioK (chL (piF (rhL (thL f)))) i
theorem rdL_eq (f : Nat → Nat) (hf : ∀ i, f i < 18446744073709551616) (i : Nat) (hi : i < 24) (k : Nat) (hk : k < 25) : rdL f i k = rdF f i k := by
 have h1 : ∀ j, j < 25 → thL f j = thF f j := fun j hj => thL_eq f hf j hj
 have h2 : ∀ j, j < 25 → rhL (thL f) j = rhF (thF f) j := fun j hj => (rhL_eq _ (thL_lt f hf) j hj).trans (rhF_congr h1 j hj)
 have h3 : ∀ j, j < 25 → piF (rhL (thL f)) j = piF (rhF (thF f)) j := fun j hj => piF_congr h2 j hj
 have h4 : ∀ j, j < 25 → chL (piF (rhL (thL f))) j = chF (piF (rhF (thF f))) j := fun j hj =>
  (chL_eq _ (piF_lt _ (rhL_lt _ (thL_lt f hf))) j hj).trans (chF_congr h3 j hj)
 unfold rdL rdF ioK ioF
 by_cases e : k = 0
 ·rw [if_pos e, if_pos e, ioL_xor _ _ (chF_lt _ _) hi, h4 0 (by omega)]
 ·rw [if_neg e, if_neg e, h4 k hk]
theorem rdL_lt (f : Nat → Nat) (hf : ∀ i, f i < 18446744073709551616) (i : Nat) (hi : i < 24) (k : Nat) : rdL f i k < 18446744073709551616 := by
 unfold rdL ioK
 have h := chL_lt _ (piF_lt _ (rhL_lt _ (thL_lt f hf)))
 split
 ·exact xor_lt64 (h 0) (kst_lt i hi)
 ·exact h k
def rdsL (f : Nat → Nat) : Nat → Nat → Nat
 | 0 => f
 | n + 1 => rdL (rdsL f n) n
theorem rdsL_lt (f : Nat → Nat) (hf : ∀ i, f i < 18446744073709551616) : ∀ n, n ≤ 24 → ∀ k, rdsL f n k < 18446744073709551616
 | 0, _, k => hf k
 | n + 1, hn, k => rdL_lt _ (rdsL_lt f hf n (by omega)) n (by omega) k
theorem rdsL_eq (f : Nat → Nat) (hf : ∀ i, f i < 18446744073709551616) : ∀ n, n ≤ 24 → ∀ k, k < 25 → rdsL f n k = rdsF f n k
 | 0, _, _, _ => rfl
 | n + 1, hn, k, hk => (rdL_eq _ (rdsL_lt f hf n (by omega)) n (by omega) k hk).trans (rdF_congr (rdsL_eq f hf n (by omega)) n k hk)
theorem rdsL_st (f : Nat → Nat) (hf : ∀ i, f i < 18446744073709551616) : stL (rdsL f 24) = stL (rdsF f 24) := stL_congr fun k hk => rdsL_eq f hf 24 (Nat.le_refl _) k hk
end Go.Proofs.YtdlmmcilembjgaaGreatDoor

namespace Go.Proofs.YtdlmmcilembjgaaGreatDoor
open Go.ChangeShapes Go.WideShapes Go.ChangeAt Go.RowKit
set_option linter.unusedSimpArgs false
set_option linter.unusedVariables false

set_option maxRecDepth 100000 in
set_option maxHeartbeats 1000000 in
theorem turnR_any (x n : Nat) (hx : x < 4294967296) (hn : n ≤ 32) (X M : Int) (hX : X = (x : Int)) (hM : M = (n : Int)) (w : World) :
  Calls Tryz.prog 105 #[.int .u64 X, .int .i64 M] w fun e w' => e = .returned (.int .u64 ((trn x n : Nat) : Int)) ∧ w' = w := by
 subst hX hM
 go_enter Tryz.func105, Tryz.ntmps105
 go_wp2
 go_loop [0, 5] (fun xv iv => ∃ i y : Nat, i ≤ n ∧ iv = .int .i64 (i : Int) ∧ xv = .int .u64 (y : Int) ∧ y < 4294967296 ∧ Hid (y = trn x i)) (fun _ iv => n - (intOf iv).toNat)
 case atStart => exact ⟨0, x, by omega, rfl, rfl, hx, (by show _ = _; rfl)⟩
 case round =>
  obtain ⟨i, y, hi, rfl, rfl, hy, HY⟩ := hrel
  by_cases hlt : i < n
  ·have hd : decide ((i : Int) < (n : Int)) = true := decide_eq_true (by omega)
   have hiI : (i : Int) < (n : Int) := by omega
   obtain ⟨y2, hy2⟩ : ∃ z : Nat, z = y * 2 := ⟨_, rfl⟩
   have e1 : IntKind.u64.wrap ((y : Int) * 2) = (y2 : Int) := by rw [IntKind.wrap_u64]; omega
   by_cases hc : 4294967296 ≤ y2
   ·have hd2 : decide ((4294967296 : Int) ≤ (y2 : Int)) = true := decide_eq_true (by omega)
    have hc2 : (4294967296 : Int) ≤ (y2 : Int) := by omega
    obtain ⟨y3, hy3⟩ : ∃ z : Nat, z = y2 - 4294967296 := ⟨_, rfl⟩
    obtain ⟨y4, hy4⟩ : ∃ z : Nat, z = y3 + 1 := ⟨_, rfl⟩
    have e2 : IntKind.u64.wrap ((y2 : Int) - 4294967296) = (y3 : Int) := by rw [IntKind.wrap_u64]; omega
    have e3 : IntKind.u64.wrap ((y3 : Int) + 1) = (y4 : Int) := by rw [IntKind.wrap_u64]; omega
    have HY2 : Hid (y4 = trn x (i + 1)) := by
     show y4 = tr1 (trn x i)
     rw [← HY.out]
     unfold tr1
     rw [if_pos (by omega)]
     omega
    have h4 : y4 < 4294967296 := by omega
    clear hy2 hy3 hy4 HY
    go_wp2
    go_round
    case rel => exact ⟨i + 1, y4, by omega, by go_num, rfl, h4, HY2⟩
    case measure => simp [intOf] <;> omega
   ·have hd2 : decide ((4294967296 : Int) ≤ (y2 : Int)) = false := decide_eq_false (by omega)
    have hc2 : (y2 : Int) < 4294967296 := by omega
    have HY2 : Hid (y2 = trn x (i + 1)) := by
     show y2 = tr1 (trn x i)
     rw [← HY.out]
     unfold tr1
     rw [if_neg (by omega)]
     omega
    have h4 : y2 < 4294967296 := by omega
    clear hy2 HY
    go_wp2
    go_round
    case rel => exact ⟨i + 1, y2, by omega, by go_num, rfl, h4, HY2⟩
    case measure => simp [intOf] <;> omega
  ·have hie : i = n := by omega
   have hd : decide ((i : Int) < (n : Int)) = false := decide_eq_false (by omega)
   have hiI : (n : Int) ≤ (i : Int) := by omega
   have HY2 : Hid (y = trn x n) := by rw [← hie]; exact HY
   clear HY hie
   go_wp2
   go_ret
   exact ⟨by rw [← HY2.out]; rfl, rfl⟩

def qk (q : Q4) : Nat → Q4
 | 0 => q
 | 1 => qh q 16 12
 | _ => qr q
theorem qk_ok {q : Q4} (h : q.ok) (k : Nat) : (qk q k).ok := by
 match k with
 | 0 => exact h
 | 1 => exact qh_ok h _ _
 | (n + 2) => exact qr_ok h
theorem qk_next (q : Q4) (k m n : Nat) (hk : (k = 0 ∧ m = 16 ∧ n = 12) ∨ (k = 1 ∧ m = 8 ∧ n = 7)) : qh (qk q k) m n = qk q (k + 1) := by
 rcases hk with ⟨rfl, rfl, rfl⟩ | ⟨rfl, rfl, rfl⟩ <;> rfl
def byL : List Nat := [16, 12, 8, 7]

set_option maxRecDepth 100000 in
set_option maxHeartbeats 2000000 in
theorem quarterR_any (q : Q4) (hq : q.ok) (A B C D : Int) (hA : A = (q.a : Int)) (hB : B = (q.b : Int)) (hC : C = (q.c : Int)) (hD : D = (q.d : Int)) (w : World) :
  Calls Tryz.prog 85 #[.int .u64 A, .int .u64 B, .int .u64 C, .int .u64 D] w fun e w' => e = .returned (.tuple #[.int .u64 ((qr q).a : Int), .int .u64 ((qr q).b : Int), .int .u64 ((qr q).c : Int), .int .u64 ((qr q).d : Int)]) ∧ Below w.heap.size w w' := by
 subst hA hB hC hD
 have HQ : Hid q.ok := hq
 clear hq
 go_enter Tryz.func85, Tryz.ntmps85
 have hL : NewI .i64 3 w (.slice (some ⟨w.heap.size, 0, none⟩) 4 4) (nI byL) (w.alloc (.cells #[.int .i64 16, .int .i64 12, .int .i64 8, .int .i64 7] 3)) := NewI.lit (nI byL) rfl rfl rfl (by decide)
 have hR := hL.rd
 have hbw := hL.2
 go_wp2
 generalize w.alloc (.cells #[.int .i64 16, .int .i64 12, .int .i64 8, .int .i64 7] 3) = w1 at hR hbw ⊢
 clear hL
 go_loop [0, 1, 2, 3, 13] (fun av bv' cv dv iv => ∃ (k : Nat) (p : Q4), k ≤ 2 ∧ iv = .int .i64 ((2 * k : Nat) : Int) ∧ av = .int .u64 (p.a : Int) ∧ bv' = .int .u64 (p.b : Int) ∧ cv = .int .u64 (p.c : Int) ∧ dv = .int .u64 (p.d : Int) ∧ Hid (p = qk q k)) (fun _ _ _ _ iv => 4 - (intOf iv).toNat)
 case atStart => exact ⟨0, q, by omega, rfl, rfl, rfl, rfl, rfl, (by show _ = _; rfl)⟩
 case round =>
  obtain ⟨k, p, hk, rfl, rfl, rfl, rfl, rfl, HP⟩ := hrel
  have hpok : p.ok := by rw [HP.out]; exact qk_ok HQ.out k
  obtain ⟨a, b, c, d⟩ := p
  obtain ⟨ha, hb, hc, hd⟩ := hpok
  simp only at ha hb hc hd
  by_cases hlt : k < 2
  ·obtain ⟨m, n, hmn, hm32, hn32⟩ : ∃ m n : Nat, ((k = 0 ∧ m = 16 ∧ n = 12) ∨ (k = 1 ∧ m = 8 ∧ n = 7)) ∧ m ≤ 32 ∧ n ≤ 32 := by
    by_cases h0 : k = 0
    ·exact ⟨16, 12, .inl ⟨h0, rfl, rfl⟩, by omega, by omega⟩
    ·exact ⟨8, 7, .inr ⟨by omega, rfl, rfl⟩, by omega, by omega⟩
   obtain ⟨i, hi⟩ : ∃ i : Nat, i = 2 * k := ⟨_, rfl⟩
   have c0 : w1.cell? ⟨w.heap.size, i, none⟩ = some (.int .i64 (m : Int)) := by
    obtain ⟨bb, oo, cc, ev, -, hcell, -⟩ := hR.cellAt (i := i) (by rw [nI_length]; show i < 4; omega)
    simp only [Value.slice.injEq, Option.some.injEq, Addr.mk.injEq, and_true, true_and] at ev
    obtain ⟨⟨rfl, rfl⟩, -⟩ := ev
    rw [Nat.zero_add] at hcell
    rw [hcell, nI_get, hi]
    rcases hmn with ⟨rfl, rfl, rfl⟩ | ⟨rfl, rfl, rfl⟩ <;> rfl
   have c1 : w1.cell? ⟨w.heap.size, i + 1, none⟩ = some (.int .i64 (n : Int)) := by
    obtain ⟨bb, oo, cc, ev, -, hcell, -⟩ := hR.cellAt (i := i + 1) (by rw [nI_length]; show i + 1 < 4; omega)
    simp only [Value.slice.injEq, Option.some.injEq, Addr.mk.injEq, and_true, true_and] at ev
    obtain ⟨⟨rfl, rfl⟩, -⟩ := ev
    rw [Nat.zero_add] at hcell
    rw [hcell, nI_get, hi]
    rcases hmn with ⟨rfl, rfl, rfl⟩ | ⟨rfl, rfl, rfl⟩ <;> rfl
   have hdI : decide ((i : Int) < 4) = true := decide_eq_true (by omega)
   have hiI : (i : Int) < 4 := by omega
   have hi1 : (i : Int) + 1 < 4 := by omega
   have hin : i < 4 := by omega
   have hi1n : i + 1 < 4 := by omega
   obtain ⟨s1, hs1⟩ : ∃ z : Nat, z = a + b := ⟨_, rfl⟩
   obtain ⟨a', ha'⟩ : ∃ z : Nat, z = s1 % 4294967296 := ⟨_, rfl⟩
   have e1 : IntKind.u64.wrap ((a : Int) + (b : Int)) = (s1 : Int) := by rw [IntKind.wrap_u64]; omega
   have e2 : ((s1 : Nat) : Int).tmod 4294967296 = (a' : Int) := by rw [Int.tmod_eq_emod_of_nonneg (by omega)]; omega
   have hab : a' < 4294967296 := by omega
   have e3 : IntKind.u64.wrap (a' : Int) = (a' : Int) := by rw [IntKind.wrap_u64]; omega
   obtain ⟨x1, hx1⟩ : ∃ z : Nat, z = d ^^^ a' := ⟨_, rfl⟩
   have hx1b : x1 < 4294967296 := by rw [hx1]; exact xor32 hd hab
   have e4 : bits .xor .u64 (d : Int) (a' : Int) = (x1 : Int) := by rw [u64_xor_nat d a' (by omega) (by omega), hx1]
   obtain ⟨d', hd'⟩ : ∃ z : Nat, z = trn x1 m := ⟨_, rfl⟩
   have hdb : d' < 4294967296 := by rw [hd']; exact trn_lt hx1b _
   obtain ⟨s2, hs2⟩ : ∃ z : Nat, z = c + d' := ⟨_, rfl⟩
   obtain ⟨c', hc'⟩ : ∃ z : Nat, z = s2 % 4294967296 := ⟨_, rfl⟩
   have e5 : IntKind.u64.wrap ((c : Int) + (d' : Int)) = (s2 : Int) := by rw [IntKind.wrap_u64]; omega
   have e6 : ((s2 : Nat) : Int).tmod 4294967296 = (c' : Int) := by rw [Int.tmod_eq_emod_of_nonneg (by omega)]; omega
   have hcb : c' < 4294967296 := by omega
   have e7 : IntKind.u64.wrap (c' : Int) = (c' : Int) := by rw [IntKind.wrap_u64]; omega
   obtain ⟨x2, hx2⟩ : ∃ z : Nat, z = b ^^^ c' := ⟨_, rfl⟩
   have hx2b : x2 < 4294967296 := by rw [hx2]; exact xor32 hb hcb
   have e8 : bits .xor .u64 (b : Int) (c' : Int) = (x2 : Int) := by rw [u64_xor_nat b c' (by omega) (by omega), hx2]
   have e9 : IntKind.i64.wrap ((i : Int) + 1) = ((i + 1 : Nat) : Int) := IntWalk.i64_in _ (by omega)
   have e10 : IntKind.i64.wrap ((i : Int) + 2) = ((2 * (k + 1) : Nat) : Int) := by
    rw [show (i : Int) + 2 = ((2 * (k + 1) : Nat) : Int) by omega]
    exact IntWalk.i64_in _ (by omega)
   have HN : Hid ((⟨a', trn x2 n, c', d'⟩ : Q4) = qk q (k + 1)) := by
    show _ = _
    rw [← qk_next q k m n hmn, ← HP.out]
    unfold qh
    simp only
    rw [← hs1, ← ha', ← hx1, ← hd', ← hs2, ← hc', ← hx2]
   have hki : k + 1 ≤ 2 := by omega
   have HD' : Hid _ := hd'
   have HI : Hid _ := hi
   rw [← hi]
   clear hs1 ha' hx1 hd' hs2 hc' hx2 HP hmn hi ha hb hc hd
   go_wp2_with fail
   refine (turnR_any x1 m hx1b hm32 _ _ rfl rfl _).mono ?_
   rintro e w2 ⟨rfl, rfl⟩
   rw [← HD'.out]
   go_wp2_with fail
   refine (turnR_any x2 n hx2b hn32 _ _ rfl rfl _).mono ?_
   rintro e w2 ⟨rfl, rfl⟩
   go_wp2
   go_round
   case rel => exact ⟨k + 1, ⟨a', trn x2 n, c', d'⟩, hki, by first | rfl | go_num, rfl, rfl, rfl, rfl, HN⟩
   case measure =>
    have := HI.out
    simp [intOf] <;> omega
  ·have hke : k = 2 := by omega
   subst hke
   have HP2 : Hid ((⟨a, b, c, d⟩ : Q4) = qr q) := HP
   clear HP
   go_wp2
   refine bodyPost_ret (v := .tuple #[.int .u64 (a : Int), .int .u64 (b : Int), .int .u64 (c : Int), .int .u64 (d : Int)]) (by simp [results, Tryz.results85, go_sem]) rfl ?_
   exact ⟨by rw [← HP2.out], hbw⟩
theorem ret_int {k : IntKind} {a b : Int} (h : a = b) : Ending.returned (.int k a) = .returned (.int k b) := by rw [h]

theorem val_int {k : IntKind} {a b : Int} (h : a = b) : Value.int k a = .int k b := by rw [h]

theorem load_any (v : Value) (l : List UInt8) (w : World) (hr : Rd w v l) :
  Calls Tryz.prog 70 #[v] w fun e w' => e = .returned (.int .u64 ((leN (l.take 8) : Nat) : Int)) ∧ w' = w := by
 obtain ⟨a, cap, rfl, h2, h3, h4, h5⟩ := hr
 unfold maxLen at h3
 go_enter Tryz.func70, Tryz.ntmps70
 go_wp2
 all_goals
  go_loop [3, 8] (fun x i => ∃ k : Nat, k ≤ l.length ∧ k ≤ 8 ∧ i = .int .i64 k ∧ x = .int .u64 ((leN (l.take k) : Nat) : Int)) (fun _ i => 8 - (intOf i).toNat)
  case atStart => exact ⟨0, Nat.zero_le _, by omega, rfl, rfl⟩
  case round =>
   obtain ⟨k, hk, hk8, rfl, rfl⟩ := hrel
   by_cases hlt : k < l.length ∧ k < 8
   ·obtain ⟨g1, g2⟩ := hlt
    rcases h5 with rfl | ⟨b, off, rfl, hc⟩
    ·simp at g1
    have hck := hc k g1
    have hst := load_step l k g1 g2
    have HS : Hid _ := hst
    clear hst hc h4
    go_wp2
    go_round
    case rel => exact ⟨k + 1, by omega, by omega, by go_num, val_int (by simpa [g1] using HS.out)⟩
    case measure => simp [intOf]; omega
   ·go_wp2
    go_ret
    refine ⟨ret_int ?_, rfl⟩
    have : k = 8 ∨ k = l.length := by omega
    rcases this with rfl | rfl
    ·rfl
    ·rw [List.take_of_length_le (Nat.le_refl _), List.take_of_length_le hk8]

theorem info5 : (Tryz.prog.info? 5).map (fun i => (i.zero, i.size, i.bytes)) = some (some (.int .u8 0), 1, 1) := by kernel_rfl

theorem store_k (x : Nat) (n : Int) (k : Nat) (hk : k ≤ 8) (hn : (n < 0 ∧ k = 0) ∨ (0 ≤ n ∧ n ≤ 8 ∧ n = k) ∨ (8 < n ∧ k = 8)) (w : World) :
  Calls Tryz.prog 63 #[.int .u64 x, .int .i64 n] w fun e w' => ∃ v, e = .returned v ∧ New 5 w v ((List.range k).map (stB x)) w' := by
 obtain ⟨i, hi, hz0, hz1, hz2⟩ := info_parts info5
 have HK : Hid ((n < 0 ∧ k = 0) ∨ (0 ≤ n ∧ n ≤ 8 ∧ n = k) ∨ (8 < n ∧ k = 8)) := hn
 have hn' : n < 0 ∨ (0 ≤ n ∧ n ≤ 8) ∨ 8 < n := by omega
 clear hn
 rcases hn' with h1 | ⟨h1, h2⟩ | h1
 all_goals
  go_enter Tryz.func63, Tryz.ntmps63
  go_wp2_with (at_make; refine wpList_make_full _ rfl _ _ 26 rfl w.heap.size 5 i _ 1 Tryz.underlying26 hi hz0 hz1 _ _ _ _ k rfl rfl (by have := HK.out; omega) (by have := HK.out; omega) (by rw [hz2]; omega) (by unfold maxLen; omega) (Nat.le_refl _) ?_)
  intro w1 hown hgr
  have hF := Fill.start (stB x) hown hgr
  clear hown hgr
  go_wp2
  go_loopw [13] (fun i wr => ∃ j : Nat, j ≤ k ∧ i = .int .i64 j ∧ Fill 5 w w.heap.size k (stB x) j wr) (fun i _ => k - (intOf i).toNat)
  case atStart => exact ⟨0, Nat.zero_le _, rfl, hF⟩
  case round =>
   obtain ⟨j, hj, rfl, hFj⟩ := hrel
   by_cases hlt : j < k
   ·obtain ⟨hcj, hfj⟩ := hFj.cell hlt
    go_wp2
    go_roundw
    case rel => exact ⟨j + 1, by omega, by go_num, hFj.step (stB_shr x j)⟩
    case measure => simp [intOf]; omega
   ·have : j = k := by omega
    subst this
    go_wp2
    go_ret
    exact ⟨_, rfl, hFj.done⟩

set_option maxRecDepth 100000 in
theorem xor_any (va vb : Value) (la lb : List UInt8) (w : World) (ha : Rd w va la) (hb : Rd w vb lb) (hmx : la.length ≤ 140737488355328) :
  Calls Tryz.prog 79 #[va, vb] w fun e w' => ∃ v, e = .returned v ∧ New 5 w v (xorL la lb) w' := by
 obtain ⟨i, hi, hz0, hz1, hz2⟩ := info_parts info5
 obtain ⟨aa, capa, ea, ha2, ha3, ha4, ha5⟩ := id ha
 obtain ⟨ab, capb, eb, hb2, hb3, hb4, hb5⟩ := id hb
 have Ha : Hid (Rd w va la) := ha
 have Hb : Hid (Rd w vb lb) := hb
 clear ha hb ha5 hb5
 subst ea eb
 unfold maxLen at ha3 hb3
 obtain ⟨n, hn⟩ : ∃ n : Nat, n = min la.length lb.length := ⟨_, rfl⟩
 have HN : Hid (n = min la.length lb.length) := hn
 have hcase : (la.length : Int) ≤ lb.length ∨ (lb.length : Int) < la.length := by omega
 clear hn
 go_enter Tryz.func79, Tryz.ntmps79
 go_wp2_with (at_make; go_must (refine wpList_make_full _ rfl _ _ 26 rfl w.heap.size 5 i _ 1 Tryz.underlying26 hi hz0 hz1 _ _ _ _ n rfl rfl (by have := HN.out; omega) (by have := HN.out; omega) (by rw [hz2]; have := HN.out; omega) (by unfold maxLen; have := HN.out; omega) (Nat.le_refl _) ?_))
 all_goals
  intro w1 hown hgr
  have hF := Fill.start (fun i => la.getD i 0 ^^^ lb.getD i 0) hown hgr
  clear hown hgr hcase
  go_wp2
  go_loopw [15] (fun i wr => ∃ j : Nat, j ≤ n ∧ i = .int .i64 j ∧ Fill 5 w w.heap.size n (fun i => la.getD i 0 ^^^ lb.getD i 0) j wr) (fun i _ => n - (intOf i).toNat)
  case atStart => exact ⟨0, Nat.zero_le _, rfl, hF⟩
  case round =>
   obtain ⟨j, hj, rfl, hFj⟩ := hrel
   by_cases hlt : j < n
   ·obtain ⟨hcj, hfj⟩ := hFj.cell hlt
    obtain ⟨ba, oa, ca, ea, _, hca, _⟩ := (Rd.kept2 Ha hFj.2).cellAt (i := j) (by have := HN.out; omega)
    obtain ⟨bb, ob, cb, eb, _, hcb, _⟩ := (Rd.kept2 Hb hFj.2).cellAt (i := j) (by have := HN.out; omega)
    simp only [Value.slice.injEq] at ea eb
    obtain ⟨rfl, _, rfl⟩ := ea
    obtain ⟨rfl, _, rfl⟩ := eb
    have g1 : (j : Int) < la.length := by have := HN.out; omega
    have g2 : (j : Int) < lb.length := by have := HN.out; omega
    have hx := byte_xor (la.getD j 0) (lb.getD j 0)
    have HX : Hid _ := hx
    clear hx
    go_wp2
    go_region
    go_wp2
    go_roundw
    case rel => exact ⟨j + 1, by omega, by go_num, (hFj.step (by simpa using HX.out)).drew⟩
    case measure => simp [intOf]; omega
   ·have : j = n := by omega
    subst this
    go_wp2
    go_ret
    refine ⟨_, rfl, ?_⟩
    have := hFj.done
    unfold xorL
    rw [← HN.out]
    exact this

theorem below_drewN {B : Nat} {w wr : World} (h : Below B w wr) : ∀ n, Below B w (wr.drewN n)
 | 0 => h
 | n + 1 => (below_drewN h n).drew

theorem equal_short (va vb : Value) (la lb : List UInt8) (w : World) (ha : Rd w va la) (hb : Rd w vb lb) (hne : la.length ≠ lb.length) :
  Calls Tryz.prog 76 #[va, vb] w fun e w' => e = .returned (.bool (decide (la = lb))) ∧ Below w.heap.size w w' := by
 obtain ⟨aa, capa, rfl, ha2, ha3, ha4, ha5⟩ := ha
 obtain ⟨ab, capb, rfl, hb2, hb3, hb4, hb5⟩ := hb
 have h1 : ((la.length : Int) != (lb.length : Int)) = true := by simp; omega
 have h2 : decide (la = lb) = false := by
  simp only [decide_eq_false_iff_not]
  rintro rfl; exact hne rfl
 rw [h2]
 clear h2 ha5 hb5
 go_enter Tryz.func76, Tryz.ntmps76
 go_wp2
 go_ret
 exact ⟨rfl, Below.refl _ _⟩

theorem equal_long (va vb : Value) (la lb : List UInt8) (w : World) (ha : Rd w va la) (hb : Rd w vb lb) (heq : la.length = lb.length) :
  Calls Tryz.prog 76 #[va, vb] w fun e w' => e = .returned (.bool (decide (la = lb))) ∧ Below w.heap.size w w' := by
 obtain ⟨aa, capa, ea, ha2, ha3, ha4, ha5⟩ := id ha
 obtain ⟨ab, capb, eb, hb2, hb3, hb4, hb5⟩ := id hb
 have Ha : Hid (Rd w va la) := ha
 have Hb : Hid (Rd w vb lb) := hb
 clear ha hb ha5 hb5
 subst ea eb
 unfold maxLen at ha3 hb3
 have h1 : ((la.length : Int) != (lb.length : Int)) = false := by simp; omega
 have HE : Hid (la.length = lb.length) := heq
 clear heq
 go_enter Tryz.func76, Tryz.ntmps76
 go_wp2
 clear h1
 go_loopw [5, 14] (fun x i wr => ∃ (k : Nat) (s : UInt8), k ≤ la.length ∧ i = .int .i64 k ∧ x = .int .u8 (s.toNat : Int) ∧ Hid (s = orL ((xorL la lb).take k)) ∧ Below w.heap.size w wr) (fun _ i _ => la.length - (intOf i).toNat)
 case atStart => exact ⟨0, 0, Nat.zero_le _, rfl, rfl, rfl, Below.refl _ _⟩
 case round =>
  obtain ⟨k, s, hk, rfl, rfl, HS, hB⟩ := hrel
  by_cases hlt : k < la.length
  ·obtain ⟨ba, oa, ca, ea, _, hca, _⟩ := (Rd.kept2 Ha hB).cellAt (i := k) hlt
   obtain ⟨bb, ob, cb, eb, _, hcb, _⟩ := (Rd.kept2 Hb hB).cellAt (i := k) (by have := HE.out; omega)
   simp only [Value.slice.injEq] at ea eb
   obtain ⟨rfl, _, rfl⟩ := ea
   obtain ⟨rfl, _, rfl⟩ := eb
   have hX := xorL_take_succ la lb k hlt (by have := HE.out; omega)
   have g1 : (k : Int) < la.length := by omega
   have g2 : (k : Int) < lb.length := by have := HE.out; omega
   generalize la.getD k 0 = x at hX hca
   generalize lb.getD k 0 = y at hX hcb
   have HX : Hid _ := hX
   have HO : Hid _ := byte_xor x y
   have HP : Hid _ := byte_or s (x ^^^ y)
   clear hX
   go_wp2
   go_quiet (fail)
   go_wp2
   go_roundw
   case rel => exact ⟨k + 1, s ||| (x ^^^ y), by omega, by go_num, val_int (by rw [HO.out]; exact HP.out), by rw [HS.out, HX.out, orL_snoc]; rfl, below_drewN hB _⟩
   case measure => simp [intOf]; omega
  ·have HZ : Hid ((((s.toNat : Nat) : Int) == 0) = decide (s = 0)) := nat0_beq s
   have HF : Hid (s = orL (xorL la lb)) := by
    have : (xorL la lb).take k = xorL la lb := List.take_of_length_le (by rw [xorL_length]; have := HE.out; omega)
    rw [this] at HS; exact HS
   go_wp2
   go_ret
   refine ⟨congrArg (fun b => Ending.returned (.bool b)) (HZ.out.trans ?_), hB⟩
   rw [HF.out]
   exact decide_eq_decide.2 (orL_xorL la lb HE.out)

theorem equal_any (va vb : Value) (la lb : List UInt8) (w : World) (ha : Rd w va la) (hb : Rd w vb lb) :
  Calls Tryz.prog 76 #[va, vb] w fun e w' => e = .returned (.bool (decide (la = lb))) ∧ Below w.heap.size w w' := by
 by_cases h : la.length = lb.length
 ·exact equal_long va vb la lb w ha hb h
 ·exact equal_short va vb la lb w ha hb h

theorem join_any (v : Value) (vs : List Value) (ls : List (List UInt8)) (w : World) (h : RdL w v vs ls) (ht : totL ls ≤ 1000000000) :
  Calls Tryz.prog 28 #[v] w fun e w' => ∃ r, e = .returned r ∧ New 5 w r ls.flatten w' := by
 obtain ⟨i, hi, hz0, hz1, hz2⟩ := info_parts info5
 have H : Hid (RdL w v vs ls) := h
 obtain ⟨⟨a, cap, ev, h2, h3, h5⟩, h6, h7⟩ := id h
 clear h h5 h7
 subst ev
 unfold maxLen at h3
 have HL : Hid (vs.length = ls.length) := h6
 clear h6
 go_enter Tryz.func28, Tryz.ntmps28
 go_wp2
 go_loop [3, 9] (fun x i => ∃ (k t : Nat), k ≤ vs.length ∧ t ≤ 1000000000 ∧ i = .int .i64 k ∧ x = .int .i64 (t : Int) ∧ Hid (t = totL (ls.take k))) (fun _ i => vs.length - (intOf i).toNat)
 case atStart => exact ⟨0, 0, Nat.zero_le _, by omega, rfl, rfl, rfl⟩
 case round =>
  obtain ⟨k, t, hk, htb, rfl, rfl, HT⟩ := hrel
  by_cases hlt : k < vs.length
  ·obtain ⟨b, off, cap', a', cap2, ev, _, hc, hr⟩ := H.out.cellAt (i := k) hlt
   simp only [Value.slice.injEq] at ev
   obtain ⟨rfl, _, rfl⟩ := ev
   have HS : Hid _ := totL_take_succ ls k (by have := HL.out; omega)
   have hle := totL_take_le ls (k + 1)
   rw [HS.out] at hle
   have hsum : t + (ls.getD k []).length ≤ 1000000000 := by rw [HT.out]; omega
   generalize ls.getD k [] = lk at hc hr HS hsum
   clear hle hr
   go_wp2
   go_round
   case rel => exact ⟨k + 1, t + lk.length, by omega, by omega, by go_num, by go_num, by rw [HT.out]; exact HS.out.symm⟩
   case measure => simp [intOf]; omega
  ·have HF : Hid (t = totL ls) := by
    have : ls.take k = ls := List.take_of_length_le (by have := HL.out; omega)
    rw [this] at HT; exact HT
   go_wp2_with (at_make; go_must (refine wpList_make_own _ rfl _ _ 26 rfl w.heap.size 5 i _ 1 Tryz.underlying26 hi hz0 hz1 _ _ _ t rfl rfl rfl (by rw [hz2]; omega) (by unfold maxLen; omega) (Nat.le_refl _) ?_))
   intro w1 hown hgr
   have hN1 : New 5 w _ [] w1 := ⟨hown, (Below.refl _ _).grown hgr (Nat.le_refl _) (by simp)⟩
   clear hown hgr
   go_wp2
   go_loopw [5, 24] (fun r i wr => ∃ (m : Nat), m ≤ vs.length ∧ i = .int .i64 m ∧ New 5 w r (ls.take m).flatten wr) (fun _ i _ => vs.length - (intOf i).toNat)
   case atStart => exact ⟨0, Nat.zero_le _, rfl, hN1⟩
   case round =>
    obtain ⟨m, hm, rfl, hN⟩ := hrel
    by_cases hlm : m < vs.length
    ·obtain ⟨b, off, cap', a', cap2, ev, _, hc, hr⟩ := (H.out.kept hN.2).cellAt (i := m) hlm
     simp only [Value.slice.injEq] at ev
     obtain ⟨rfl, _, rfl⟩ := ev
     have HS : Hid _ := flat_take_succ ls m (by have := HL.out; omega)
     have hle := totL_take_le ls (m + 1)
     rw [totL_take_succ ls m (by have := HL.out; omega)] at hle
     have hsum : (ls.take m).flatten.length + (ls.getD m []).length ≤ 1000000000 := by unfold totL at hle ht; omega
     generalize ls.getD m [] = lk at hc hr HS hsum
     clear hle
     have HSum : Hid ((ls.take m).flatten.length + lk.length ≤ 1000000000) := hsum
     clear hsum
     go_wp2_with (at_builtin; go_must (refine wpList_append_new (w := w) rfl _ _ 26 rfl 5 Tryz.underlying26 info5 u5 _ rfl hN _ lk rfl hr (by have := HSum.out; omega) ?_))
     intro v2 w2 hN2 _
     go_wp2
     go_roundw
     case rel => exact ⟨m + 1, by omega, by go_num, by rw [HS.out]; exact hN2⟩
     case measure => simp [intOf]; omega
    ·have : ls.take m = ls := List.take_of_length_le (by have := HL.out; omega)
     rw [this] at hN
     clear this
     go_wp2
     go_ret
     exact ⟨_, rfl, hN⟩

theorem or_turn32 (x n : Nat) (hx : x < 4294967296) (hn : n ≤ 32) : (x * 2 ^ n % 4294967296) ||| (x / 2 ^ (32 - n)) = trn x n := by
 have h32 : (4294967296 : Nat) = 2 ^ n * 2 ^ (32 - n) := by rw [← Nat.pow_add, show n + (32 - n) = 32 by omega]
 have hB : x / 2 ^ (32 - n) < 2 ^ n := by
  refine Nat.div_lt_of_lt_mul ?_
  rw [Nat.mul_comm, ← h32]
  exact hx
 have hd : x * 2 ^ n / 4294967296 = x / 2 ^ (32 - n) := by
  rw [h32, Nat.mul_comm x, Nat.mul_div_mul_left _ _ (Nat.pow_pos (by decide))]
 rw [trn_eq hx n hn, hd, h32, Nat.mul_comm x, Nat.mul_mod_mul_left, Nat.two_pow_add_eq_or_of_lt hB]
theorem and31 (n : Nat) (hn : n < 32) : bits .and .u64 (n : Int) 31 = (n : Int) := by
 have h := u64_and_nat n 31 (by omega) (by decide)
 rw [show ((31 : Int)) = ((31 : Nat) : Int) from rfl, h, show (31 : Nat) = 2 ^ 5 - 1 from rfl, Nat.and_two_pow_sub_one_eq_mod, Nat.mod_eq_of_lt (by omega)]

set_option maxHeartbeats 400000 in
theorem rot32_any (x n : Nat) (X B : Int) (hX : X = x) (hB : B = n) (hx : x < 4294967296) (hn : n < 32) (w : World) :
  Calls Tryz.prog 110 #[.int .u32 X, .int .i64 B] w fun e w' => e = .returned (.int .u32 ((trn x n : Nat) : Int)) ∧ w' = w := by
 subst hX hB
 have ha := and31 n hn
 have HN : Hid (((32 : Int) - (n : Int)).toNat = 32 - n) := by show Int.toNat _ = _; omega
 have HE : Hid _ := or_turn32 x n hx (by omega)
 go_enter Tryz.func110, Tryz.ntmps110
 go_wp2
 go_ret
 refine ⟨retI ?_, rfl⟩
 have e1 : ((x : Int) * 2 ^ n) = ((x * 2 ^ n : Nat) : Int) := by simp
 have e2 : ((x : Int) / 2 ^ (32 - n)) = ((x / 2 ^ (32 - n) : Nat) : Int) := by simp
 rw [e1, e2, show ((x * 2 ^ n : Nat) : Int) % 4294967296 = ((x * 2 ^ n % 4294967296 : Nat) : Int) by omega, u32_or_nat _ _ (Nat.mod_lt _ (by decide)) (Nat.lt_of_le_of_lt (Nat.div_le_self _ _) hx), HE.out]

theorem half_facts (p : Q4) (h : p.ok) (m n : Nat) : ∃ a x d c y b : Nat, IntKind.u32.wrap ((p.a : Int) + (p.b : Int)) = (a : Int) ∧ bits .xor .u32 (p.d : Int) (a : Int) = (x : Int) ∧ x < 4294967296 ∧ d = trn x m ∧
  IntKind.u32.wrap ((p.c : Int) + (d : Int)) = (c : Int) ∧ bits .xor .u32 (p.b : Int) (c : Int) = (y : Int) ∧ y < 4294967296 ∧ b = trn y n ∧ qh p m n = ⟨a, b, c, d⟩ := by
 obtain ⟨h1, h2, h3, h4⟩ := h
 refine ⟨(p.a + p.b) % 4294967296, p.d ^^^ ((p.a + p.b) % 4294967296), trn (p.d ^^^ ((p.a + p.b) % 4294967296)) m, (p.c + trn (p.d ^^^ ((p.a + p.b) % 4294967296)) m) % 4294967296, p.b ^^^ ((p.c + trn (p.d ^^^ ((p.a + p.b) % 4294967296)) m) % 4294967296), _, ?_, ?_, ?_, rfl, ?_, ?_, ?_, rfl, rfl⟩
 ·rw [IntKind.wrap_u32']; omega
 ·exact u32_xor_nat _ _ h4 (mod32 _)
 ·exact xor32 h4 (mod32 _)
 ·rw [IntKind.wrap_u32']; omega
 ·exact u32_xor_nat _ _ h2 (mod32 _)
 ·exact xor32 h2 (mod32 _)

set_option maxRecDepth 100000 in
set_option maxHeartbeats 2000000 in
theorem quarter_any (q : Q4) (hq : q.ok) (A B C D : Int) (hA : A = (q.a : Int)) (hB : B = (q.b : Int)) (hC : C = (q.c : Int)) (hD : D = (q.d : Int)) (w : World) :
  Calls Tryz.prog 106 #[.int .u32 A, .int .u32 B, .int .u32 C, .int .u32 D] w fun e w' => e = .returned (.tuple #[.int .u32 ((qr q).a : Int), .int .u32 ((qr q).b : Int), .int .u32 ((qr q).c : Int), .int .u32 ((qr q).d : Int)]) ∧ w' = w := by
 subst hA hB hC hD
 obtain ⟨a1, x1, d1, c1, y1, b1, e1, e2, hx1, hd1, e3, e4, hy1, hb1, HH⟩ := half_facts q hq 16 12
 have hok := qh_ok hq 16 12
 rw [HH] at hok
 obtain ⟨a2, x2, d2, c2, y2, b2, f1, f2, hx2, hd2, f3, f4, hy2, hb2, HH2⟩ := half_facts _ hok 8 7
 simp only at f1 f2 f3 f4
 have HQ : Hid (qr q = ⟨a2, b2, c2, d2⟩) := by
  show _ = _
  unfold qr
  rw [HH, HH2]
 have HD1 : Hid _ := hd1
 have HB1 : Hid _ := hb1
 have HD2 : Hid _ := hd2
 have HB2 : Hid _ := hb2
 clear hd1 hb1 hd2 hb2 HH HH2 hok hq
 go_enter Tryz.func106, Tryz.ntmps106
 go_wp2_with fail
 refine (rot32_any x1 16 _ _ rfl rfl hx1 (by decide) _).mono ?_
 rintro e w2 ⟨rfl, rfl⟩
 rw [← HD1.out]
 go_wp2_with fail
 refine (rot32_any y1 12 _ _ rfl rfl hy1 (by decide) _).mono ?_
 rintro e w2 ⟨rfl, rfl⟩
 rw [← HB1.out]
 go_wp2_with fail
 refine (rot32_any x2 8 _ _ rfl rfl hx2 (by decide) _).mono ?_
 rintro e w2 ⟨rfl, rfl⟩
 rw [← HD2.out]
 go_wp2_with fail
 refine (rot32_any y2 7 _ _ rfl rfl hy2 (by decide) _).mono ?_
 rintro e w2 ⟨rfl, rfl⟩
 rw [← HB2.out]
 go_wp2
 refine bodyPost_ret (v := .tuple #[.int .u32 (a2 : Int), .int .u32 (b2 : Int), .int .u32 (c2 : Int), .int .u32 (d2 : Int)]) (by simp [results, Tryz.results106, go_sem]) rfl ?_
 exact ⟨by rw [HQ.out], rfl⟩

set_option maxHeartbeats 400000 in
theorem fit_any (vk vn : Value) (k n : List UInt8) (w : World) (hk : Rd w vk k) (hn : Rd w vn n) :
  Calls Tryz.prog 77 #[vk, vn] w fun e w' => e = .returned (.bool (decide (k.length = 32 ∧ n.length = 12))) ∧ w' = w := by
 obtain ⟨ak, ck, rfl, hck, -, -⟩ := hk
 obtain ⟨an, cn, rfl, hcn, -, -⟩ := hn
 by_cases h : k.length = 32
 ·have HE : Hid (((n.length : Int) == 12) = decide (k.length = 32 ∧ n.length = 12)) := by
   show _ = _
   by_cases h2 : n.length = 12 <;> simp [h, h2] <;> omega
  have hd : ((k.length : Int) == 32) = true := by simp [h]
  go_enter Tryz.func77, Tryz.ntmps77
  go_wp2
  go_ret
  exact ⟨congrArg (fun b => Ending.returned (.bool b)) HE.out, rfl⟩
 ·have hd : ((k.length : Int) == 32) = false := by simp; omega
  have HE : Hid (false = decide (k.length = 32 ∧ n.length = 12)) := by
   show _ = _
   simp [h]
  go_enter Tryz.func77, Tryz.ntmps77
  go_wp2
  go_ret
  exact ⟨congrArg (fun b => Ending.returned (.bool b)) HE.out, rfl⟩
end Go.Proofs.YtdlmmcilembjgaaGreatDoor

namespace Go.Proofs.YtdlmmcilembjgaaGreatDoor
set_option linter.unusedSimpArgs false
set_option linter.unusedVariables false

def cP (f : Nat → Nat) (X : Nat) : List Int := (List.range 5).map fun x => ((if x < X then colN f x else 0 : Nat) : Int)
theorem cP_length (f : Nat → Nat) (X : Nat) : (cP f X).length = 5 := by simp [cP]
theorem cP_zero (f : Nat → Nat) : List.replicate 5 (0 : Int) = cP f 0 := by simp [cP, List.range_succ, List.replicate]
theorem cP_set (f : Nat → Nat) (X : Nat) : (cP f X).set X ((colN f X : Nat) : Int) = cP f (X + 1) := by
 refine List.ext_getElem (by simp [cP]) fun i h1 h2 => ?_
 simp only [cP, List.getElem_set, List.getElem_map, List.getElem_range]
 by_cases e : X = i
 ·subst e; simp
 ·have : (i < X + 1) ↔ i < X := by omega
  simp [e, this]
theorem cP_get (f : Nat → Nat) (i : Nat) (hi : i < 5) : (cP f 5).getD i 0 = ((colN f i : Nat) : Int) := by
 simp [cP, hi]

def upQ (f g : Nat → Nat) (K i : Nat) : Nat := if i < K then g i else f i
theorem upQ_zero (f g : Nat → Nat) : stL f = stL (upQ f g 0) := stL_congr fun i hi => by simp [upQ]
theorem upQ_done (f g : Nat → Nat) : stL (upQ f g 25) = stL g := stL_congr fun i hi => by simp [upQ, hi]
theorem upQ_set (f g : Nat → Nat) (K : Nat) : (stL (upQ f g K)).set K ((g K : Nat) : Int) = stL (upQ f g (K + 1)) := by
 rw [stL_set]
 refine stL_congr fun i hi => ?_
 unfold upQ
 by_cases e : i = K
 ·subst e; simp
 ·have : (i < K + 1) ↔ i < K := by omega
  simp [e, this]
theorem upQ_get (f g : Nat → Nat) (K : Nat) : upQ f g K K = f K := by simp [upQ]

def ppQ (f : Nat → Nat) (T i : Nat) : Nat := if i = 0 then f 0 else if (List.range T).any (fun t => rhPos (t + 1) == i) then piF (rhL f) i else 0
theorem ppQ_zero (f : Nat → Nat) : (stL (fun _ => 0)).set 0 ((f 0 : Nat) : Int) = stL (ppQ f 0) := by
 rw [stL_set]
 exact stL_congr fun i hi => by by_cases e : i = 0 <;> simp [ppQ, e]
theorem pp_all : ∀ i, i < 25 → i ≠ 0 → (List.range 24).any (fun t => rhPos (t + 1) == i) = true := by decide
theorem ppQ_done (f : Nat → Nat) : stL (ppQ f 24) = stL (piF (rhL f)) := stL_congr fun i hi => by
 unfold ppQ
 by_cases e : i = 0
 ·subst e; simp [piF, rhL]
 ·rw [if_neg e, if_pos (pp_all i hi e)]
theorem pp_from : ∀ T, T < 24 → (rhPos (T + 1) % 5 + 3 * (rhPos (T + 1) / 5)) % 5 + 5 * (rhPos (T + 1) % 5) = rhPos T ∧ rhPos (T + 1) ≠ 0 ∧ rhPos T ≠ 0 ∧ rhTau (rhPos T) = T ∧ rhPos T < 25 ∧ rhPos (T + 1) < 25 := by decide
theorem ppQ_val (f : Nat → Nat) (T : Nat) (hT : T < 24) : piF (rhL f) (rhPos (T + 1)) = turnN (f (rhPos T)) (rhBy T) := by
 obtain ⟨h1, h2, h3, h4, _⟩ := pp_from T hT
 unfold piF
 rw [h1]
 unfold rhL
 rw [if_neg h3, h4]
theorem ppQ_set (f : Nat → Nat) (T : Nat) (hT : T < 24) : (stL (ppQ f T)).set (rhPos (T + 1)) ((turnN (f (rhPos T)) (rhBy T) : Nat) : Int) = stL (ppQ f (T + 1)) := by
 obtain ⟨h1, h2, h3, h4, _⟩ := pp_from T hT
 rw [← ppQ_val f T hT, stL_set]
 refine stL_congr fun i hi => ?_
 unfold ppQ
 by_cases e : i = rhPos (T + 1)
 ·subst e
  have : (List.range (T + 1)).any (fun t => rhPos (t + 1) == rhPos (T + 1)) = true := by
   rw [List.any_eq_true]
   exact ⟨T, List.mem_range.2 (by omega), by simp⟩
  simp [h2, this]
 ·have : (List.range (T + 1)).any (fun t => rhPos (t + 1) == i) = (List.range T).any (fun t => rhPos (t + 1) == i) := by
   rw [List.range_succ, List.any_append]
   simp [Ne.symm e]
  simp [e, this]

theorem xorI (a b : Nat) (ha : a < 18446744073709551616) (hb : b < 18446744073709551616) : bits .xor .u64 (a : Int) (b : Int) = ((a ^^^ b : Nat) : Int) := u64_xor_nat a b ha hb
theorem andI (a b : Nat) (ha : a < 18446744073709551616) (hb : b < 18446744073709551616) : bits .and .u64 (a : Int) (b : Int) = ((a &&& b : Nat) : Int) := u64_and_nat a b ha hb
theorem colI (f : Nat → Nat) (hf : ∀ i, f i < 18446744073709551616) (x : Nat) :
  bits .xor .u64 (bits .xor .u64 (bits .xor .u64 (bits .xor .u64 ((f x : Nat) : Int) ((f (x + 5) : Nat) : Int)) ((f (x + 10) : Nat) : Int)) ((f (x + 15) : Nat) : Int)) ((f (x + 20) : Nat) : Int) = ((colN f x : Nat) : Int) := by
 rw [xorI _ _ (hf _) (hf _), xorI _ _ (xor_lt64 (hf _) (hf _)) (hf _), xorI _ _ (xor_lt64 (xor_lt64 (hf _) (hf _)) (hf _)) (hf _), xorI _ _ (xor_lt64 (xor_lt64 (xor_lt64 (hf _) (hf _)) (hf _)) (hf _)) (hf _)]
 rfl
theorem thI (f : Nat → Nat) (hf : ∀ i, f i < 18446744073709551616) (k : Nat) :
  bits .xor .u64 (bits .xor .u64 ((f k : Nat) : Int) ((colN f ((k % 5 + 4) % 5) : Nat) : Int)) ((turnN (colN f ((k % 5 + 1) % 5)) 1 : Nat) : Int) = ((thL f k : Nat) : Int) := by
 rw [xorI _ _ (hf _) (colN_lt f hf _), xorI _ _ (xor_lt64 (hf _) (colN_lt f hf _)) (turnN_lt _ _ (colN_lt f hf _) (by decide))]
 rfl
theorem chI (f : Nat → Nat) (hf : ∀ i, f i < 18446744073709551616) (k : Nat) :
  bits .xor .u64 ((f k : Nat) : Int) (IntKind.u64.wrap (((f (k - k % 5 + (k % 5 + 2) % 5) : Nat) : Int) - bits .and .u64 ((f (k - k % 5 + (k % 5 + 2) % 5) : Nat) : Int) ((f (k - k % 5 + (k % 5 + 1) % 5) : Nat) : Int))) = ((chL f k : Nat) : Int) := by
 rw [andI _ _ (hf _) (hf _), IntKind.wrap_u64]
 have h1 := hf (k - k % 5 + (k % 5 + 2) % 5)
 have h2 : f (k - k % 5 + (k % 5 + 2) % 5) &&& f (k - k % 5 + (k % 5 + 1) % 5) ≤ f (k - k % 5 + (k % 5 + 2) % 5) := Nat.and_le_left
 have e : (((f (k - k % 5 + (k % 5 + 2) % 5) : Nat) : Int) - ((f (k - k % 5 + (k % 5 + 2) % 5) &&& f (k - k % 5 + (k % 5 + 1) % 5) : Nat) : Int)) % 18446744073709551616 =
   ((f (k - k % 5 + (k % 5 + 2) % 5) - (f (k - k % 5 + (k % 5 + 2) % 5) &&& f (k - k % 5 + (k % 5 + 1) % 5)) : Nat) : Int) := by omega
 rw [e, xorI _ _ (hf _) (Nat.lt_of_le_of_lt (Nat.sub_le _ _) h1)]
 rfl
theorem ioKI (f : Nat → Nat) (i : Nat) : (stL f).set 0 ((f 0 ^^^ kst.getD i 0 : Nat) : Int) = stL (ioK f i) := by
 rw [stL_set]
 exact stL_congr fun k hk => by by_cases e : k = 0 <;> simp [ioK, e]
end Go.Proofs.YtdlmmcilembjgaaGreatDoor

namespace Go.Proofs.YtdlmmcilembjgaaGreatDoor
open Go.ChangeShapes Go.WideShapes Go.ChangeAt Go.RowKit
set_option linter.unusedSimpArgs false
set_option linter.unusedVariables false

theorem or_turn (x n : Nat) (hx : x < 18446744073709551616) (hn : n < 64) : (x * 2 ^ n % 18446744073709551616) ||| (x / 2 ^ (64 - n)) = turnN x n := by
 unfold turnN
 split
 ·rename_i h
  subst h
  rw [Nat.pow_zero, Nat.mul_one, Nat.mod_eq_of_lt hx, Nat.div_eq_of_lt (by simpa using hx), Nat.or_zero]
 ·unfold rotN
  have h64 : (18446744073709551616 : Nat) = 2 ^ n * 2 ^ (64 - n) := by rw [← Nat.pow_add, show n + (64 - n) = 64 by omega]
  have hB : x / 2 ^ (64 - n) < 2 ^ n := by
   refine Nat.div_lt_of_lt_mul ?_
   rw [Nat.mul_comm, ← h64]
   exact hx
  rw [h64, Nat.mul_comm x, Nat.mul_mod_mul_left, Nat.two_pow_add_eq_or_of_lt hB]
theorem and63 (n : Nat) (hn : n < 64) : bits .and .u64 (n : Int) 63 = (n : Int) := by
 have h := u64_and_nat n 63 (by omega) (by decide)
 rw [show ((63 : Int)) = ((63 : Nat) : Int) from rfl, h, show (63 : Nat) = 2 ^ 6 - 1 from rfl, Nat.and_two_pow_sub_one_eq_mod, Nat.mod_eq_of_lt (by omega)]

set_option maxHeartbeats 400000 in
theorem rot_any (x n : Nat) (X B : Int) (hX : X = x) (hB : B = n) (hx : x < 18446744073709551616) (hn : n < 64) (w : World) :
  Calls Tryz.prog 109 #[.int .u64 X, .int .i64 B] w fun e w' => e = .returned (.int .u64 ((turnN x n : Nat) : Int)) ∧ w' = w := by
 subst hX hB
 have ha := and63 n hn
 have HN : Hid (((64 : Int) - (n : Int)).toNat = 64 - n) := by show Int.toNat _ = _; omega
 have HE : Hid _ := or_turn x n hx hn
 go_enter Tryz.func109, Tryz.ntmps109
 go_wp2
 go_ret
 refine ⟨retI ?_, rfl⟩
 have e1 : ((x : Int) * 2 ^ n) = ((x * 2 ^ n : Nat) : Int) := by simp
 have e2 : ((x : Int) / 2 ^ (64 - n)) = ((x / 2 ^ (64 - n) : Nat) : Int) := by simp
 rw [e1, e2, IntKind.wrap_u64, show ((x * 2 ^ n : Nat) : Int) % 18446744073709551616 = ((x * 2 ^ n % 18446744073709551616 : Nat) : Int) by omega, u64_or_nat _ _ (Nat.mod_lt _ (by decide)) (Nat.lt_of_le_of_lt (Nat.div_le_self _ _) hx), HE.out]

theorem isRound_any (r : Int) (w : World) :
  Calls Tryz.prog 99 #[.int .i64 r] w fun e w' => e = .returned (.bool (decide (0 ≤ r ∧ r ≤ 23))) ∧ w' = w := by
 by_cases h0 : 0 ≤ r
 ·have HE : Hid (decide (r < 24) = decide (0 ≤ r ∧ r ≤ 23)) := by
   show decide _ = decide _
   by_cases h : r < 24 <;> simp [h] <;> omega
  go_enter Tryz.func99, Tryz.ntmps99
  go_wp2
  go_ret
  exact ⟨congrArg (fun b => Ending.returned (.bool b)) HE.out, rfl⟩
 ·have hd : decide (0 ≤ r) = false := decide_eq_false h0
  go_enter Tryz.func99, Tryz.ntmps99
  go_wp2
  go_ret
  exact ⟨rfl, rfl⟩

def trT : List Int := [0, 1, 62, 28, 27, 36, 44, 6, 55, 20, 3, 10, 43, 25, 39, 41, 45, 15, 21, 8, 18, 2, 61, 56, 14]
def ksT : List Int := kst.map fun x => ((x : Nat) : Int)
theorem trT_eq : ∀ i, i < 25 → trT.getD i 0 = ((if i = 0 then 0 else rhBy (rhTau i) : Nat) : Int) := by decide
theorem ksT_get (i : Nat) (hi : i < 24) : ksT.getD i 0 = ((kst.getD i 0 : Nat) : Int) := by
 have h : i < kst.length := hi
 simp [ksT, h]
structure Tabs (w : World) : Prop where
 turns : ∀ i, i < 25 → w.cell? ⟨3, i, none⟩ = some (.int .i64 (trT.getD i 0))
 consts : ∀ i, i < 24 → w.cell? ⟨2, i, none⟩ = some (.int .u64 (ksT.getD i 0))
theorem Tabs.kept {w w' : World} (h : Tabs w) (hb : Below w.heap.size w w') : Tabs w' :=
 ⟨fun i hi => by rw [hb.cell (p := ⟨3, i, none⟩) (World.block_lt_of_cell? w _ (h.turns i hi))]; exact h.turns i hi,
  fun i hi => by rw [hb.cell (p := ⟨2, i, none⟩) (World.block_lt_of_cell? w _ (h.consts i hi))]; exact h.consts i hi⟩
theorem Tabs.two {w : World} (h : Tabs w) : 3 < w.heap.size := by
 have h1 : 3 < w.heap.size := World.block_lt_of_cell? w _ (h.turns 0 (by decide))
 have h2 : 2 < w.heap.size := World.block_lt_of_cell? w _ (h.consts 0 (by decide))
 omega
theorem Tabs.wrote {g : Nat} {w w' : World} (h : Tabs w) (hw : Wrote g w w') (hg : 3 < g) : Tabs w' := by
 have hb := hw.below (3 + 1) w hg (Below.refl _ _)
 exact ⟨fun i hi => by rw [hb.cell (p := ⟨3, i, none⟩) (by decide : (3 : Nat) < 3 + 1)]; exact h.turns i hi,
  fun i hi => by rw [hb.cell (p := ⟨2, i, none⟩) (by decide : (2 : Nat) < 3 + 1)]; exact h.consts i hi⟩
theorem cellK0 {w W : World} {p : Addr} {v : Value} (h : w.cell? p = some v) (hb : Below w.heap.size w W) : W.cell? p = some v := by
 rw [hb.cell (World.block_lt_of_cell? _ _ h)]
 exact h
theorem NewI.place {k : IntKind} {e : TypeId} {w wr : World} {g n cap : Nat} {l : List Int} (h : NewI k e w (.slice (some ⟨g, 0, none⟩) n cap) l wr) {j : Nat} (hj : j < l.length) :
  n = l.length ∧ w.heap.size ≤ g ∧ wr.cell? ⟨g, j, none⟩ = some (.int k (l.getD j 0)) ∧ wr.frozen? ⟨g, j, none⟩ = false ∧ ∀ x : Int, NewI k e w (.slice (some ⟨g, 0, none⟩) n cap) (l.set j x) (wr.setCell ⟨g, j, none⟩ (.int k x)) := by
 obtain ⟨g', c', ev, h1, -, h2, h3, h4⟩ := h.at hj
 simp only [Value.slice.injEq, Option.some.injEq, Addr.mk.injEq, and_true, true_and] at ev
 obtain ⟨rfl, rfl, rfl⟩ := ev
 exact ⟨rfl, h1, h2, h3, h4⟩
theorem wp_store_word {w wr : World} {g n cap j : Nat} {l : List Int} {op : Oper} {a : Act} {K : Act → World → Prop} {Q : Exit → Act → World → Prop} (x y : Operand) (ho : op.op = .store 27 x y) (hx : a.eval x = .pointer (some ⟨g, j, none⟩)) (X : Int) (hy : a.eval y = .int .u64 X)
  (hN : NewI .u64 27 w (.slice (some ⟨g, 0, none⟩) n cap) l wr) (hj : j < l.length)
  (h : ∀ w', NewI .u64 27 w (.slice (some ⟨g, 0, none⟩) n cap) (l.set j X) w' → K (a.put op.dst undef) w') : op.wp Tryz.prog a wr K Q := by
 obtain ⟨-, -, hc, hf, hs⟩ := hN.place hj
 have h2 := h _ (hs X)
 unfold Oper.wp execOp
 simp only [ho, hx, hy]
 go_simp
 exact h2
theorem lit1I {k : IntKind} {w : World} {e : TypeId} (x : Int) : RdI k (w.alloc (.cells #[.int k x] e)) (.slice (some ⟨w.heap.size, 0, none⟩) 1 1) [x] :=
 (NewI.lit (k := k) (e := e) (w := w) [x] rfl rfl rfl (by simp [maxLen])).rd
theorem col_facts (k : Nat) (h : k < 4) : ∃ k4 k8 k12 : Nat, k4 = k + 4 ∧ k8 = k + 8 ∧ k12 = k + 12 ∧ IntKind.i64.wrap ((k : Int) + 4) = (k4 : Int) ∧ IntKind.i64.wrap ((k : Int) + 8) = (k8 : Int) ∧ IntKind.i64.wrap ((k : Int) + 12) = (k12 : Int) ∧
  k < 16 ∧ k4 < 16 ∧ k8 < 16 ∧ k12 < 16 ∧ (k : Int) < 16 ∧ (k4 : Int) < 16 ∧ (k8 : Int) < 16 ∧ (k12 : Int) < 16 := by
 refine ⟨k + 4, k + 8, k + 12, rfl, rfl, rfl, ?_, ?_, ?_, by omega, by omega, by omega, by omega, by omega, by omega, by omega, by omega⟩
 all_goals exact IntWalk.i64_in _ (by omega)
theorem dia_facts (k : Nat) (h : k < 4) : ∃ r4 r8 r12 k4 k8 k12 : Nat, k4 = 4 + (k + 1) % 4 ∧ k8 = 8 + (k + 2) % 4 ∧ k12 = 12 + (k + 3) % 4 ∧
  IntKind.i64.wrap ((k : Int) + 1) = (k : Int) + 1 ∧ IntKind.i64.wrap ((k : Int) + 2) = (k : Int) + 2 ∧ IntKind.i64.wrap ((k : Int) + 3) = (k : Int) + 3 ∧
  ((k : Int) + 1).tmod 4 = (r4 : Int) ∧ ((k : Int) + 2).tmod 4 = (r8 : Int) ∧ ((k : Int) + 3).tmod 4 = (r12 : Int) ∧ IntKind.i64.wrap (r4 : Int) = (r4 : Int) ∧ IntKind.i64.wrap (r8 : Int) = (r8 : Int) ∧ IntKind.i64.wrap (r12 : Int) = (r12 : Int) ∧
  IntKind.i64.wrap (4 + (r4 : Int)) = (k4 : Int) ∧ IntKind.i64.wrap (8 + (r8 : Int)) = (k8 : Int) ∧ IntKind.i64.wrap (12 + (r12 : Int)) = (k12 : Int) ∧
  k < 16 ∧ k4 < 16 ∧ k8 < 16 ∧ k12 < 16 ∧ (k : Int) < 16 ∧ (k4 : Int) < 16 ∧ (k8 : Int) < 16 ∧ (k12 : Int) < 16 := by
 have h4 : k = 0 ∨ k = 1 ∨ k = 2 ∨ k = 3 := by omega
 rcases h4 with rfl | rfl | rfl | rfl
 ·exact ⟨1, 2, 3, 5, 10, 15, by decide⟩
 ·exact ⟨2, 3, 0, 6, 11, 12, by decide⟩
 ·exact ⟨3, 0, 1, 7, 8, 13, by decide⟩
 ·exact ⟨0, 1, 2, 4, 9, 14, by decide⟩
theorem infoU64c : (Tryz.prog.info? 27).map (fun i => (i.zero, i.size, i.bytes)) = some (some (.int .u64 0), 1, 8) := by kernel_rfl
def kst7 : List Nat := [1634760805, 857760878, 2036477234, 1797285236]
def pW (pre : List Nat) (b : List UInt8) (i : Nat) : List Nat := pre ++ (List.range i).map (w4 b)
theorem pW_zero (pre : List Nat) (b : List UInt8) : pW pre b 0 = pre := by simp [pW]
theorem pW_length (pre : List Nat) (b : List UInt8) (i : Nat) : (pW pre b i).length = pre.length + i := by simp [pW]
theorem pW_next (pre : List Nat) (b : List UInt8) (i : Nat) : nI (pW pre b i) ++ [((w4 b i : Nat) : Int)] = nI (pW pre b (i + 1)) := by
 unfold pW
 rw [List.range_succ, List.map_append, ← List.append_assoc, ← nI_append (pre ++ (List.range i).map (w4 b))]
 rfl
theorem w4_load (b : List UInt8) (i : Nat) : leN (((b.drop (4 * i)).take 4).take 8) = w4 b i := by
 rw [List.take_take]
 rfl

set_option maxRecDepth 100000 in
set_option maxHeartbeats 8000000 in
theorem blockR_any (vk vn : Value) (k n : List UInt8) (c : Nat) (C : Int) (hC : C = (c : Int)) (hc64 : c < 18446744073709551616) (w : World) (hk : Rd w vk k) (hn : Rd w vn n) (hk32 : k.length = 32) (hn12 : n.length = 12) :
  Calls Tryz.prog 72 #[vk, .int .u64 C, vn] w fun e w' => ∃ r, e = .returned r ∧ New 5 w r (bkL k c n) w' := by
 subst hC
 obtain ⟨bk, ok, ck, rfl, hck, -, -⟩ := hk.cellAt (i := 0) (by omega)
 obtain ⟨bn, on, cn, rfl, hcn, -, -⟩ := hn.cellAt (i := 0) (by omega)
 obtain ⟨a', c', ev, -, hmk, -, -⟩ := id hk
 simp only [Value.slice.injEq] at ev
 obtain ⟨-, -, rfl⟩ := ev
 obtain ⟨a'', c'', ev, -, hmn, -, -⟩ := id hn
 simp only [Value.slice.injEq] at ev
 obtain ⟨-, -, rfl⟩ := ev
 unfold maxLen at hmk hmn
 rw [hk32] at hk hck ⊢
 rw [hn12] at hn hcn ⊢
 have HK : Hid (Rd w (.slice (some ⟨bk, ok, none⟩) 32 ck) k) := hk
 have HN : Hid (Rd w (.slice (some ⟨bn, on, none⟩) 12 cn) n) := hn
 clear hk hn hk32 hn12
 have hckI : (32 : Int) ≤ (ck : Int) := by omega
 have hcnI : (12 : Int) ≤ (cn : Int) := by omega
 obtain ⟨cm, hcm⟩ : ∃ m : Nat, m = c % 4294967296 := ⟨_, rfl⟩
 have y1 : ((c : Nat) : Int).tmod 4294967296 = (cm : Int) := by rw [Int.tmod_eq_emod_of_nonneg (by omega)]; omega
 have hcml : cm < 4294967296 := by omega
 have y2 : IntKind.u64.wrap (cm : Int) = (cm : Int) := by rw [IntKind.wrap_u64]; omega
 have HCM : Hid _ := hcm
 clear hcm
 have HW : Hid (W16 (bkW k c n)) := bkW_ok k c n
 have HWE : Hid (bkW k c n = pW (pW kst7 k 8 ++ [cm]) n 3) := by show _ = _; rw [HCM.out]; rfl
 have HPL : Hid (kst7.length = 4) := by show _ = _; rfl
 go_enter Tryz.func72, Tryz.ntmps72
 have hL : NewI .u64 27 w (.slice (some ⟨w.heap.size, 0, none⟩) 4 4) (nI (pW kst7 k 0)) (w.alloc (.cells #[.int .u64 1634760805, .int .u64 857760878, .int .u64 2036477234, .int .u64 1797285236] 27)) := NewI.lit (nI kst7) rfl rfl rfl (by decide)
 go_wp2
 generalize w.alloc (.cells #[.int .u64 1634760805, .int .u64 857760878, .int .u64 2036477234, .int .u64 1797285236] 27) = w1 at hL ⊢
 go_loopw [7, 8] (fun v iv wx => ∃ i : Nat, i ≤ 8 ∧ iv = .int .i64 (i : Int) ∧ NewI .u64 27 w v (nI (pW kst7 k i)) wx) (fun _ iv _ => 8 - (intOf iv).toNat)
 case atStart => exact ⟨0, by omega, rfl, hL⟩
 case round =>
  obtain ⟨i, hi, rfl, hN⟩ := hrel
  clear hL
  by_cases hlt : i < 8
  ·have hd : decide ((i : Int) < 8) = true := decide_eq_true (by omega)
   have hiI : (i : Int) < 8 := by omega
   obtain ⟨m, hm⟩ : ∃ m : Nat, m = 4 * i := ⟨_, rfl⟩
   have hsub := (Rd.kept HK.out hN.2).sub (4 * i) (4 * i + 4) (by omega) (by omega)
   have hld := refload_any _ _ _ hsub
   rw [Nat.add_sub_cancel_left, w4_load, ← hm] at hld
   have x1 : IntKind.i64.wrap (4 * (i : Int)) = (m : Int) := by rw [show 4 * (i : Int) = (m : Int) by omega]; exact IntWalk.i64_in _ (by omega)
   have x2 : IntKind.i64.wrap ((m : Int) + 4) = ((m + 4 : Nat) : Int) := IntWalk.i64_in _ (by omega)
   have hm1 : (m : Int) + 4 ≤ 32 := by omega
   have hm2 : m + 4 ≤ 32 := by omega
   have hm3 : m + 4 ≤ ck := by omega
   have hm4 : (m : Int) + 4 ≤ (ck : Int) := by omega
   have HLD : Hid (Calls Tryz.prog 69 #[.slice (some ⟨bk, ok + m, none⟩) 4 (ck - m)] wr fun e w' => e = .returned (.int .u64 ((w4 k i : Nat) : Int)) ∧ w' = wr) := hld
   have HNx : Hid _ := pW_next kst7 k i
   have HLn : Hid ((nI (pW kst7 k i)).length ≤ 100) := by
    show _ ≤ _
    rw [nI_length, pW_length, HPL.out]
    omega
   generalize w4 k i = z at HLD HNx
   have hLt : RdI .u64 (wr.alloc (.cells #[.int .u64 (z : Int)] 27)) (.slice (some ⟨wr.heap.size, 0, none⟩) 1 1) [(z : Int)] := lit1I _
   clear hsub hld hm
   go_wp2_with fail
   refine Calls.mono HLD.out ?_
   rintro e w5 ⟨rfl, rfl⟩
   go_wp2_with (at_builtin; go_must (refine wpList_append_newI (k := .u64) (w := w) rfl _ _ 69 rfl 27 Tryz.underlying69 8 infoU64c _ _ rfl (hN.alloc _) _ _ rfl hLt (by have := HLn.out; simp only [List.length_singleton]; omega) (by have := HLn.out; simp only [List.length_singleton]; omega) ?_))
   intro v6 w6 hN6 _
   rw [HNx.out] at hN6
   clear hN hLt
   go_wp2
   go_roundw
   case rel => exact ⟨i + 1, by omega, by go_num, hN6⟩
   case measure => simp [intOf] <;> omega
  ·have hie : i = 8 := by omega
   have hd : decide ((i : Int) < 8) = false := decide_eq_false (by omega)
   have hiI : (8 : Int) ≤ (i : Int) := by omega
   rw [hie] at hN
   clear hie hlt
   have hLt : RdI .u64 (wr.alloc (.cells #[.int .u64 (cm : Int)] 27)) (.slice (some ⟨wr.heap.size, 0, none⟩) 1 1) [(cm : Int)] := lit1I _
   have HLn : Hid ((nI (pW kst7 k 8)).length ≤ 100) := by
    show _ ≤ _
    rw [nI_length, pW_length, HPL.out]
    omega
   go_wp2_with (at_builtin; go_must (refine wpList_append_newI (k := .u64) (w := w) rfl _ _ 69 rfl 27 Tryz.underlying69 8 infoU64c _ _ rfl (hN.alloc _) _ _ rfl hLt (by have := HLn.out; simp only [List.length_singleton]; omega) (by have := HLn.out; simp only [List.length_singleton]; omega) ?_))
   intro v6 w6 hN6 _
   obtain ⟨P2, hP2⟩ : ∃ P : List Nat, P = pW kst7 k 8 ++ [cm] := ⟨_, rfl⟩
   have hM : NewI .u64 27 w v6 (nI (pW P2 n 0)) w6 := by
    rw [pW_zero, hP2, ← nI_append]
    exact hN6
   rw [← hP2] at HWE
   replace HPL : Hid (P2.length = 13) := by show _ = _; rw [hP2, List.length_append, pW_length, HPL.out]; rfl
   clear hN hLt hN6 HLn hP2
   go_wp2
   go_loopw [7, 9] (fun v iv wx => ∃ i : Nat, i ≤ 3 ∧ iv = .int .i64 (i : Int) ∧ NewI .u64 27 w v (nI (pW P2 n i)) wx) (fun _ iv _ => 3 - (intOf iv).toNat)
   case atStart => exact ⟨0, by omega, rfl, hM⟩
   case round =>
    obtain ⟨i, hi, rfl, hN⟩ := hrel
    clear hM
    by_cases hlt : i < 3
    ·have hd : decide ((i : Int) < 3) = true := decide_eq_true (by omega)
     have hiI : (i : Int) < 3 := by omega
     obtain ⟨m, hm⟩ : ∃ m : Nat, m = 4 * i := ⟨_, rfl⟩
     have hsub := (Rd.kept HN.out hN.2).sub (4 * i) (4 * i + 4) (by omega) (by omega)
     have hld := refload_any _ _ _ hsub
     rw [Nat.add_sub_cancel_left, w4_load, ← hm] at hld
     have x1 : IntKind.i64.wrap (4 * (i : Int)) = (m : Int) := by rw [show 4 * (i : Int) = (m : Int) by omega]; exact IntWalk.i64_in _ (by omega)
     have x2 : IntKind.i64.wrap ((m : Int) + 4) = ((m + 4 : Nat) : Int) := IntWalk.i64_in _ (by omega)
     have hm1 : (m : Int) + 4 ≤ 12 := by omega
     have hm2 : m + 4 ≤ 12 := by omega
     have hm3 : m + 4 ≤ cn := by omega
     have hm4 : (m : Int) + 4 ≤ (cn : Int) := by omega
     have HLD : Hid (Calls Tryz.prog 69 #[.slice (some ⟨bn, on + m, none⟩) 4 (cn - m)] wr fun e w' => e = .returned (.int .u64 ((w4 n i : Nat) : Int)) ∧ w' = wr) := hld
     have HNx : Hid _ := pW_next P2 n i
     have HLn : Hid ((nI (pW P2 n i)).length ≤ 100) := by
      show _ ≤ _
      rw [nI_length, pW_length, HPL.out]
      omega
     generalize w4 n i = z at HLD HNx
     have hLt : RdI .u64 (wr.alloc (.cells #[.int .u64 (z : Int)] 27)) (.slice (some ⟨wr.heap.size, 0, none⟩) 1 1) [(z : Int)] := lit1I _
     clear hsub hld hm
     go_wp2_with fail
     refine Calls.mono HLD.out ?_
     rintro e w5 ⟨rfl, rfl⟩
     go_wp2_with (at_builtin; go_must (refine wpList_append_newI (k := .u64) (w := w) rfl _ _ 69 rfl 27 Tryz.underlying69 8 infoU64c _ _ rfl (hN.alloc _) _ _ rfl hLt (by have := HLn.out; simp only [List.length_singleton]; omega) (by have := HLn.out; simp only [List.length_singleton]; omega) ?_))
     intro v6 w6 hN6 _
     rw [HNx.out] at hN6
     clear hN hLt
     go_wp2
     go_roundw
     case rel => exact ⟨i + 1, by omega, by go_num, hN6⟩
     case measure => simp [intOf] <;> omega
    ·have hie : i = 3 := by omega
     have hd : decide ((i : Int) < 3) = false := decide_eq_false (by omega)
     have hiI : (3 : Int) ≤ (i : Int) := by omega
     rw [hie] at hN
     clear hie hlt
     rw [← HWE.out] at hN
     have hb1 := hN.2
     have hRw := hN.rd
     clear hN
     obtain ⟨W, hWdef⟩ : ∃ W : List Nat, W = bkW k c n := ⟨_, rfl⟩
     rw [← hWdef] at HW hRw
     have HWD : Hid _ := hWdef
     clear hWdef
     have hne : nI W ≠ [] := nI_ne (by rw [← List.length_pos_iff, HW.out.1]; decide)
     obtain ⟨gw, ow, cw, rfl, hcw, hcw2, hgw, hcellw⟩ := hRw.cells hne
     unfold maxLen at hcw2
     have hlW : (nI W).length = 16 := by rw [nI_length]; exact HW.out.1
     rw [hlW] at hcw hRw hcellw ⊢
     have hV0 : NewI .u64 27 wr (.slice none 0 0) [] wr := NewI.start wr
     have HLW : Hid ((nI W).length = 16) := hlW
     rename World => wV
     clear hlW
     go_wp2_with (at_builtin; go_must (refine wpList_append_newI (k := .u64) (w := wV) rfl _ _ 69 rfl 27 Tryz.underlying69 8 infoU64c _ _ rfl hV0 _ _ rfl hRw (by rw [HLW.out]; decide) (by rw [HLW.out]; decide) ?_))
     intro v7 w7 hN7 _
     obtain ⟨gv, cv, rfl, -, -, hcv, hcv2, -, -, -⟩ := hN7.all hne
     unfold maxLen at hcv2
     rw [HLW.out] at hN7 hcv ⊢
     have hN0 : NewI .u64 27 wV (.slice (some ⟨gv, 0, none⟩) 16 cv) (nI (qDbl W 0)) w7 := hN7
     clear hN7 hV0 hRw
     go_wp2
     go_loopw [11] (fun iv wx => ∃ i : Nat, i ≤ 10 ∧ iv = .int .i64 (i : Int) ∧ NewI .u64 27 wV (.slice (some ⟨gv, 0, none⟩) 16 cv) (nI (qDbl W i)) wx) (fun iv _ => 10 - (intOf iv).toNat)
     case atStart => exact ⟨0, by omega, rfl, hN0⟩
     case round =>
      obtain ⟨i, hi, rfl, hN⟩ := hrel
      clear hN0
      by_cases hlt : i < 10
      ·have hd : decide ((i : Int) < 10) = true := decide_eq_true (by omega)
       have hiI : (i : Int) < 10 := by omega
       have hNc : NewI .u64 27 wV (.slice (some ⟨gv, 0, none⟩) 16 cv) (nI (qCol (qDbl W i) 0)) wr := hN
       clear hN
       go_wp2
       go_loopw [12] (fun kv wx => ∃ k : Nat, k ≤ 4 ∧ kv = .int .i64 (k : Int) ∧ NewI .u64 27 wV (.slice (some ⟨gv, 0, none⟩) 16 cv) (nI (qCol (qDbl W i) k)) wx) (fun kv _ => 4 - (intOf kv).toNat)
       case atStart => exact ⟨0, by omega, rfl, hNc⟩
       case round =>
        obtain ⟨k', hk', rfl, hN⟩ := hrel
        clear hNc
        by_cases hltk : k' < 4
        ·have hdk : decide ((k' : Int) < 4) = true := decide_eq_true (by omega)
         have hkI : (k' : Int) < 4 := by omega
         have HV : Hid (W16 (qCol (qDbl W i) k')) := qCol_ok (qDbl_ok HW.out i) k'
         have HNext : Hid (qAt (qCol (qDbl W i) k') k' (k' + 4) (k' + 8) (k' + 12) = qCol (qDbl W i) (k' + 1)) := by show _ = _; rfl
         generalize qCol (qDbl W i) k' = V at hN HV HNext
         obtain ⟨k4, k8, k12, hk4, hk8, hk12, x1, x2, x3, l0, l1, l2, l3, m0, m1, m2, m3⟩ := col_facts k' hltk
         rw [← hk4, ← hk8, ← hk12] at HNext
         clear hk4 hk8 hk12
         have hlV : (nI V).length = 16 := by rw [nI_length]; exact HV.out.1
         have c0 := (hN.place (j := k') (by omega)).2.2.1
         have c1 := (hN.place (j := k4) (by omega)).2.2.1
         have c2 := (hN.place (j := k8) (by omega)).2.2.1
         have c3 := (hN.place (j := k12) (by omega)).2.2.1
         rw [nI_get] at c0 c1 c2 c3
         have HlV : Hid _ := hlV
         clear hlV
         go_wp2_with fail
         have hB : Below wr.heap.size wr wr.drew := (Below.refl _ _).drew
         refine wpF_begin 37 (w0 := wr) (by kernel_rfl) ?_
         refine wpF_p (hb := .inr hB) (i := 0) (oi := ⟨some 75, .move (.tmp 10), 69, "ref.go:48", #[], none⟩) (v := ?_) ?_ ?_
         rotate_left
         ·intro W; go_simp <;> with_reducible rfl
         try simp only [Act.put, putA, putB, putC]
         refine wpF_p (hb := .inr hB) (i := 1) (oi := ⟨some 76, .move (.tmp 12), 3, "ref.go:48", #[], none⟩) (v := ?_) ?_ ?_
         rotate_left
         ·intro W; go_simp <;> with_reducible rfl
         try simp only [Act.put, putA, putB, putC]
         refine wpF_p (hb := .inr hB) (i := 2) (oi := ⟨some 77, .move (.tmp 10), 69, "ref.go:48", #[⟨37, .gcOnly .lateStores⟩], none⟩) (v := ?_) ?_ ?_
         rotate_left
         ·intro W; go_simp <;> with_reducible rfl
         try simp only [Act.put, putA, putB, putC]
         refine wpF_p (hb := .inr hB) (i := 3) (oi := ⟨some 78, .move (.tmp 12), 3, "ref.go:48", #[⟨37, .gcOnly .lateStores⟩], none⟩) (v := ?_) ?_ ?_
         rotate_left
         ·intro W; go_simp <;> with_reducible rfl
         try simp only [Act.put, putA, putB, putC]
         refine wpF_p (hb := .inr hB) (i := 4) (oi := ⟨some 79, .binOp .add 3 (.tmp 78) (.const (.int .i64 4)) 3, 3, "ref.go:48", #[⟨3, .data⟩, ⟨37, .gcOnly .lateStores⟩], none⟩) (v := ?_) ?_ ?_
         rotate_left
         ·intro W; go_simp <;> with_reducible rfl
         try simp only [Act.put, putA, putB, putC]
         refine wpF_p (hb := .inr hB) (i := 5) (oi := ⟨some 80, .move (.tmp 10), 69, "ref.go:48", #[⟨39, .gcOnly .lateStores⟩], none⟩) (v := ?_) ?_ ?_
         rotate_left
         ·intro W; go_simp <;> with_reducible rfl
         try simp only [Act.put, putA, putB, putC]
         refine wpF_p (hb := .inr hB) (i := 6) (oi := ⟨some 81, .move (.tmp 12), 3, "ref.go:48", #[⟨39, .gcOnly .lateStores⟩], none⟩) (v := ?_) ?_ ?_
         rotate_left
         ·intro W; go_simp <;> with_reducible rfl
         try simp only [Act.put, putA, putB, putC]
         refine wpF_p (hb := .inr hB) (i := 7) (oi := ⟨some 82, .binOp .add 3 (.tmp 81) (.const (.int .i64 8)) 3, 3, "ref.go:48", #[⟨6, .data⟩, ⟨39, .gcOnly .lateStores⟩], none⟩) (v := ?_) ?_ ?_
         rotate_left
         ·intro W; go_simp <;> with_reducible rfl
         try simp only [Act.put, putA, putB, putC]
         refine wpF_p (hb := .inr hB) (i := 8) (oi := ⟨some 83, .move (.tmp 10), 69, "ref.go:48", #[⟨41, .gcOnly .lateStores⟩], none⟩) (v := ?_) ?_ ?_
         rotate_left
         ·intro W; go_simp <;> with_reducible rfl
         try simp only [Act.put, putA, putB, putC]
         refine wpF_p (hb := .inr hB) (i := 9) (oi := ⟨some 84, .move (.tmp 12), 3, "ref.go:48", #[⟨41, .gcOnly .lateStores⟩], none⟩) (v := ?_) ?_ ?_
         rotate_left
         ·intro W; go_simp <;> with_reducible rfl
         try simp only [Act.put, putA, putB, putC]
         refine wpF_p (hb := .inr hB) (i := 10) (oi := ⟨some 85, .binOp .add 3 (.tmp 84) (.const (.int .i64 12)) 3, 3, "ref.go:48", #[⟨9, .data⟩, ⟨41, .gcOnly .lateStores⟩], none⟩) (v := ?_) ?_ ?_
         rotate_left
         ·intro W; go_simp <;> with_reducible rfl
         try simp only [Act.put, putA, putB, putC]
         refine wpF_p (hb := .inr hB) (i := 11) (oi := ⟨some 86, .move (.tmp 10), 69, "ref.go:48", #[], none⟩) (v := ?_) ?_ ?_
         rotate_left
         ·intro W; go_simp <;> with_reducible rfl
         try simp only [Act.put, putA, putB, putC]
         refine wpF_p (hb := .inr hB) (i := 12) (oi := ⟨some 87, .move (.tmp 12), 3, "ref.go:48", #[], none⟩) (v := ?_) ?_ ?_
         rotate_left
         ·intro W; go_simp <;> with_reducible rfl
         try simp only [Act.put, putA, putB, putC]
         refine wpF_p (hb := .inr hB) (i := 13) (oi := ⟨some 88, .indexAddr 69 (.tmp 86) (.tmp 87), 0, "ref.go:48", #[⟨11, .data⟩, ⟨12, .data⟩], none⟩) (v := ?_) ?_ ?_
         rotate_left
         ·intro W; go_simp <;> with_reducible rfl
         try simp only [Act.put, putA, putB, putC]
         refine wpF_t (hb := hB) (i := 14) (oi := ⟨some 89, .load 27 (.tmp 88), 27, "ref.go:48", #[⟨13, .data⟩], none⟩) (v := ?_) ?_ ?_
         rotate_left
         ·intro W hW; have hcW := cellK0 c0 hW; go_simp <;> with_reducible rfl
         try simp only [Act.put, putA, putB, putC]
         refine wpF_p (hb := .inr hB) (i := 15) (oi := ⟨some 90, .move (.tmp 10), 69, "ref.go:48", #[], none⟩) (v := ?_) ?_ ?_
         rotate_left
         ·intro W; go_simp <;> with_reducible rfl
         try simp only [Act.put, putA, putB, putC]
         refine wpF_p (hb := .inr hB) (i := 16) (oi := ⟨some 91, .move (.tmp 12), 3, "ref.go:48", #[], none⟩) (v := ?_) ?_ ?_
         rotate_left
         ·intro W; go_simp <;> with_reducible rfl
         try simp only [Act.put, putA, putB, putC]
         refine wpF_p (hb := .inr hB) (i := 17) (oi := ⟨some 92, .binOp .add 3 (.tmp 91) (.const (.int .i64 4)) 3, 3, "ref.go:48", #[⟨16, .data⟩], none⟩) (v := ?_) ?_ ?_
         rotate_left
         ·intro W; go_simp <;> with_reducible rfl
         try simp only [Act.put, putA, putB, putC]
         refine wpF_p (hb := .inr hB) (i := 18) (oi := ⟨some 93, .indexAddr 69 (.tmp 90) (.tmp 92), 0, "ref.go:48", #[⟨15, .data⟩, ⟨17, .data⟩], none⟩) (v := ?_) ?_ ?_
         rotate_left
         ·intro W; go_simp <;> with_reducible rfl
         try simp only [Act.put, putA, putB, putC]
         refine wpF_t (hb := hB) (i := 19) (oi := ⟨some 94, .load 27 (.tmp 93), 27, "ref.go:48", #[⟨18, .data⟩], none⟩) (v := ?_) ?_ ?_
         rotate_left
         ·intro W hW; have hcW := cellK0 c1 hW; go_simp <;> with_reducible rfl
         try simp only [Act.put, putA, putB, putC]
         refine wpF_p (hb := .inr hB) (i := 20) (oi := ⟨some 95, .move (.tmp 10), 69, "ref.go:48", #[], none⟩) (v := ?_) ?_ ?_
         rotate_left
         ·intro W; go_simp <;> with_reducible rfl
         try simp only [Act.put, putA, putB, putC]
         refine wpF_p (hb := .inr hB) (i := 21) (oi := ⟨some 96, .move (.tmp 12), 3, "ref.go:48", #[], none⟩) (v := ?_) ?_ ?_
         rotate_left
         ·intro W; go_simp <;> with_reducible rfl
         try simp only [Act.put, putA, putB, putC]
         refine wpF_p (hb := .inr hB) (i := 22) (oi := ⟨some 97, .binOp .add 3 (.tmp 96) (.const (.int .i64 8)) 3, 3, "ref.go:48", #[⟨21, .data⟩], none⟩) (v := ?_) ?_ ?_
         rotate_left
         ·intro W; go_simp <;> with_reducible rfl
         try simp only [Act.put, putA, putB, putC]
         refine wpF_p (hb := .inr hB) (i := 23) (oi := ⟨some 98, .indexAddr 69 (.tmp 95) (.tmp 97), 0, "ref.go:48", #[⟨20, .data⟩, ⟨22, .data⟩], none⟩) (v := ?_) ?_ ?_
         rotate_left
         ·intro W; go_simp <;> with_reducible rfl
         try simp only [Act.put, putA, putB, putC]
         refine wpF_t (hb := hB) (i := 24) (oi := ⟨some 99, .load 27 (.tmp 98), 27, "ref.go:48", #[⟨23, .data⟩], none⟩) (v := ?_) ?_ ?_
         rotate_left
         ·intro W hW; have hcW := cellK0 c2 hW; go_simp <;> with_reducible rfl
         try simp only [Act.put, putA, putB, putC]
         refine wpF_p (hb := .inr hB) (i := 25) (oi := ⟨some 100, .move (.tmp 10), 69, "ref.go:48", #[], none⟩) (v := ?_) ?_ ?_
         rotate_left
         ·intro W; go_simp <;> with_reducible rfl
         try simp only [Act.put, putA, putB, putC]
         refine wpF_p (hb := .inr hB) (i := 26) (oi := ⟨some 101, .move (.tmp 12), 3, "ref.go:48", #[], none⟩) (v := ?_) ?_ ?_
         rotate_left
         ·intro W; go_simp <;> with_reducible rfl
         try simp only [Act.put, putA, putB, putC]
         refine wpF_p (hb := .inr hB) (i := 27) (oi := ⟨some 102, .binOp .add 3 (.tmp 101) (.const (.int .i64 12)) 3, 3, "ref.go:48", #[⟨26, .data⟩], none⟩) (v := ?_) ?_ ?_
         rotate_left
         ·intro W; go_simp <;> with_reducible rfl
         try simp only [Act.put, putA, putB, putC]
         refine wpF_p (hb := .inr hB) (i := 28) (oi := ⟨some 103, .indexAddr 69 (.tmp 100) (.tmp 102), 0, "ref.go:48", #[⟨25, .data⟩, ⟨27, .data⟩], none⟩) (v := ?_) ?_ ?_
         rotate_left
         ·intro W; go_simp <;> with_reducible rfl
         try simp only [Act.put, putA, putB, putC]
         refine wpF_t (hb := hB) (i := 29) (oi := ⟨some 104, .load 27 (.tmp 103), 27, "ref.go:48", #[⟨28, .data⟩], none⟩) (v := ?_) ?_ ?_
         rotate_left
         ·intro W hW; have hcW := cellK0 c3 hW; go_simp <;> with_reducible rfl
         try simp only [Act.put, putA, putB, putC]
         refine wpF_do (i := 30) (o := ⟨some 105, .call { callee := .value (.func 85), args := #[.tmp 89, .tmp 94, .tmp 99, .tmp 104], argTypes := #[27, 27, 27, 27] }, 107, "ref.go:48", #[⟨14, .data⟩, ⟨19, .data⟩, ⟨24, .data⟩, ⟨29, .data⟩], none⟩) (by kernel_rfl) rfl (by rfl) fun K hK => ?_
         go_simp
         refine (quarterR_any (q4 V k' k4 k8 k12) (q4_ok HV.out k' k4 k8 k12) _ _ _ _ rfl rfl rfl rfl _).mono ?_
         rintro e w5 ⟨rfl, b5⟩
         replace hB := stepB hB b5
         have hN5 := hN.drew.kept b5
         refine hK.out _ _ (.inr hB) ?_
         clear hK K
         try simp only [Act.put, putA, putB, putC]
         refine wpF_p (hb := .inr hB) (i := 31) (oi := ⟨some 74, .move (.tmp 105), 107, "ref.go:48", #[⟨30, .data⟩], none⟩) (v := ?_) ?_ ?_
         rotate_left
         ·intro W; go_simp <;> with_reducible rfl
         try simp only [Act.put, putA, putB, putC]
         refine wpF_p (hb := .inr hB) (i := 32) (oi := ⟨some 106, .extract (.tmp 74) 0, 27, "ref.go:48", #[⟨31, .data⟩], none⟩) (v := ?_) ?_ ?_
         rotate_left
         ·intro W; go_simp <;> with_reducible rfl
         try simp only [Act.put, putA, putB, putC]
         refine wpF_p (hb := .inr hB) (i := 33) (oi := ⟨some 107, .extract (.tmp 74) 1, 27, "ref.go:48", #[⟨31, .data⟩, ⟨37, .gcOnly .lateStores⟩], none⟩) (v := ?_) ?_ ?_
         rotate_left
         ·intro W; go_simp <;> with_reducible rfl
         try simp only [Act.put, putA, putB, putC]
         refine wpF_p (hb := .inr hB) (i := 34) (oi := ⟨some 108, .extract (.tmp 74) 2, 27, "ref.go:48", #[⟨31, .data⟩, ⟨39, .gcOnly .lateStores⟩], none⟩) (v := ?_) ?_ ?_
         rotate_left
         ·intro W; go_simp <;> with_reducible rfl
         try simp only [Act.put, putA, putB, putC]
         refine wpF_p (hb := .inr hB) (i := 35) (oi := ⟨some 109, .extract (.tmp 74) 3, 27, "ref.go:48", #[⟨31, .data⟩, ⟨41, .gcOnly .lateStores⟩], none⟩) (v := ?_) ?_ ?_
         rotate_left
         ·intro W; go_simp <;> with_reducible rfl
         try simp only [Act.put, putA, putB, putC]
         refine wpF_p (hb := .inr hB) (i := 36) (oi := ⟨some 110, .indexAddr 69 (.tmp 75) (.tmp 76), 0, "ref.go:48", #[⟨0, .data⟩, ⟨1, .data⟩, ⟨0, .phase⟩, ⟨1, .phase⟩, ⟨2, .textOnly .lateStores⟩, ⟨3, .textOnly .lateStores⟩, ⟨4, .textOnly .lateStores⟩, ⟨5, .textOnly .lateStores⟩, ⟨6, .textOnly .lateStores⟩, ⟨7, .textOnly .lateStores⟩, ⟨8, .textOnly .lateStores⟩, ⟨9, .textOnly .lateStores⟩, ⟨10, .textOnly .lateStores⟩, ⟨11, .phase⟩, ⟨12, .phase⟩, ⟨13, .phase⟩, ⟨14, .phase⟩, ⟨15, .phase⟩, ⟨16, .phase⟩, ⟨17, .phase⟩, ⟨18, .phase⟩, ⟨19, .phase⟩, ⟨20, .phase⟩, ⟨21, .phase⟩, ⟨22, .phase⟩, ⟨23, .phase⟩, ⟨24, .phase⟩, ⟨25, .phase⟩, ⟨26, .phase⟩, ⟨27, .phase⟩, ⟨28, .phase⟩, ⟨29, .phase⟩, ⟨30, .phase⟩, ⟨31, .phase⟩, ⟨32, .phase⟩, ⟨33, .textOnly .lateStores⟩, ⟨34, .textOnly .lateStores⟩, ⟨35, .textOnly .lateStores⟩], none⟩) (v := ?_) ?_ ?_
         rotate_left
         ·intro W; go_simp <;> with_reducible rfl
         try simp only [Act.put, putA, putB, putC]
         refine wpF_do (i := 37) (o := ⟨none, .store 27 (.tmp 110) (.tmp 106), 0, "ref.go:48", #[⟨36, .data⟩, ⟨32, .data⟩, ⟨30, .chain⟩, ⟨0, .phase⟩, ⟨1, .phase⟩, ⟨2, .textOnly .lateStores⟩, ⟨3, .textOnly .lateStores⟩, ⟨4, .textOnly .lateStores⟩, ⟨5, .textOnly .lateStores⟩, ⟨6, .textOnly .lateStores⟩, ⟨7, .textOnly .lateStores⟩, ⟨8, .textOnly .lateStores⟩, ⟨9, .textOnly .lateStores⟩, ⟨10, .textOnly .lateStores⟩, ⟨11, .phase⟩, ⟨12, .phase⟩, ⟨13, .phase⟩, ⟨14, .phase⟩, ⟨15, .phase⟩, ⟨16, .phase⟩, ⟨17, .phase⟩, ⟨18, .phase⟩, ⟨19, .phase⟩, ⟨20, .phase⟩, ⟨21, .phase⟩, ⟨22, .phase⟩, ⟨23, .phase⟩, ⟨24, .phase⟩, ⟨25, .phase⟩, ⟨26, .phase⟩, ⟨27, .phase⟩, ⟨28, .phase⟩, ⟨29, .phase⟩, ⟨30, .phase⟩, ⟨31, .phase⟩, ⟨32, .phase⟩, ⟨33, .textOnly .lateStores⟩, ⟨34, .textOnly .lateStores⟩, ⟨35, .textOnly .lateStores⟩], none⟩) (by kernel_rfl) rfl (by rfl) fun K hK => ?_
         refine wp_store_word _ _ rfl rfl _ rfl hN5 (by rw [nI_length, HV.out.1]; omega) ?_
         intro w6 hN6
         rw [nI_set] at hN6
         refine hK.out _ _ (.inl rfl) ?_
         clear hK K
         try simp only [Act.put, putA, putB, putC]
         refine wpF_p (hb := .inl (by kernel_rfl)) (i := 38) (oi := ⟨some 111, .indexAddr 69 (.tmp 77) (.tmp 79), 0, "ref.go:48", #[⟨2, .data⟩, ⟨4, .data⟩, ⟨0, .phase⟩, ⟨1, .phase⟩, ⟨2, .phase⟩, ⟨3, .phase⟩, ⟨4, .phase⟩, ⟨5, .textOnly .lateStores⟩, ⟨6, .textOnly .lateStores⟩, ⟨7, .textOnly .lateStores⟩, ⟨8, .textOnly .lateStores⟩, ⟨9, .textOnly .lateStores⟩, ⟨10, .textOnly .lateStores⟩, ⟨11, .phase⟩, ⟨12, .phase⟩, ⟨13, .phase⟩, ⟨14, .phase⟩, ⟨15, .phase⟩, ⟨16, .phase⟩, ⟨17, .phase⟩, ⟨18, .phase⟩, ⟨19, .phase⟩, ⟨20, .phase⟩, ⟨21, .phase⟩, ⟨22, .phase⟩, ⟨23, .phase⟩, ⟨24, .phase⟩, ⟨25, .phase⟩, ⟨26, .phase⟩, ⟨27, .phase⟩, ⟨28, .phase⟩, ⟨29, .phase⟩, ⟨30, .phase⟩, ⟨31, .phase⟩, ⟨32, .phase⟩, ⟨33, .phase⟩, ⟨34, .textOnly .lateStores⟩, ⟨35, .textOnly .lateStores⟩, ⟨36, .phase⟩, ⟨37, .phase⟩], none⟩) (v := ?_) ?_ ?_
         rotate_left
         ·intro W; go_simp <;> with_reducible rfl
         try simp only [Act.put, putA, putB, putC]
         refine wpF_more (i := 39) (o := ⟨none, .store 27 (.tmp 111) (.tmp 107), 0, "ref.go:48", #[⟨38, .data⟩, ⟨33, .data⟩, ⟨37, .chain⟩, ⟨0, .phase⟩, ⟨1, .phase⟩, ⟨2, .phase⟩, ⟨3, .phase⟩, ⟨4, .phase⟩, ⟨5, .textOnly .lateStores⟩, ⟨6, .textOnly .lateStores⟩, ⟨7, .textOnly .lateStores⟩, ⟨8, .textOnly .lateStores⟩, ⟨9, .textOnly .lateStores⟩, ⟨10, .textOnly .lateStores⟩, ⟨11, .phase⟩, ⟨12, .phase⟩, ⟨13, .phase⟩, ⟨14, .phase⟩, ⟨15, .phase⟩, ⟨16, .phase⟩, ⟨17, .phase⟩, ⟨18, .phase⟩, ⟨19, .phase⟩, ⟨20, .phase⟩, ⟨21, .phase⟩, ⟨22, .phase⟩, ⟨23, .phase⟩, ⟨24, .phase⟩, ⟨25, .phase⟩, ⟨26, .phase⟩, ⟨27, .phase⟩, ⟨28, .phase⟩, ⟨29, .phase⟩, ⟨30, .phase⟩, ⟨31, .phase⟩, ⟨32, .phase⟩, ⟨33, .phase⟩, ⟨34, .textOnly .lateStores⟩, ⟨35, .textOnly .lateStores⟩, ⟨36, .phase⟩, ⟨37, .phase⟩], none⟩) (by kernel_rfl) (by kernel_rfl) rfl (by rfl) fun K hK => ?_
         refine wp_store_word _ _ rfl rfl _ rfl hN6 (by simp only [nI_length, List.length_set]; rw [HV.out.1]; omega) ?_
         intro w7 hN7
         rw [nI_set] at hN7
         refine hK.out _ _ ?_
         clear hK K
         try simp only [Act.put, putA, putB, putC]
         refine wpF_p (hb := .inl (by kernel_rfl)) (i := 40) (oi := ⟨some 112, .indexAddr 69 (.tmp 80) (.tmp 82), 0, "ref.go:48", #[⟨5, .data⟩, ⟨7, .data⟩, ⟨0, .phase⟩, ⟨1, .phase⟩, ⟨2, .phase⟩, ⟨3, .phase⟩, ⟨4, .phase⟩, ⟨5, .phase⟩, ⟨6, .phase⟩, ⟨7, .phase⟩, ⟨8, .textOnly .lateStores⟩, ⟨9, .textOnly .lateStores⟩, ⟨10, .textOnly .lateStores⟩, ⟨11, .phase⟩, ⟨12, .phase⟩, ⟨13, .phase⟩, ⟨14, .phase⟩, ⟨15, .phase⟩, ⟨16, .phase⟩, ⟨17, .phase⟩, ⟨18, .phase⟩, ⟨19, .phase⟩, ⟨20, .phase⟩, ⟨21, .phase⟩, ⟨22, .phase⟩, ⟨23, .phase⟩, ⟨24, .phase⟩, ⟨25, .phase⟩, ⟨26, .phase⟩, ⟨27, .phase⟩, ⟨28, .phase⟩, ⟨29, .phase⟩, ⟨30, .phase⟩, ⟨31, .phase⟩, ⟨32, .phase⟩, ⟨33, .phase⟩, ⟨34, .phase⟩, ⟨35, .textOnly .lateStores⟩, ⟨36, .phase⟩, ⟨37, .phase⟩, ⟨38, .phase⟩, ⟨39, .phase⟩], none⟩) (v := ?_) ?_ ?_
         rotate_left
         ·intro W; go_simp <;> with_reducible rfl
         try simp only [Act.put, putA, putB, putC]
         refine wpF_more (i := 41) (o := ⟨none, .store 27 (.tmp 112) (.tmp 108), 0, "ref.go:48", #[⟨40, .data⟩, ⟨34, .data⟩, ⟨39, .chain⟩, ⟨0, .phase⟩, ⟨1, .phase⟩, ⟨2, .phase⟩, ⟨3, .phase⟩, ⟨4, .phase⟩, ⟨5, .phase⟩, ⟨6, .phase⟩, ⟨7, .phase⟩, ⟨8, .textOnly .lateStores⟩, ⟨9, .textOnly .lateStores⟩, ⟨10, .textOnly .lateStores⟩, ⟨11, .phase⟩, ⟨12, .phase⟩, ⟨13, .phase⟩, ⟨14, .phase⟩, ⟨15, .phase⟩, ⟨16, .phase⟩, ⟨17, .phase⟩, ⟨18, .phase⟩, ⟨19, .phase⟩, ⟨20, .phase⟩, ⟨21, .phase⟩, ⟨22, .phase⟩, ⟨23, .phase⟩, ⟨24, .phase⟩, ⟨25, .phase⟩, ⟨26, .phase⟩, ⟨27, .phase⟩, ⟨28, .phase⟩, ⟨29, .phase⟩, ⟨30, .phase⟩, ⟨31, .phase⟩, ⟨32, .phase⟩, ⟨33, .phase⟩, ⟨34, .phase⟩, ⟨35, .textOnly .lateStores⟩, ⟨36, .phase⟩, ⟨37, .phase⟩, ⟨38, .phase⟩, ⟨39, .phase⟩], none⟩) (by kernel_rfl) (by kernel_rfl) rfl (by rfl) fun K hK => ?_
         refine wp_store_word _ _ rfl rfl _ rfl hN7 (by simp only [nI_length, List.length_set]; rw [HV.out.1]; omega) ?_
         intro w8 hN8
         rw [nI_set] at hN8
         refine hK.out _ _ ?_
         clear hK K
         try simp only [Act.put, putA, putB, putC]
         refine wpF_p (hb := .inl (by kernel_rfl)) (i := 42) (oi := ⟨some 113, .indexAddr 69 (.tmp 83) (.tmp 85), 0, "ref.go:48", #[⟨8, .data⟩, ⟨10, .data⟩, ⟨0, .phase⟩, ⟨1, .phase⟩, ⟨2, .phase⟩, ⟨3, .phase⟩, ⟨4, .phase⟩, ⟨5, .phase⟩, ⟨6, .phase⟩, ⟨7, .phase⟩, ⟨8, .phase⟩, ⟨9, .phase⟩, ⟨10, .phase⟩, ⟨11, .phase⟩, ⟨12, .phase⟩, ⟨13, .phase⟩, ⟨14, .phase⟩, ⟨15, .phase⟩, ⟨16, .phase⟩, ⟨17, .phase⟩, ⟨18, .phase⟩, ⟨19, .phase⟩, ⟨20, .phase⟩, ⟨21, .phase⟩, ⟨22, .phase⟩, ⟨23, .phase⟩, ⟨24, .phase⟩, ⟨25, .phase⟩, ⟨26, .phase⟩, ⟨27, .phase⟩, ⟨28, .phase⟩, ⟨29, .phase⟩, ⟨30, .phase⟩, ⟨31, .phase⟩, ⟨32, .phase⟩, ⟨33, .phase⟩, ⟨34, .phase⟩, ⟨35, .phase⟩, ⟨36, .phase⟩, ⟨37, .phase⟩, ⟨38, .phase⟩, ⟨39, .phase⟩, ⟨40, .phase⟩, ⟨41, .phase⟩], none⟩) (v := ?_) ?_ ?_
         rotate_left
         ·intro W; go_simp <;> with_reducible rfl
         try simp only [Act.put, putA, putB, putC]
         refine wpF_more (i := 43) (o := ⟨none, .store 27 (.tmp 113) (.tmp 109), 0, "ref.go:48", #[⟨42, .data⟩, ⟨35, .data⟩, ⟨41, .chain⟩, ⟨0, .phase⟩, ⟨1, .phase⟩, ⟨2, .phase⟩, ⟨3, .phase⟩, ⟨4, .phase⟩, ⟨5, .phase⟩, ⟨6, .phase⟩, ⟨7, .phase⟩, ⟨8, .phase⟩, ⟨9, .phase⟩, ⟨10, .phase⟩, ⟨11, .phase⟩, ⟨12, .phase⟩, ⟨13, .phase⟩, ⟨14, .phase⟩, ⟨15, .phase⟩, ⟨16, .phase⟩, ⟨17, .phase⟩, ⟨18, .phase⟩, ⟨19, .phase⟩, ⟨20, .phase⟩, ⟨21, .phase⟩, ⟨22, .phase⟩, ⟨23, .phase⟩, ⟨24, .phase⟩, ⟨25, .phase⟩, ⟨26, .phase⟩, ⟨27, .phase⟩, ⟨28, .phase⟩, ⟨29, .phase⟩, ⟨30, .phase⟩, ⟨31, .phase⟩, ⟨32, .phase⟩, ⟨33, .phase⟩, ⟨34, .phase⟩, ⟨35, .phase⟩, ⟨36, .phase⟩, ⟨37, .phase⟩, ⟨38, .phase⟩, ⟨39, .phase⟩, ⟨40, .phase⟩, ⟨41, .phase⟩], none⟩) (by kernel_rfl) (by kernel_rfl) rfl (by rfl) fun K hK => ?_
         refine wp_store_word _ _ rfl rfl _ rfl hN8 (by simp only [nI_length, List.length_set]; rw [HV.out.1]; omega) ?_
         intro w9 hN9
         rw [nI_set] at hN9
         refine hK.out _ _ ?_
         clear hK K
         try simp only [Act.put, putA, putB, putC]
         refine wpF_done (by kernel_rfl) ?_
         have hN10 : NewI .u64 27 wV (.slice (some ⟨gv, 0, none⟩) 16 cv) (nI (qCol (qDbl W i) (k' + 1))) w9 := by
          rw [← HNext.out]
          exact hN9
         clear hN c0 c1 c2 c3 hN5 hN6 hN7 hN8 hN9 hB b5
         go_wp2
         go_roundw
         case rel => exact ⟨k' + 1, by omega, by go_num, hN10⟩
         case measure => simp [intOf] <;> omega
        ·have hke : k' = 4 := by omega
         have hdk : decide ((k' : Int) < 4) = false := decide_eq_false (by omega)
         have hkI : (4 : Int) ≤ (k' : Int) := by omega
         have hNd : NewI .u64 27 wV (.slice (some ⟨gv, 0, none⟩) 16 cv) (nI (qDia (qCol (qDbl W i) 4) 0)) wr := by
          rw [← hke]
          exact hN
         clear hN hke
         go_wp2
         go_loopw [13] (fun kv wx => ∃ k : Nat, k ≤ 4 ∧ kv = .int .i64 (k : Int) ∧ NewI .u64 27 wV (.slice (some ⟨gv, 0, none⟩) 16 cv) (nI (qDia (qCol (qDbl W i) 4) k)) wx) (fun kv _ => 4 - (intOf kv).toNat)
         case atStart => exact ⟨0, by omega, rfl, hNd⟩
         case round =>
          obtain ⟨k', hk', rfl, hN⟩ := hrel
          clear hNd
          by_cases hltk : k' < 4
          ·have hdk : decide ((k' : Int) < 4) = true := decide_eq_true (by omega)
           have hkI : (k' : Int) < 4 := by omega
           have HV : Hid (W16 (qDia (qCol (qDbl W i) 4) k')) := qDia_ok (qCol_ok (qDbl_ok HW.out i) 4) k'
           have HNext : Hid (qAt (qDia (qCol (qDbl W i) 4) k') k' (4 + (k' + 1) % 4) (8 + (k' + 2) % 4) (12 + (k' + 3) % 4) = qDia (qCol (qDbl W i) 4) (k' + 1)) := by show _ = _; rfl
           generalize qDia (qCol (qDbl W i) 4) k' = V at hN HV HNext
           obtain ⟨r4, r8, r12, k4, k8, k12, hk4, hk8, hk12, z1, z2, z3, t1, t2, t3, t4, t5, t6, x1, x2, x3, l0, l1, l2, l3, m0, m1, m2, m3⟩ := dia_facts k' hltk
           rw [← hk4, ← hk8, ← hk12] at HNext
           clear hk4 hk8 hk12
           have hlV : (nI V).length = 16 := by rw [nI_length]; exact HV.out.1
           have c0 := (hN.place (j := k') (by omega)).2.2.1
           have c1 := (hN.place (j := k4) (by omega)).2.2.1
           have c2 := (hN.place (j := k8) (by omega)).2.2.1
           have c3 := (hN.place (j := k12) (by omega)).2.2.1
           rw [nI_get] at c0 c1 c2 c3
           have HlV : Hid _ := hlV
           clear hlV
           go_wp2_with fail
           have hB : Below wr.heap.size wr wr.drew := (Below.refl _ _).drew
           refine wpF_begin 31 (w0 := wr) (by kernel_rfl) ?_
           refine wpF_p (hb := .inr hB) (i := 0) (oi := ⟨some 131, .move (.tmp 10), 69, "ref.go:54", #[], none⟩) (v := ?_) ?_ ?_
           rotate_left
           ·intro W; go_simp <;> with_reducible rfl
           try simp only [Act.put, putA, putB, putC]
           refine wpF_p (hb := .inr hB) (i := 1) (oi := ⟨some 132, .move (.tmp 13), 3, "ref.go:54", #[], none⟩) (v := ?_) ?_ ?_
           rotate_left
           ·intro W; go_simp <;> with_reducible rfl
           try simp only [Act.put, putA, putB, putC]
           refine wpF_p (hb := .inr hB) (i := 2) (oi := ⟨some 133, .move (.tmp 10), 69, "ref.go:54", #[⟨31, .gcOnly .lateStores⟩], none⟩) (v := ?_) ?_ ?_
           rotate_left
           ·intro W; go_simp <;> with_reducible rfl
           try simp only [Act.put, putA, putB, putC]
           refine wpF_p (hb := .inr hB) (i := 3) (oi := ⟨some 134, .move (.tmp 14), 3, "ref.go:54", #[⟨31, .gcOnly .lateStores⟩], none⟩) (v := ?_) ?_ ?_
           rotate_left
           ·intro W; go_simp <;> with_reducible rfl
           try simp only [Act.put, putA, putB, putC]
           refine wpF_p (hb := .inr hB) (i := 4) (oi := ⟨some 135, .move (.tmp 10), 69, "ref.go:54", #[⟨33, .gcOnly .lateStores⟩], none⟩) (v := ?_) ?_ ?_
           rotate_left
           ·intro W; go_simp <;> with_reducible rfl
           try simp only [Act.put, putA, putB, putC]
           refine wpF_p (hb := .inr hB) (i := 5) (oi := ⟨some 136, .move (.tmp 15), 3, "ref.go:54", #[⟨33, .gcOnly .lateStores⟩], none⟩) (v := ?_) ?_ ?_
           rotate_left
           ·intro W; go_simp <;> with_reducible rfl
           try simp only [Act.put, putA, putB, putC]
           refine wpF_p (hb := .inr hB) (i := 6) (oi := ⟨some 137, .move (.tmp 10), 69, "ref.go:54", #[⟨35, .gcOnly .lateStores⟩], none⟩) (v := ?_) ?_ ?_
           rotate_left
           ·intro W; go_simp <;> with_reducible rfl
           try simp only [Act.put, putA, putB, putC]
           refine wpF_p (hb := .inr hB) (i := 7) (oi := ⟨some 138, .move (.tmp 16), 3, "ref.go:54", #[⟨35, .gcOnly .lateStores⟩], none⟩) (v := ?_) ?_ ?_
           rotate_left
           ·intro W; go_simp <;> with_reducible rfl
           try simp only [Act.put, putA, putB, putC]
           refine wpF_p (hb := .inr hB) (i := 8) (oi := ⟨some 139, .move (.tmp 10), 69, "ref.go:54", #[], none⟩) (v := ?_) ?_ ?_
           rotate_left
           ·intro W; go_simp <;> with_reducible rfl
           try simp only [Act.put, putA, putB, putC]
           refine wpF_p (hb := .inr hB) (i := 9) (oi := ⟨some 140, .move (.tmp 13), 3, "ref.go:54", #[], none⟩) (v := ?_) ?_ ?_
           rotate_left
           ·intro W; go_simp <;> with_reducible rfl
           try simp only [Act.put, putA, putB, putC]
           refine wpF_p (hb := .inr hB) (i := 10) (oi := ⟨some 141, .indexAddr 69 (.tmp 139) (.tmp 140), 0, "ref.go:54", #[⟨8, .data⟩, ⟨9, .data⟩], none⟩) (v := ?_) ?_ ?_
           rotate_left
           ·intro W; go_simp <;> with_reducible rfl
           try simp only [Act.put, putA, putB, putC]
           refine wpF_t (hb := hB) (i := 11) (oi := ⟨some 142, .load 27 (.tmp 141), 27, "ref.go:54", #[⟨10, .data⟩], none⟩) (v := ?_) ?_ ?_
           rotate_left
           ·intro W hW; have hcW := cellK0 c0 hW; go_simp <;> with_reducible rfl
           try simp only [Act.put, putA, putB, putC]
           refine wpF_p (hb := .inr hB) (i := 12) (oi := ⟨some 143, .move (.tmp 10), 69, "ref.go:54", #[], none⟩) (v := ?_) ?_ ?_
           rotate_left
           ·intro W; go_simp <;> with_reducible rfl
           try simp only [Act.put, putA, putB, putC]
           refine wpF_p (hb := .inr hB) (i := 13) (oi := ⟨some 144, .move (.tmp 14), 3, "ref.go:54", #[], none⟩) (v := ?_) ?_ ?_
           rotate_left
           ·intro W; go_simp <;> with_reducible rfl
           try simp only [Act.put, putA, putB, putC]
           refine wpF_p (hb := .inr hB) (i := 14) (oi := ⟨some 145, .indexAddr 69 (.tmp 143) (.tmp 144), 0, "ref.go:54", #[⟨12, .data⟩, ⟨13, .data⟩], none⟩) (v := ?_) ?_ ?_
           rotate_left
           ·intro W; go_simp <;> with_reducible rfl
           try simp only [Act.put, putA, putB, putC]
           refine wpF_t (hb := hB) (i := 15) (oi := ⟨some 146, .load 27 (.tmp 145), 27, "ref.go:54", #[⟨14, .data⟩], none⟩) (v := ?_) ?_ ?_
           rotate_left
           ·intro W hW; have hcW := cellK0 c1 hW; go_simp <;> with_reducible rfl
           try simp only [Act.put, putA, putB, putC]
           refine wpF_p (hb := .inr hB) (i := 16) (oi := ⟨some 147, .move (.tmp 10), 69, "ref.go:54", #[], none⟩) (v := ?_) ?_ ?_
           rotate_left
           ·intro W; go_simp <;> with_reducible rfl
           try simp only [Act.put, putA, putB, putC]
           refine wpF_p (hb := .inr hB) (i := 17) (oi := ⟨some 148, .move (.tmp 15), 3, "ref.go:54", #[], none⟩) (v := ?_) ?_ ?_
           rotate_left
           ·intro W; go_simp <;> with_reducible rfl
           try simp only [Act.put, putA, putB, putC]
           refine wpF_p (hb := .inr hB) (i := 18) (oi := ⟨some 149, .indexAddr 69 (.tmp 147) (.tmp 148), 0, "ref.go:54", #[⟨16, .data⟩, ⟨17, .data⟩], none⟩) (v := ?_) ?_ ?_
           rotate_left
           ·intro W; go_simp <;> with_reducible rfl
           try simp only [Act.put, putA, putB, putC]
           refine wpF_t (hb := hB) (i := 19) (oi := ⟨some 150, .load 27 (.tmp 149), 27, "ref.go:54", #[⟨18, .data⟩], none⟩) (v := ?_) ?_ ?_
           rotate_left
           ·intro W hW; have hcW := cellK0 c2 hW; go_simp <;> with_reducible rfl
           try simp only [Act.put, putA, putB, putC]
           refine wpF_p (hb := .inr hB) (i := 20) (oi := ⟨some 151, .move (.tmp 10), 69, "ref.go:54", #[], none⟩) (v := ?_) ?_ ?_
           rotate_left
           ·intro W; go_simp <;> with_reducible rfl
           try simp only [Act.put, putA, putB, putC]
           refine wpF_p (hb := .inr hB) (i := 21) (oi := ⟨some 152, .move (.tmp 16), 3, "ref.go:54", #[], none⟩) (v := ?_) ?_ ?_
           rotate_left
           ·intro W; go_simp <;> with_reducible rfl
           try simp only [Act.put, putA, putB, putC]
           refine wpF_p (hb := .inr hB) (i := 22) (oi := ⟨some 153, .indexAddr 69 (.tmp 151) (.tmp 152), 0, "ref.go:54", #[⟨20, .data⟩, ⟨21, .data⟩], none⟩) (v := ?_) ?_ ?_
           rotate_left
           ·intro W; go_simp <;> with_reducible rfl
           try simp only [Act.put, putA, putB, putC]
           refine wpF_t (hb := hB) (i := 23) (oi := ⟨some 154, .load 27 (.tmp 153), 27, "ref.go:54", #[⟨22, .data⟩], none⟩) (v := ?_) ?_ ?_
           rotate_left
           ·intro W hW; have hcW := cellK0 c3 hW; go_simp <;> with_reducible rfl
           try simp only [Act.put, putA, putB, putC]
           refine wpF_do (i := 24) (o := ⟨some 155, .call { callee := .value (.func 85), args := #[.tmp 142, .tmp 146, .tmp 150, .tmp 154], argTypes := #[27, 27, 27, 27] }, 107, "ref.go:54", #[⟨11, .data⟩, ⟨15, .data⟩, ⟨19, .data⟩, ⟨23, .data⟩], none⟩) (by kernel_rfl) rfl (by rfl) fun K hK => ?_
           go_simp
           refine (quarterR_any (q4 V k' k4 k8 k12) (q4_ok HV.out k' k4 k8 k12) _ _ _ _ rfl rfl rfl rfl _).mono ?_
           rintro e w5 ⟨rfl, b5⟩
           replace hB := stepB hB b5
           have hN5 := hN.drew.kept b5
           refine hK.out _ _ (.inr hB) ?_
           clear hK K
           try simp only [Act.put, putA, putB, putC]
           refine wpF_p (hb := .inr hB) (i := 25) (oi := ⟨some 130, .move (.tmp 155), 107, "ref.go:54", #[⟨24, .data⟩], none⟩) (v := ?_) ?_ ?_
           rotate_left
           ·intro W; go_simp <;> with_reducible rfl
           try simp only [Act.put, putA, putB, putC]
           refine wpF_p (hb := .inr hB) (i := 26) (oi := ⟨some 156, .extract (.tmp 130) 0, 27, "ref.go:54", #[⟨25, .data⟩], none⟩) (v := ?_) ?_ ?_
           rotate_left
           ·intro W; go_simp <;> with_reducible rfl
           try simp only [Act.put, putA, putB, putC]
           refine wpF_p (hb := .inr hB) (i := 27) (oi := ⟨some 157, .extract (.tmp 130) 1, 27, "ref.go:54", #[⟨25, .data⟩, ⟨31, .gcOnly .lateStores⟩], none⟩) (v := ?_) ?_ ?_
           rotate_left
           ·intro W; go_simp <;> with_reducible rfl
           try simp only [Act.put, putA, putB, putC]
           refine wpF_p (hb := .inr hB) (i := 28) (oi := ⟨some 158, .extract (.tmp 130) 2, 27, "ref.go:54", #[⟨25, .data⟩, ⟨33, .gcOnly .lateStores⟩], none⟩) (v := ?_) ?_ ?_
           rotate_left
           ·intro W; go_simp <;> with_reducible rfl
           try simp only [Act.put, putA, putB, putC]
           refine wpF_p (hb := .inr hB) (i := 29) (oi := ⟨some 159, .extract (.tmp 130) 3, 27, "ref.go:54", #[⟨25, .data⟩, ⟨35, .gcOnly .lateStores⟩], none⟩) (v := ?_) ?_ ?_
           rotate_left
           ·intro W; go_simp <;> with_reducible rfl
           try simp only [Act.put, putA, putB, putC]
           refine wpF_p (hb := .inr hB) (i := 30) (oi := ⟨some 160, .indexAddr 69 (.tmp 131) (.tmp 132), 0, "ref.go:54", #[⟨0, .data⟩, ⟨1, .data⟩, ⟨0, .phase⟩, ⟨1, .phase⟩, ⟨2, .textOnly .lateStores⟩, ⟨3, .textOnly .lateStores⟩, ⟨4, .textOnly .lateStores⟩, ⟨5, .textOnly .lateStores⟩, ⟨6, .textOnly .lateStores⟩, ⟨7, .textOnly .lateStores⟩, ⟨8, .phase⟩, ⟨9, .phase⟩, ⟨10, .phase⟩, ⟨11, .phase⟩, ⟨12, .phase⟩, ⟨13, .phase⟩, ⟨14, .phase⟩, ⟨15, .phase⟩, ⟨16, .phase⟩, ⟨17, .phase⟩, ⟨18, .phase⟩, ⟨19, .phase⟩, ⟨20, .phase⟩, ⟨21, .phase⟩, ⟨22, .phase⟩, ⟨23, .phase⟩, ⟨24, .phase⟩, ⟨25, .phase⟩, ⟨26, .phase⟩, ⟨27, .textOnly .lateStores⟩, ⟨28, .textOnly .lateStores⟩, ⟨29, .textOnly .lateStores⟩], none⟩) (v := ?_) ?_ ?_
           rotate_left
           ·intro W; go_simp <;> with_reducible rfl
           try simp only [Act.put, putA, putB, putC]
           refine wpF_do (i := 31) (o := ⟨none, .store 27 (.tmp 160) (.tmp 156), 0, "ref.go:54", #[⟨30, .data⟩, ⟨26, .data⟩, ⟨24, .chain⟩, ⟨0, .phase⟩, ⟨1, .phase⟩, ⟨2, .textOnly .lateStores⟩, ⟨3, .textOnly .lateStores⟩, ⟨4, .textOnly .lateStores⟩, ⟨5, .textOnly .lateStores⟩, ⟨6, .textOnly .lateStores⟩, ⟨7, .textOnly .lateStores⟩, ⟨8, .phase⟩, ⟨9, .phase⟩, ⟨10, .phase⟩, ⟨11, .phase⟩, ⟨12, .phase⟩, ⟨13, .phase⟩, ⟨14, .phase⟩, ⟨15, .phase⟩, ⟨16, .phase⟩, ⟨17, .phase⟩, ⟨18, .phase⟩, ⟨19, .phase⟩, ⟨20, .phase⟩, ⟨21, .phase⟩, ⟨22, .phase⟩, ⟨23, .phase⟩, ⟨24, .phase⟩, ⟨25, .phase⟩, ⟨26, .phase⟩, ⟨27, .textOnly .lateStores⟩, ⟨28, .textOnly .lateStores⟩, ⟨29, .textOnly .lateStores⟩], none⟩) (by kernel_rfl) rfl (by rfl) fun K hK => ?_
           refine wp_store_word _ _ rfl rfl _ rfl hN5 (by rw [nI_length, HV.out.1]; omega) ?_
           intro w6 hN6
           rw [nI_set] at hN6
           refine hK.out _ _ (.inl rfl) ?_
           clear hK K
           try simp only [Act.put, putA, putB, putC]
           refine wpF_p (hb := .inl (by kernel_rfl)) (i := 32) (oi := ⟨some 161, .indexAddr 69 (.tmp 133) (.tmp 134), 0, "ref.go:54", #[⟨2, .data⟩, ⟨3, .data⟩, ⟨0, .phase⟩, ⟨1, .phase⟩, ⟨2, .phase⟩, ⟨3, .phase⟩, ⟨4, .textOnly .lateStores⟩, ⟨5, .textOnly .lateStores⟩, ⟨6, .textOnly .lateStores⟩, ⟨7, .textOnly .lateStores⟩, ⟨8, .phase⟩, ⟨9, .phase⟩, ⟨10, .phase⟩, ⟨11, .phase⟩, ⟨12, .phase⟩, ⟨13, .phase⟩, ⟨14, .phase⟩, ⟨15, .phase⟩, ⟨16, .phase⟩, ⟨17, .phase⟩, ⟨18, .phase⟩, ⟨19, .phase⟩, ⟨20, .phase⟩, ⟨21, .phase⟩, ⟨22, .phase⟩, ⟨23, .phase⟩, ⟨24, .phase⟩, ⟨25, .phase⟩, ⟨26, .phase⟩, ⟨27, .phase⟩, ⟨28, .textOnly .lateStores⟩, ⟨29, .textOnly .lateStores⟩, ⟨30, .phase⟩, ⟨31, .phase⟩], none⟩) (v := ?_) ?_ ?_
           rotate_left
           ·intro W; go_simp <;> with_reducible rfl
           try simp only [Act.put, putA, putB, putC]
           refine wpF_more (i := 33) (o := ⟨none, .store 27 (.tmp 161) (.tmp 157), 0, "ref.go:54", #[⟨32, .data⟩, ⟨27, .data⟩, ⟨31, .chain⟩, ⟨0, .phase⟩, ⟨1, .phase⟩, ⟨2, .phase⟩, ⟨3, .phase⟩, ⟨4, .textOnly .lateStores⟩, ⟨5, .textOnly .lateStores⟩, ⟨6, .textOnly .lateStores⟩, ⟨7, .textOnly .lateStores⟩, ⟨8, .phase⟩, ⟨9, .phase⟩, ⟨10, .phase⟩, ⟨11, .phase⟩, ⟨12, .phase⟩, ⟨13, .phase⟩, ⟨14, .phase⟩, ⟨15, .phase⟩, ⟨16, .phase⟩, ⟨17, .phase⟩, ⟨18, .phase⟩, ⟨19, .phase⟩, ⟨20, .phase⟩, ⟨21, .phase⟩, ⟨22, .phase⟩, ⟨23, .phase⟩, ⟨24, .phase⟩, ⟨25, .phase⟩, ⟨26, .phase⟩, ⟨27, .phase⟩, ⟨28, .textOnly .lateStores⟩, ⟨29, .textOnly .lateStores⟩, ⟨30, .phase⟩, ⟨31, .phase⟩], none⟩) (by kernel_rfl) (by kernel_rfl) rfl (by rfl) fun K hK => ?_
           refine wp_store_word _ _ rfl rfl _ rfl hN6 (by simp only [nI_length, List.length_set]; rw [HV.out.1]; omega) ?_
           intro w7 hN7
           rw [nI_set] at hN7
           refine hK.out _ _ ?_
           clear hK K
           try simp only [Act.put, putA, putB, putC]
           refine wpF_p (hb := .inl (by kernel_rfl)) (i := 34) (oi := ⟨some 162, .indexAddr 69 (.tmp 135) (.tmp 136), 0, "ref.go:54", #[⟨4, .data⟩, ⟨5, .data⟩, ⟨0, .phase⟩, ⟨1, .phase⟩, ⟨2, .phase⟩, ⟨3, .phase⟩, ⟨4, .phase⟩, ⟨5, .phase⟩, ⟨6, .textOnly .lateStores⟩, ⟨7, .textOnly .lateStores⟩, ⟨8, .phase⟩, ⟨9, .phase⟩, ⟨10, .phase⟩, ⟨11, .phase⟩, ⟨12, .phase⟩, ⟨13, .phase⟩, ⟨14, .phase⟩, ⟨15, .phase⟩, ⟨16, .phase⟩, ⟨17, .phase⟩, ⟨18, .phase⟩, ⟨19, .phase⟩, ⟨20, .phase⟩, ⟨21, .phase⟩, ⟨22, .phase⟩, ⟨23, .phase⟩, ⟨24, .phase⟩, ⟨25, .phase⟩, ⟨26, .phase⟩, ⟨27, .phase⟩, ⟨28, .phase⟩, ⟨29, .textOnly .lateStores⟩, ⟨30, .phase⟩, ⟨31, .phase⟩, ⟨32, .phase⟩, ⟨33, .phase⟩], none⟩) (v := ?_) ?_ ?_
           rotate_left
           ·intro W; go_simp <;> with_reducible rfl
           try simp only [Act.put, putA, putB, putC]
           refine wpF_more (i := 35) (o := ⟨none, .store 27 (.tmp 162) (.tmp 158), 0, "ref.go:54", #[⟨34, .data⟩, ⟨28, .data⟩, ⟨33, .chain⟩, ⟨0, .phase⟩, ⟨1, .phase⟩, ⟨2, .phase⟩, ⟨3, .phase⟩, ⟨4, .phase⟩, ⟨5, .phase⟩, ⟨6, .textOnly .lateStores⟩, ⟨7, .textOnly .lateStores⟩, ⟨8, .phase⟩, ⟨9, .phase⟩, ⟨10, .phase⟩, ⟨11, .phase⟩, ⟨12, .phase⟩, ⟨13, .phase⟩, ⟨14, .phase⟩, ⟨15, .phase⟩, ⟨16, .phase⟩, ⟨17, .phase⟩, ⟨18, .phase⟩, ⟨19, .phase⟩, ⟨20, .phase⟩, ⟨21, .phase⟩, ⟨22, .phase⟩, ⟨23, .phase⟩, ⟨24, .phase⟩, ⟨25, .phase⟩, ⟨26, .phase⟩, ⟨27, .phase⟩, ⟨28, .phase⟩, ⟨29, .textOnly .lateStores⟩, ⟨30, .phase⟩, ⟨31, .phase⟩, ⟨32, .phase⟩, ⟨33, .phase⟩], none⟩) (by kernel_rfl) (by kernel_rfl) rfl (by rfl) fun K hK => ?_
           refine wp_store_word _ _ rfl rfl _ rfl hN7 (by simp only [nI_length, List.length_set]; rw [HV.out.1]; omega) ?_
           intro w8 hN8
           rw [nI_set] at hN8
           refine hK.out _ _ ?_
           clear hK K
           try simp only [Act.put, putA, putB, putC]
           refine wpF_p (hb := .inl (by kernel_rfl)) (i := 36) (oi := ⟨some 163, .indexAddr 69 (.tmp 137) (.tmp 138), 0, "ref.go:54", #[⟨6, .data⟩, ⟨7, .data⟩, ⟨0, .phase⟩, ⟨1, .phase⟩, ⟨2, .phase⟩, ⟨3, .phase⟩, ⟨4, .phase⟩, ⟨5, .phase⟩, ⟨6, .phase⟩, ⟨7, .phase⟩, ⟨8, .phase⟩, ⟨9, .phase⟩, ⟨10, .phase⟩, ⟨11, .phase⟩, ⟨12, .phase⟩, ⟨13, .phase⟩, ⟨14, .phase⟩, ⟨15, .phase⟩, ⟨16, .phase⟩, ⟨17, .phase⟩, ⟨18, .phase⟩, ⟨19, .phase⟩, ⟨20, .phase⟩, ⟨21, .phase⟩, ⟨22, .phase⟩, ⟨23, .phase⟩, ⟨24, .phase⟩, ⟨25, .phase⟩, ⟨26, .phase⟩, ⟨27, .phase⟩, ⟨28, .phase⟩, ⟨29, .phase⟩, ⟨30, .phase⟩, ⟨31, .phase⟩, ⟨32, .phase⟩, ⟨33, .phase⟩, ⟨34, .phase⟩, ⟨35, .phase⟩], none⟩) (v := ?_) ?_ ?_
           rotate_left
           ·intro W; go_simp <;> with_reducible rfl
           try simp only [Act.put, putA, putB, putC]
           refine wpF_more (i := 37) (o := ⟨none, .store 27 (.tmp 163) (.tmp 159), 0, "ref.go:54", #[⟨36, .data⟩, ⟨29, .data⟩, ⟨35, .chain⟩, ⟨0, .phase⟩, ⟨1, .phase⟩, ⟨2, .phase⟩, ⟨3, .phase⟩, ⟨4, .phase⟩, ⟨5, .phase⟩, ⟨6, .phase⟩, ⟨7, .phase⟩, ⟨8, .phase⟩, ⟨9, .phase⟩, ⟨10, .phase⟩, ⟨11, .phase⟩, ⟨12, .phase⟩, ⟨13, .phase⟩, ⟨14, .phase⟩, ⟨15, .phase⟩, ⟨16, .phase⟩, ⟨17, .phase⟩, ⟨18, .phase⟩, ⟨19, .phase⟩, ⟨20, .phase⟩, ⟨21, .phase⟩, ⟨22, .phase⟩, ⟨23, .phase⟩, ⟨24, .phase⟩, ⟨25, .phase⟩, ⟨26, .phase⟩, ⟨27, .phase⟩, ⟨28, .phase⟩, ⟨29, .phase⟩, ⟨30, .phase⟩, ⟨31, .phase⟩, ⟨32, .phase⟩, ⟨33, .phase⟩, ⟨34, .phase⟩, ⟨35, .phase⟩], none⟩) (by kernel_rfl) (by kernel_rfl) rfl (by rfl) fun K hK => ?_
           refine wp_store_word _ _ rfl rfl _ rfl hN8 (by simp only [nI_length, List.length_set]; rw [HV.out.1]; omega) ?_
           intro w9 hN9
           rw [nI_set] at hN9
           refine hK.out _ _ ?_
           clear hK K
           try simp only [Act.put, putA, putB, putC]
           refine wpF_done (by kernel_rfl) ?_
           have hN10 : NewI .u64 27 wV (.slice (some ⟨gv, 0, none⟩) 16 cv) (nI (qDia (qCol (qDbl W i) 4) (k' + 1))) w9 := by
            rw [← HNext.out]
            exact hN9
           clear hN c0 c1 c2 c3 hN5 hN6 hN7 hN8 hN9 hB b5
           go_wp2
           go_roundw
           case rel => exact ⟨k' + 1, by omega, by go_num, hN10⟩
           case measure => simp [intOf] <;> omega
          ·have hke : k' = 4 := by omega
           have hdk : decide ((k' : Int) < 4) = false := decide_eq_false (by omega)
           have hkI : (4 : Int) ≤ (k' : Int) := by omega
           have hNe : NewI .u64 27 wV (.slice (some ⟨gv, 0, none⟩) 16 cv) (nI (qDbl W (i + 1))) wr := by
            rw [hke] at hN
            exact hN
           clear hN hke
           go_wp2
           go_roundw
           case rel => exact ⟨i + 1, by omega, by go_num, hNe⟩
           case measure => simp [intOf] <;> omega
      ·have hie : i = 10 := by omega
       have hd : decide ((i : Int) < 10) = false := decide_eq_false (by omega)
       have hiI : (10 : Int) ≤ (i : Int) := by omega
       rw [hie] at hN
       clear hie
       have HV : Hid (W16 (qDbl W 10)) := qDbl_ok HW.out 10
       have HF : Hid (bkL k c n = wB (fun i => ((qDbl W 10).getD i 0 + W.getD i 0) % 4294967296) 16) := by show _ = _; rw [HWD.out]; rfl
       have hbV := stepB hb1 hN.2
       have hcv3 : ∀ j, j < 16 → wr.cell? ⟨gv, j, none⟩ = some (.int .u64 (((qDbl W 10).getD j 0 : Nat) : Int)) := fun j hj => by
        have := (hN.place (j := j) (by rw [nI_length, HV.out.1]; exact hj)).2.2.1
        rw [nI_get] at this
        exact this
       have hcw3 : ∀ j, j < 16 → wr.cell? ⟨gw, ow + j, none⟩ = some (.int .u64 ((W.getD j 0 : Nat) : Int)) := fun j hj => by
        have := cellK0 (hcellw j hj) hN.2
        rw [nI_get] at this
        exact this
       have HCV : Hid _ := hcv3
       have HCW : Hid _ := hcw3
       generalize qDbl W 10 = V at HV HF HCV
       clear hN hcv3 hcw3 hcellw
       rename World => wO
       have hO : New 5 wO (.slice none 0 0) (wB (fun i => (V.getD i 0 + W.getD i 0) % 4294967296) 0) wO := New.start wO
       go_wp2
       go_loopw [17, 18] (fun v iv wx => ∃ i : Nat, i ≤ 16 ∧ iv = .int .i64 (i : Int) ∧ New 5 wO v (wB (fun i => (V.getD i 0 + W.getD i 0) % 4294967296) i) wx) (fun _ iv _ => 16 - (intOf iv).toNat)
       case atStart => exact ⟨0, by omega, rfl, hO⟩
       case round =>
        obtain ⟨i, hi, rfl, hN⟩ := hrel
        clear hO
        by_cases hlt : i < 16
        ·have hd : decide ((i : Int) < 16) = true := decide_eq_true (by omega)
         have hiI : (i : Int) < 16 := by omega
         have cv1 := HCV.out i hlt
         have cw1 := HCW.out i hlt
         have b1 := HV.out.get i
         have b2 := HW.out.get i
         obtain ⟨z, hz⟩ : ∃ z : Nat, z = (V.getD i 0 + W.getD i 0) % 4294967296 := ⟨_, rfl⟩
         have HNx : Hid (wB (fun i => (V.getD i 0 + W.getD i 0) % 4294967296) i ++ (List.range 4).map (stB z) = wB (fun i => (V.getD i 0 + W.getD i 0) % 4294967296) (i + 1)) := by
          show _ = _
          rw [hz]
          rfl
         have HLn : Hid ((wB (fun i => (V.getD i 0 + W.getD i 0) % 4294967296) i).length ≤ 100) := by
          show _ ≤ _
          rw [wB_length]
          omega
         generalize wB (fun i => (V.getD i 0 + W.getD i 0) % 4294967296) i = L0 at hN HNx HLn
         obtain ⟨L1, hL1⟩ : ∃ L : List UInt8, L = wB (fun i => (V.getD i 0 + W.getD i 0) % 4294967296) (i + 1) := ⟨_, rfl⟩
         rw [← hL1] at HNx
         have HL1 : Hid _ := hL1
         clear hL1
         generalize V.getD i 0 = p at cv1 b1 hz
         generalize W.getD i 0 = q at cw1 b2 hz
         obtain ⟨s1, hs1⟩ : ∃ s : Nat, s = p + q := ⟨_, rfl⟩
         have e1 : IntKind.u64.wrap ((p : Int) + (q : Int)) = (s1 : Int) := by rw [IntKind.wrap_u64]; omega
         have e2 : ((s1 : Nat) : Int).tmod 4294967296 = (z : Int) := by rw [Int.tmod_eq_emod_of_nonneg (by omega)]; omega
         have e3 : IntKind.u64.wrap (z : Int) = (z : Int) := by rw [IntKind.wrap_u64]; omega
         have hzl : z < 18446744073709551616 := by omega
         obtain ⟨zs, hzs⟩ : ∃ zs : List UInt8, zs = (List.range 4).map (stB z) := ⟨_, rfl⟩
         have hzl4 : zs.length = 4 := by rw [hzs]; simp
         rw [← hzs] at HNx
         have HZS : Hid _ := hzs
         have HZ4 : Hid _ := hzl4
         clear hs1 hz hzs hzl4
         go_wp2_with fail
         refine wpB_begin hN.2 (by kernel_rfl) ?_
         refine wpB_t (hb := (Below.drew hN.2)) (i := 0) (oi := ⟨some 168, .move (.tmp 17), 26, "ref.go:59", #[], none⟩) (v := ?_) ?_ ?_
         rotate_left
         ·intro W hW; go_simp <;> with_reducible rfl
         try simp only [Act.put, putA, putB, putC]
         refine wpB_t (hb := (Below.drew hN.2)) (i := 1) (oi := ⟨some 169, .move (.tmp 10), 69, "ref.go:59", #[], none⟩) (v := ?_) ?_ ?_
         rotate_left
         ·intro W hW; go_simp <;> with_reducible rfl
         try simp only [Act.put, putA, putB, putC]
         refine wpB_t (hb := (Below.drew hN.2)) (i := 2) (oi := ⟨some 170, .move (.tmp 18), 3, "ref.go:59", #[], none⟩) (v := ?_) ?_ ?_
         rotate_left
         ·intro W hW; go_simp <;> with_reducible rfl
         try simp only [Act.put, putA, putB, putC]
         refine wpB_t (hb := (Below.drew hN.2)) (i := 3) (oi := ⟨some 171, .indexAddr 69 (.tmp 169) (.tmp 170), 0, "ref.go:59", #[⟨1, .data⟩, ⟨2, .data⟩], none⟩) (v := ?_) ?_ ?_
         rotate_left
         ·intro W hW; go_simp <;> with_reducible rfl
         try simp only [Act.put, putA, putB, putC]
         refine wpB_t (hb := (Below.drew hN.2)) (i := 4) (oi := ⟨some 172, .load 27 (.tmp 171), 27, "ref.go:59", #[⟨3, .data⟩], none⟩) (v := ?_) ?_ ?_
         rotate_left
         ·intro W hW; have hcW := cellK0 cv1 hW; go_simp <;> with_reducible rfl
         try simp only [Act.put, putA, putB, putC]
         refine wpB_t (hb := (Below.drew hN.2)) (i := 5) (oi := ⟨some 173, .move (.tmp 7), 69, "ref.go:59", #[], none⟩) (v := ?_) ?_ ?_
         rotate_left
         ·intro W hW; go_simp <;> with_reducible rfl
         try simp only [Act.put, putA, putB, putC]
         refine wpB_t (hb := (Below.drew hN.2)) (i := 6) (oi := ⟨some 174, .move (.tmp 18), 3, "ref.go:59", #[], none⟩) (v := ?_) ?_ ?_
         rotate_left
         ·intro W hW; go_simp <;> with_reducible rfl
         try simp only [Act.put, putA, putB, putC]
         refine wpB_t (hb := (Below.drew hN.2)) (i := 7) (oi := ⟨some 175, .indexAddr 69 (.tmp 173) (.tmp 174), 0, "ref.go:59", #[⟨5, .data⟩, ⟨6, .data⟩], none⟩) (v := ?_) ?_ ?_
         rotate_left
         ·intro W hW; go_simp <;> with_reducible rfl
         try simp only [Act.put, putA, putB, putC]
         refine wpB_t (hb := (Below.drew hN.2)) (i := 8) (oi := ⟨some 176, .load 27 (.tmp 175), 27, "ref.go:59", #[⟨7, .data⟩], none⟩) (v := ?_) ?_ ?_
         rotate_left
         ·intro W hW; have hcW := cellK0 cw1 hW; go_simp <;> with_reducible rfl
         try simp only [Act.put, putA, putB, putC]
         refine wpB_t (hb := (Below.drew hN.2)) (i := 9) (oi := ⟨some 177, .binOp .add 27 (.tmp 172) (.tmp 176) 27, 27, "ref.go:59", #[⟨4, .data⟩, ⟨8, .data⟩], none⟩) (v := ?_) ?_ ?_
         rotate_left
         ·intro W hW; go_simp <;> with_reducible rfl
         try simp only [Act.put, putA, putB, putC]
         refine wpB_t (hb := (Below.drew hN.2)) (i := 10) (oi := ⟨some 178, .binOp .rem 27 (.tmp 177) (.const (.int .u64 4294967296)) 27, 27, "ref.go:59", #[⟨9, .data⟩], none⟩) (v := ?_) ?_ ?_
         rotate_left
         ·intro W hW; go_simp <;> with_reducible rfl
         try simp only [Act.put, putA, putB, putC]
         refine wpB_do (i := 11) (o := ⟨some 179, .call { callee := .value (.func 61), args := #[.tmp 178, .const (.int .i64 4)], argTypes := #[27, 3] }, 26, "ref.go:59", #[⟨10, .data⟩], none⟩) (by kernel_rfl) rfl (by rfl) fun K hK => ?_
         go_simp
         refine (refstore_k z hzl 4 4 (by omega) (.inr (.inl ⟨by omega, by omega, rfl⟩)) _).mono ?_
         rintro e w5 ⟨v5, rfl, hN5⟩
         have hR5 := hN5.rd
         rw [← HZS.out] at hR5
         have hN6 := hN.drew.kept hN5.2
         refine hK.out _ _ hN6.2 ?_
         clear hK K
         try simp only [Act.put, putA, putB, putC]
         refine wpB_do (i := 12) (o := ⟨some 180, .call { callee := .builtin Builtin.append, args := #[.tmp 168, .tmp 179], argTypes := #[26, 26] }, 26, "ref.go:59", #[⟨0, .data⟩, ⟨11, .data⟩, ⟨11, .chain⟩], none⟩) (by kernel_rfl) rfl (by rfl) fun K hK => ?_
         refine wp_append_new (w := wO) _ _ 26 (by rfl) 5 Tryz.underlying26 infoU8 _ _ (by rfl) hN6 _ _ (by rfl) hR5 (by have := HLn.out; rw [HZ4.out]; omega) ?_
         intro v7 w7 hN7 _
         rw [HNx.out] at hN7
         refine hK.out _ _ hN7.2 ?_
         clear hK K
         try simp only [Act.put, putA, putB, putC]
         refine wpB_t (hb := hN7.2) (i := 13) (oi := ⟨some 17, .assign (.tmp 180), 26, "ref.go:59", #[⟨12, .data⟩, ⟨12, .chain⟩, ⟨0, .phase⟩, ⟨1, .phase⟩, ⟨2, .phase⟩, ⟨3, .phase⟩, ⟨4, .phase⟩, ⟨5, .phase⟩, ⟨6, .phase⟩, ⟨7, .phase⟩, ⟨8, .phase⟩, ⟨9, .phase⟩, ⟨10, .phase⟩, ⟨11, .phase⟩, ⟨12, .phase⟩], none⟩) (v := ?_) ?_ ?_
         rotate_left
         ·intro W hW; go_simp <;> with_reducible rfl
         try simp only [Act.put, putA, putB, putC]
         refine wpB_done (by kernel_rfl) ?_
         rw [HL1.out] at hN7
         clear hN hN5 hN6 hR5 cv1 cw1
         go_wp2
         go_roundw
         case rel => exact ⟨i + 1, by omega, by go_num, hN7⟩
         case measure => simp [intOf] <;> omega
        ·have hie : i = 16 := by omega
         have hd : decide ((i : Int) < 16) = false := decide_eq_false (by omega)
         have hiI : (16 : Int) ≤ (i : Int) := by omega
         rw [hie, ← HF.out] at hN
         clear hie
         go_wp2
         go_ret
         exact ⟨_, rfl, hN.from hbV⟩
end Go.Proofs.YtdlmmcilembjgaaGreatDoor
