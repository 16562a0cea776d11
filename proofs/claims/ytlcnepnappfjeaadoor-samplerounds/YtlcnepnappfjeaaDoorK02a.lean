/- What the turning of a lane and the look at a round's number answer, and what the two tables hold: contracts of package keccak, first part. -/
import Derived.Test.YtlcnepnappfjeaaDoorBase
import Derived.Test.YtlcnepnappfjeaaDoorKec
import Derived.Test.YtlcnepnappfjeaaDoorRows
namespace Go.Proofs.YtlcnepnappfjeaaDoor
open Go.ChangeShapes Go.WideShapes Go.ChangeAt Go.RowKit
set_option linter.unusedSimpArgs false
set_option linter.unusedVariables false

theorem or_turn (x n : Nat) (hx : x < 18446744073709551616) (hn : n < 64) : (x * 2 ^ n % 18446744073709551616) ||| (x / 2 ^ (64 - n)) = turnN x n := by
  unfold turnN
  split
  · rename_i h
    subst h
    rw [Nat.pow_zero, Nat.mul_one, Nat.mod_eq_of_lt hx, Nat.div_eq_of_lt (by simpa using hx), Nat.or_zero]
  · unfold rotN
    have h64 : (18446744073709551616 : Nat) = 2 ^ n * 2 ^ (64 - n) := by rw [← Nat.pow_add, show n + (64 - n) = 64 by omega]
    have hB : x / 2 ^ (64 - n) < 2 ^ n := by
      refine Nat.div_lt_of_lt_mul ?_
      rw [Nat.mul_comm, ← h64]
      exact hx
    rw [h64, Nat.mul_comm x, Nat.mul_mod_mul_left, Nat.two_pow_add_eq_or_of_lt hB]
theorem and63 (n : Nat) (hn : n < 64) : bits .and .u64 (n : Int) 63 = (n : Int) := by
  have h := u64_and_nat n 63 (by omega) (by decide)
  rw [show ((63 : Int)) = ((63 : Nat) : Int) from rfl, h, show (63 : Nat) = 2 ^ 6 - 1 from rfl, Nat.and_two_pow_sub_one_eq_mod, Nat.mod_eq_of_lt (by omega)]

set_option maxHeartbeats 400000 in
theorem rot_any (x n : Nat) (X B : Int) (hX : X = x) (hB : B = n) (hx : x < 18446744073709551616) (hn : n < 64) (w : World) :
    Calls Tryd.prog 75 #[.int .u64 X, .int .i64 B] w fun e w' => e = .returned (.int .u64 ((turnN x n : Nat) : Int)) ∧ w' = w := by
  subst hX hB
  have ha := and63 n hn
  have HN : Hid (((64 : Int) - (n : Int)).toNat = 64 - n) := by show Int.toNat _ = _; omega
  have HE : Hid _ := or_turn x n hx hn
  go_enter Tryd.func75, Tryd.ntmps75
  go_wp2
  go_ret
  refine ⟨retI ?_, rfl⟩
  have e1 : ((x : Int) * 2 ^ n) = ((x * 2 ^ n : Nat) : Int) := by simp
  have e2 : ((x : Int) / 2 ^ (64 - n)) = ((x / 2 ^ (64 - n) : Nat) : Int) := by simp
  rw [e1, e2, IntKind.wrap_u64, show ((x * 2 ^ n : Nat) : Int) % 18446744073709551616 = ((x * 2 ^ n % 18446744073709551616 : Nat) : Int) by omega, u64_or_nat _ _ (Nat.mod_lt _ (by decide)) (Nat.lt_of_le_of_lt (Nat.div_le_self _ _) hx), HE.out]

theorem isRound_any (r : Int) (w : World) :
    Calls Tryd.prog 69 #[.int .i64 r] w fun e w' => e = .returned (.bool (decide (0 ≤ r ∧ r ≤ 23))) ∧ w' = w := by
  by_cases h0 : 0 ≤ r
  · have HE : Hid (decide (r < 24) = decide (0 ≤ r ∧ r ≤ 23)) := by
      show decide _ = decide _
      by_cases h : r < 24 <;> simp [h] <;> omega
    go_enter Tryd.func69, Tryd.ntmps69
    go_wp2
    go_ret
    exact ⟨congrArg (fun b => Ending.returned (.bool b)) HE.out, rfl⟩
  · have hd : decide (0 ≤ r) = false := decide_eq_false h0
    go_enter Tryd.func69, Tryd.ntmps69
    go_wp2
    go_ret
    exact ⟨rfl, rfl⟩

/-- By how much each lane is turned. -/
def trT : List Int := [0, 1, 62, 28, 27, 36, 44, 6, 55, 20, 3, 10, 43, 25, 39, 41, 45, 15, 21, 8, 18, 2, 61, 56, 14]
def ksT : List Int := kst.map fun x => ((x : Nat) : Int)
theorem trT_eq : ∀ i, i < 25 → trT.getD i 0 = ((if i = 0 then 0 else rhBy (rhTau i) : Nat) : Int) := by decide
theorem ksT_get (i : Nat) (hi : i < 24) : ksT.getD i 0 = ((kst.getD i 0 : Nat) : Int) := by
  have h : i < kst.length := hi
  simp [ksT, h]
/-- The two tables lie where the program laid them. -/
structure Tabs (w : World) : Prop where
  turns : ∀ i, i < 25 → w.cell? ⟨1, i, none⟩ = some (.int .i64 (trT.getD i 0))
  consts : ∀ i, i < 24 → w.cell? ⟨0, i, none⟩ = some (.int .u64 (ksT.getD i 0))
theorem Tabs.kept {w w' : World} (h : Tabs w) (hb : Below w.heap.size w w') : Tabs w' :=
  ⟨fun i hi => by rw [hb.cell (p := ⟨1, i, none⟩) (World.block_lt_of_cell? w _ (h.turns i hi))]; exact h.turns i hi,
   fun i hi => by rw [hb.cell (p := ⟨0, i, none⟩) (World.block_lt_of_cell? w _ (h.consts i hi))]; exact h.consts i hi⟩
theorem Tabs.two {w : World} (h : Tabs w) : 1 < w.heap.size := by
  have h1 : 1 < w.heap.size := World.block_lt_of_cell? w _ (h.turns 0 (by decide))
  have h2 : 0 < w.heap.size := World.block_lt_of_cell? w _ (h.consts 0 (by decide))
  omega
theorem Tabs.wrote {g : Nat} {w w' : World} (h : Tabs w) (hw : Wrote g w w') (hg : 1 < g) : Tabs w' := by
  have hb := hw.below (1 + 1) w hg (Below.refl _ _)
  exact ⟨fun i hi => by rw [hb.cell (p := ⟨1, i, none⟩) (by decide : (1 : Nat) < 1 + 1)]; exact h.turns i hi,
   fun i hi => by rw [hb.cell (p := ⟨0, i, none⟩) (by decide : (0 : Nat) < 1 + 1)]; exact h.consts i hi⟩
end Go.Proofs.YtlcnepnappfjeaaDoor
