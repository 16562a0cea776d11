/- What the document's own turning of a lane and its constants answer: contracts of the reference of layer 2, sixth part. -/
import Derived.Test.YtlcnepnappfjeaaDoorRef02l
import Derived.Test.YtlcnepnappfjeaaDoorKec
import Derived.Deep.QuietTactic
import Derived.BigQuiet
namespace Go.Proofs.YtlcnepnappfjeaaDoor
open Go.ChangeShapes Go.WideShapes Go.ChangeAt Go.RowKit
set_option linter.unusedSimpArgs false
set_option linter.unusedVariables false

set_option maxHeartbeats 400000 in
theorem turn_any (x n : Nat) (X B : Int) (hX : X = x) (hB : B = n) (hx : x < 18446744073709551616) (hn : n < 64) (w : World) :
    Calls Tryd.prog 54 #[.int .u64 X, .int .i64 B] w fun e w' => e = .returned (.int .u64 ((turnN x n : Nat) : Int)) ∧ w' = w := by
  subst hX hB
  by_cases h0 : n = 0
  · subst h0
    have e : turnN x 0 = x := rfl
    rw [e]
    clear e
    go_enter Tryd.func54, Tryd.ntmps54
    go_wp2
    go_ret
    exact ⟨rfl, rfl⟩
  · have hb : ((n : Int) == 0) = false := by rw [beq_eq_false_iff_ne]; omega
    have h1 : (1 : Int) ≤ n := by omega
    have HE : Hid (turnN x n = x * 2 ^ n % 18446744073709551616 + x / 2 ^ (64 - n)) := by show turnN x n = _; unfold turnN; rw [if_neg h0]; rfl
    have HL : Hid (turnN x n < 18446744073709551616) := turnN_lt x n hx hn
    have HN : Hid (((64 : Int) - (n : Int)).toNat = 64 - n) := by show Int.toNat _ = _; omega
    clear h0
    go_enter Tryd.func54, Tryd.ntmps54
    go_wp2
    go_ret
    refine ⟨retI ?_, rfl⟩
    have h := HL.out
    rw [HE.out] at h
    have e1 : ((x : Int) * 2 ^ n) = ((x * 2 ^ n : Nat) : Int) := by simp
    have e2 : ((x : Int) / 2 ^ (64 - n)) = ((x / 2 ^ (64 - n) : Nat) : Int) := by simp
    rw [HE.out, IntKind.wrap_u64, IntKind.wrap_u64, e1, e2]
    generalize x * 2 ^ n = p at h
    generalize x / 2 ^ (64 - n) = q at h
    omega

set_option maxHeartbeats 400000 in
theorem constants_any (w : World) : Calls Tryd.prog 53 #[] w fun e w' => ∃ v, e = .returned v ∧ NewI .u64 65 w v (kst.map fun x => ((x : Nat) : Int)) w' := by
  go_enter Tryd.func53, Tryd.ntmps53
  go_wp2
  go_ret
  exact ⟨_, rfl, NewI.lit _ (by simp [kst]) (by simp [kst]) rfl (by simp [maxLen, kst])⟩

end Go.Proofs.YtlcnepnappfjeaaDoor
