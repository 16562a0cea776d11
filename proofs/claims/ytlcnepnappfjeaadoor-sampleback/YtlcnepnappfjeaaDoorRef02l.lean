/- What the document's own empty state is: a contract of the reference of layer 2. -/
import Derived.Test.YtlcnepnappfjeaaDoorRows
import Derived.Test.YtlcnepnappfjeaaDoorBase
import Derived.WalkSpells
import Derived.RegionTactic
import Derived.BigRegion
namespace Go.Proofs.YtlcnepnappfjeaaDoor
open Go.ChangeShapes Go.WideShapes Go.ChangeAt Go.RowKit
set_option linter.unusedSimpArgs false
set_option linter.unusedVariables false

theorem sizeU64 : (Tryd.prog.info? 65).map (·.size) = some 1 := by kernel_rfl
theorem infoU64 : (Tryd.prog.info? 65).map (fun i => (i.zero, i.size, i.bytes)) = some (some (.int .u64 0), 1, 8) := by kernel_rfl

set_option maxHeartbeats 400000 in
theorem lanes_any (w : World) : Calls Tryd.prog 52 #[] w fun e w' => ∃ v, e = .returned v ∧ NewI .u64 65 w v (stL (fun _ => 0)) w' := by
  obtain ⟨i, hi, hz0, hz1, hz2⟩ := info_parts infoU64
  go_enter Tryd.func52, Tryd.ntmps52
  go_wp2_with (at_make; go_must (refine wpList_make_full _ rfl _ _ 52 rfl w.heap.size 65 i _ 1 Tryd.underlying52 hi hz0 hz1 _ _ _ _ 25 rfl rfl rfl rfl (by rw [hz2]; omega) (by unfold maxLen; omega) (Nat.le_refl _) ?_))
  intro w1 hown hgr
  have hN := NewI.made hown hgr
  rw [stL_zero] at hN
  go_wp2
  go_ret
  exact ⟨_, rfl, hN⟩

end Go.Proofs.YtlcnepnappfjeaaDoor
