/- Rows of two rows. No program's text is named. -/
import Derived.Test.YtliiofjcghdjoaaDoorBase
namespace Go.Proofs.YtliiofjcghdjoaaDoor
open Go.ChangeShapes Go.WideShapes Go.ChangeAt Go.RowKit
set_option linter.unusedSimpArgs false
set_option linter.unusedVariables false

theorem RdL.lit2 {w : World} {e : TypeId} {v1 v2 : Value} {l1 l2 : List UInt8} (h1 : Rd w v1 l1) (h2 : Rd w v2 l2) : RdL (w.alloc (.cells #[v1, v2] e)) (.slice (some ⟨w.heap.size, 0, none⟩) 2 2) [v1, v2] [l1, l2] :=
  RdL.lit _ _ rfl rfl rfl (by simp [maxLen]) rfl (fun i hi => by
    match i with
    | 0 => exact h1
    | 1 => exact h2
    | i + 2 => exact absurd hi (by simp))
theorem New.two {e : TypeId} {w w' : World} {v : Value} {l1 l2 : List UInt8} (h : New e w v [l1, l2].flatten w') : New e w v (l1 ++ l2) w' := by
  simpa using h
end Go.Proofs.YtliiofjcghdjoaaDoor
