/- A region whose order is open, where three operations may come up. No program's text is named. -/
import Derived.Test.YtenljbljaffehaaDoorRegS
namespace Go.Proofs.YtenljbljaffehaaDoor
set_option linter.unusedSimpArgs false
set_option linter.unusedVariables false
open Go.RowKit

section
variable {P : Program} {ops : Array Oper} {Q : Exit → Act → World → Prop} {md : Region.Mode}
/-- One of the operations that may come up. -/
theorem wpB_one {w0 : World} {k : Nat} {o : Oper} {fuel : Nat} {listed : Array Bool} {a : Act} {w : World} (hi : ops[k]? = some o) (hw : Region.wanted o (yielded ops a.tmps) = true)
    (h : ∀ K : Act → World → Prop, Shut (∀ a' w', Below w0.heap.size w0 w' → wpB P md ops Q w0 fuel (listed.setIfInBounds k true) a' w' → K a' w') → o.wp P a w K Q) :
    wpOp P ops Q k (fun a' w' => Below w0.heap.size w0 w' ∧ wpAnyH P md ops Q (fun W => Below w0.heap.size w0 W) fuel (listed.setIfInBounds k true) a' w') a w := by
  have h1 := h (fun a' w' => Below w0.heap.size w0 w' ∧ wpAnyH P md ops Q (fun W => Below w0.heap.size w0 W) fuel (listed.setIfInBounds k true) a' w') (fun a' w' hb hg => ⟨hb, hg⟩)
  unfold wpOp
  simp only [hi, hw, if_true]
  exact .inl h1
/-- Three operations may come up. -/
theorem wpB_fork3 {w0 : World} {i j k : Nat} {oi oj ok : Oper} {fuel : Nat} {listed : Array Bool} {a : Act} {w : World} (hr : Region.ready md ops listed = [i, j, k]) (hi : ops[i]? = some oi) (hj : ops[j]? = some oj) (hk : ops[k]? = some ok)
    (hwi : Region.wanted oi (yielded ops a.tmps) = true) (hwj : Region.wanted oj (yielded ops a.tmps) = true) (hwk : Region.wanted ok (yielded ops a.tmps) = true)
    (h1 : ∀ K : Act → World → Prop, Shut (∀ a' w', Below w0.heap.size w0 w' → wpB P md ops Q w0 fuel (listed.setIfInBounds i true) a' w' → K a' w') → oi.wp P a w K Q)
    (h2 : ∀ K : Act → World → Prop, Shut (∀ a' w', Below w0.heap.size w0 w' → wpB P md ops Q w0 fuel (listed.setIfInBounds j true) a' w' → K a' w') → oj.wp P a w K Q)
    (h3 : ∀ K : Act → World → Prop, Shut (∀ a' w', Below w0.heap.size w0 w' → wpB P md ops Q w0 fuel (listed.setIfInBounds k true) a' w' → K a' w') → ok.wp P a w K Q) : wpB P md ops Q w0 (fuel + 1) listed a w := by
  refine wpAnyH_all hr (by simp) fun m hm => ?_
  have hm' : m = i ∨ m = j ∨ m = k := by simpa using hm
  rcases hm' with rfl | rfl | rfl
  · exact wpB_one hi hwi h1
  · exact wpB_one hj hwj h2
  · exact wpB_one hk hwk h3
end
end Go.Proofs.YtenljbljaffehaaDoor
