/- Several states on their way. -/
import Derived.Test.YtlcnepnappfjeaaDoorK02e
import Derived.Test.YtlcnepnappfjeaaDoorKec
namespace Go.Proofs.YtlcnepnappfjeaaDoor
open Go.ChangeShapes Go.WideShapes Go.ChangeAt Go.RowKit
set_option linter.unusedSimpArgs false
set_option linter.unusedVariables false

theorem max25 {f : Nat → Nat} : (stL f).length ≤ maxLen := by rw [stL_length]; simp [maxLen]
/-- A function of several states on its way. -/
structure St (w0 : World) (L : List (Nat × (Nat → Nat))) (w : World) : Prop where
  rows : ∀ p ∈ L, RowAt .u64 66 p.1 25 (stL p.2) w
  b : Below w0.heap.size w0 w
  t : Tabs w
theorem St.kept {w0 w w' : World} {L : List (Nat × (Nat → Nat))} (h : St w0 L w) (hb : Below w.heap.size w w') : St w0 L w' := ⟨fun p hp => (h.rows p hp).kept hb, stepB h.b hb, h.t.kept hb⟩
theorem St.step {w0 w w' : World} {o : Obj} {L : List (Nat × (Nat → Nat))} {F : Nat → Nat} (h : St w0 L w) (hr : RowAt .u64 66 w.heap.size 25 (stL F) w') (hw : Wrote w.heap.size (w.alloc o) w') : St w0 ((w.heap.size, F) :: L) w' := by
  have h1 := h.kept (growB o)
  refine ⟨fun p hp => ?_, hw.below _ _ h.b.size h1.b, h1.t.wrote hw h.t.two⟩
  rcases List.mem_cons.1 hp with rfl | hp
  · exact hr
  · refine (h1.rows p hp).wrote hw ?_
    have := (h.rows p hp).lt
    omega
theorem St.fresh {w : World} {cs : Array Value} {F : Nat → Nat} (ht : Tabs w) (h : cs = ((stL F).map (Value.int .u64)).toArray) : St w [(w.heap.size, F)] (w.alloc (.cells cs 66)) := by
  refine ⟨fun p hp => ?_, growB _, ht.kept (growB _)⟩
  obtain rfl := List.mem_singleton.1 hp
  exact RowAt.fresh (stL F) h rfl (stL_length F).symm (stL_ne F) max25
theorem St.cell {w0 w : World} {L : List (Nat × (Nat → Nat))} (h : St w0 L w) (g : Nat) (F : Nat → Nat) (hp : (g, F) ∈ L) (j : Nat) (hj : j < 25) (v : Int) (hv : ((F j : Nat) : Int) = v) : w.cell? ⟨g, j, none⟩ = some (.int .u64 v) := by
  have := (h.rows (g, F) hp).cell (j := j) (by rw [stL_length]; exact hj)
  rw [stL_get _ _ hj] at this
  rw [this, ← hv]
end Go.Proofs.YtlcnepnappfjeaaDoor
