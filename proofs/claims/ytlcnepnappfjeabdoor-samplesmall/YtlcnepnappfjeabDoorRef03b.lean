/- What comes out of a state, as the document says it: a contract of the reference of layer 3, second part. -/
import Derived.Test.YtlcnepnappfjeabDoorRef03a
import Derived.Test.YtlcnepnappfjeabDoorRef02g
namespace Go.Proofs.YtlcnepnappfjeabDoor
open Go.ChangeShapes Go.WideShapes Go.ChangeAt Go.RowKit
set_option linter.unusedSimpArgs false
set_option linter.unusedVariables false


/-- A row of another kind of cells is as it was behind an append. -/
theorem NewI.past {k : IntKind} {e e' : TypeId} {w w2 w3 : World} {v o : Value} {l : List Int} {lo : List UInt8} (h : NewI k e w v l w2) (ho : New e' w o lo w2) (hne : e ≠ e') (hg : w2.grownBy w3 o.ownBlock) (hb : Below w.heap.size w w3) : NewI k e w v l w3 := by
  refine ⟨⟨h.1.1, h.1.2.imp id ?_⟩, hb⟩
  rintro ⟨g, cap, cur, e1, h2, h3, h4⟩
  refine ⟨g, cap, cur, e1, h2, ?_, h4⟩
  rw [hg.block g (Array.getElem?_eq_some_iff.1 h3).1 ?_, h3]
  intro hc
  rcases ho.1.2 with ⟨rfl, _⟩ | ⟨g', cap', cur', rfl, _, h3', _⟩
  · cases hc
  · simp only [Value.ownBlock, Option.some.injEq] at hc
    subst hc
    rw [h3] at h3'
    simp only [Option.some.injEq, Obj.cells.injEq] at h3'
    exact hne h3'.2.1
theorem NewI.from {k : IntKind} {e : TypeId} {w wr w2 : World} {v : Value} {l : List Int} (h : NewI k e wr v l w2) (hb : Below w.heap.size w wr) : NewI k e w v l w2 := by
  refine ⟨⟨h.1.1, h.1.2.imp id ?_⟩, hb.trans (h.2.mono hb.size)⟩
  rintro ⟨g, cap, cur, e1, h2, h3⟩
  exact ⟨g, cap, cur, e1, Nat.le_trans hb.size h2, h3⟩
/-- A state that lies where it lay at the start, or in new memory. -/
def AtI (e : TypeId) (w : World) (va : Value) (v : Value) (f : Nat → Nat) (wr : World) : Prop := (v = va ∧ RdI .u64 w va (stL f) ∧ Below w.heap.size w wr) ∨ NewI .u64 e w v (stL f) wr
theorem AtI.rd {e : TypeId} {w wr : World} {va v : Value} {f : Nat → Nat} (h : AtI e w va v f wr) : RdI .u64 wr v (stL f) := by
  rcases h with ⟨rfl, h, hb⟩ | h
  · exact h.kept hb
  · exact h.rd
theorem AtI.kept {e : TypeId} {w wr w2 : World} {va v : Value} {f : Nat → Nat} (h : AtI e w va v f wr) (hb : Below wr.heap.size wr w2) : AtI e w va v f w2 := by
  rcases h with ⟨rfl, h, hb0⟩ | h
  · exact .inl ⟨rfl, h, stepB hb0 hb⟩
  · exact .inr (h.kept hb)
theorem AtI.past {e e' : TypeId} {w w2 w3 : World} {va v o : Value} {f : Nat → Nat} {lo lo' : List UInt8} {o' : Value} (h : AtI e w va v f w2) (ho : New e' w o lo w2) (hne : e ≠ e') (hg : w2.grownBy w3 o.ownBlock) (ho' : New e' w o' lo' w3) : AtI e w va v f w3 := by
  rcases h with ⟨rfl, h, hb0⟩ | h
  · exact .inl ⟨rfl, h, ho'.2⟩
  · exact .inr (h.past ho hne hg ho'.2)

end Go.Proofs.YtlcnepnappfjeabDoor
