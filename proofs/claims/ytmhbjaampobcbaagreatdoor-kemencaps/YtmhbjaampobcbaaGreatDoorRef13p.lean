/- Rows of polynomials: their cells, one put together, one loaded: for the reference of layer 13. -/
import Derived.Test.YtmhbjaampobcbaaGreatDoorRef13b
import Derived.Test.YtmhbjaampobcbaaGreatDoorJm
namespace Go.Proofs.YtmhbjaampobcbaaGreatDoor
open Go.ChangeShapes Go.WideShapes Go.ChangeAt Go.RowKit
set_option linter.unusedSimpArgs false
set_option linter.unusedVariables false

theorem infoPo : (Tryz.prog.info? 57).map (fun i => (i.zero, i.size, i.bytes)) = some (some (poV fun _ => 0), 256, 2048) := by kernel_rfl
theorem build1_po (f : Nat → FZ) (w : World) : (Instr.buildSlice 73 1 #[(0, poV f)]).run Tryz.prog w = .ok (.slice (some ⟨w.heap.size, 0, none⟩) 1 1) (w.alloc (.cells (poC f).toArray 57)) := by
 kernel_rfl
theorem wpList_build1 {P : Program} {ops : Array Oper} {rest : List Oper} {op : Oper} {a : Act} {w : World} {Q : Exit → Act → World → Prop} (hgd : op.guard = none) (t : TypeId) (x : Operand) (ho : op.op = .buildSlice t 1 #[(0, x)])
  (V : Value) (hx : a.eval x = V) (e : TypeId) (cs : List Value) (hrun : (Instr.buildSlice t 1 #[(0, V)]).run P w = .ok (.slice (some ⟨w.heap.size, 0, none⟩) 1 1) (w.alloc (.cells cs.toArray e)))
  (h : ∀ w', BlkAt w.heap.size e cs w' → Below w.heap.size w w' → wpList P ops Q rest (a.put op.dst (.slice (some ⟨w.heap.size, 0, none⟩) 1 1)) w') : wpList P ops Q (op :: rest) a w := by
 refine wpList_plain hgd fun K hK => ?_
 unfold Oper.wp execOp
 simp only [ho, List.map_toArray, List.map_cons, List.map_nil, hx, Sem.run_bind, hrun, Result.andThen_ok, Sem.run_pure]
 exact hK _ _ (h _ (BlkAt.fresh rfl rfl) (growB _))

theorem gen_slice {vg : Value} {wg : World} {l : List UInt8} (h : Rd wg vg l) (hl : l.length = 64) : ∃ bg og cg, vg = .slice (some ⟨bg, og, none⟩) 64 cg ∧ 64 ≤ cg ∧ cg ≤ maxLen ∧ Rd wg (.slice (some ⟨bg, og, none⟩) 32 cg) (l.take 32) ∧ Rd wg (.slice (some ⟨bg, og + 32, none⟩) 32 (cg - 32)) (l.drop 32) := by
 obtain ⟨a, cap, e, h2, h3, h4, h5⟩ := id h
 rcases h5 with h5 | ⟨b, off, ha, hc⟩
 ·rw [h5] at hl
  simp at hl
 ·subst ha
  rw [hl] at e h2
  subst e
  have t1 := h.take (n := 32) (by omega)
  have t2 := h.sub 32 64 (by omega) (by omega)
  rw [List.take_of_length_le (by rw [List.length_drop, hl]; decide)] at t2
  exact ⟨b, off, cap, rfl, h2, h3, t1, t2⟩

end Go.Proofs.YtmhbjaampobcbaaGreatDoor
