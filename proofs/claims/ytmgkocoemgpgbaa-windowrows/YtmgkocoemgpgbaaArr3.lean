/- A whole array by value, loaded in a region whose order is open. No program's text is named. -/
import Derived.Test.YtmgkocoemgpgbaaArr2
namespace Go.Proofs.Ytmgkocoemgpgbaa
set_option linter.unusedSimpArgs false
open Go.ChangeShapes Go.WideShapes Go.ChangeAt Go.RowKit
set_option linter.unusedVariables false

/-- A whole array is loaded in a region whose order is open. -/
theorem exec_load_row {k : IntKind} {e : TypeId} {g cap : Nat} {l : List Int} {P : Program} {w W : World} {op : Oper} {a : Act} (ty : TypeId) (x : Operand) (ho : op.op = .load ty x) (hx : a.eval x = .pointer (some ⟨g, 0, none⟩)) (hr : RowAt k e g cap l w)
    (hb : Below w.drew.heap.size w.drew W) (d : TypeDesc) (hu : P.underlying ty = some d) (hd : d.isRow = true) (hi : (P.info? ty).map (·.size) = some l.length) :
    (execOp a.eval op).run P W = .ok (.value (.agg (l.map (Value.int k)).toArray)) W := by
  have h1 := (hr.drew.kept hb).load (P := P) hu hd hi
  unfold execOp
  simp only [ho, hx, Instr.loadAt, Instr.sureAddr, Sem.run_bind, Sem.run_pure, Result.andThen_ok, h1]
theorem exec_load_row' {k : IntKind} {e : TypeId} {g cap : Nat} {l : List Int} {P : Program} {w W : World} {op : Oper} {a : Act} (ty : TypeId) (x : Operand) (ho : op.op = .load ty x) (hx : a.eval x = .pointer (some ⟨g, 0, none⟩)) (hr : RowAt k e g cap l w)
    (hb : Below w.heap.size w W) (d : TypeDesc) (hu : P.underlying ty = some d) (hd : d.isRow = true) (hi : (P.info? ty).map (·.size) = some l.length) :
    (execOp a.eval op).run P W = .ok (.value (.agg (l.map (Value.int k)).toArray)) W := by
  have h1 := (hr.kept hb).load (P := P) hu hd hi
  unfold execOp
  simp only [ho, hx, Instr.loadAt, Instr.sureAddr, Sem.run_bind, Sem.run_pure, Result.andThen_ok, h1]
end Go.Proofs.Ytmgkocoemgpgbaa
