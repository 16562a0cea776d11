/- What the walks of the statements of layer 5 share. -/
import Derived.Test.YtikkfmghjfddfabF05i
import Derived.Test.YtikkfmghjfddfabArrO
namespace Go.Proofs.Ytikkfmghjfddfab
open Go.ChangeShapes Go.WideShapes Go.ChangeAt Go.RowKit
set_option linter.unusedSimpArgs false
set_option linter.unusedVariables false

theorem arInfo {l : List Nat} (h : El4 l) : (Try.prog.info? 23).map (·.size) = some (nI l).length := by rw [h.len]; kernel_rfl
/-- A whole array that lies at a row's head is loaded, where a guard says yes. -/
theorem wpList_load_row_g {k : IntKind} {e : TypeId} {g cap : Nat} {l : List Int} {P : Program} {ops : Array Oper} {rest : List Oper} {op : Oper} {a : Act} {w : World} {Q : Exit → Act → World → Prop} (hw : Region.wanted op (yielded ops a.tmps) = true) (ty : TypeId) (x : Operand) (ho : op.op = .load ty x)
    (hx : a.eval x = .pointer (some ⟨g, 0, none⟩)) (hr : RowAt k e g cap l w) (d : TypeDesc) (hu : P.underlying ty = some d) (hd : d.isRow = true) (hi : (P.info? ty).map (·.size) = some l.length)
    (h : wpList P ops Q rest (a.put op.dst (.agg (l.map (Value.int k)).toArray)) w) : wpList P ops Q (op :: rest) a w := by
  refine wpList_step fun K hK => ?_
  rw [if_pos hw]
  unfold Oper.wp execOp
  simp only [ho, hx, Instr.loadAt, Instr.sureAddr, Sem.run_bind, Sem.run_pure, Result.andThen_ok, hr.load (P := P) hu hd hi]
  exact hK _ _ h
/-- What the walk's simp takes a whole load by. -/
theorem RowAt.at0 {k : IntKind} {e : TypeId} {g cap : Nat} {l : List Int} {w : World} {P : Program} (hr : RowAt k e g cap l w) {ty : TypeId} {d : TypeDesc} (hu : P.underlying ty = some d) (hd : d.isRow = true) (hi : (P.info? ty).map (·.size) = some l.length) :
    (Instr.loadAt ty (.pointer (some ⟨g, 0, none⟩))).run P w = .ok (.agg (l.map (Value.int k)).toArray) w := by
  simp only [Instr.loadAt, Instr.sureAddr, Sem.run_bind, Sem.run_pure, Result.andThen_ok, hr.load (P := P) hu hd hi]
/-- A region's list of operations, shut: what is left of it isn't unfolded by chance. -/
structure WL (P : Program) (ops : Array Oper) (Q : Exit → Act → World → Prop) (l : List Oper) (a : Act) (w : World) : Prop where
  out : wpList P ops Q l a w
theorem WL.take {P : Program} {ops : Array Oper} {Q : Exit → Act → World → Prop} {a : Act} {w : World} {rest : List Oper} {o : Oper} {v : Value} (hw : Region.wanted o (yielded ops a.tmps) = true) (hy : (execOp a.eval o).run P w = .ok (.value v) w)
    (h : WL P ops Q rest (a.put o.dst v) w) : WL P ops Q (o :: rest) a w := by
  refine ⟨wpList_step fun K hK => ?_⟩
  rw [if_pos hw]
  unfold Oper.wp
  rw [hy]
  exact hK _ _ h.out
theorem WL.skip {P : Program} {ops : Array Oper} {Q : Exit → Act → World → Prop} {a : Act} {w : World} {rest : List Oper} {o : Oper} (hw : Region.wanted o (yielded ops a.tmps) = false) (h : WL P ops Q rest (a.put o.dst undef) w) : WL P ops Q (o :: rest) a w := ⟨wpList_skip hw h.out⟩
theorem WL.nil {P : Program} {ops : Array Oper} {Q : Exit → Act → World → Prop} {a : Act} {w : World} (h : Q .normal a w) : WL P ops Q [] a w := ⟨wpList_nil h⟩
theorem is_bool (A : Array Value) (a : List Nat) (vw : Value) (x : Nat) (d : Bool) (ha : El4 a) (hd : decide (wv a % pN = x % pN) = d) (hA : A = ((nI a).map (Value.int .u64)).toArray) (w : World) (hx : RdI .i64 w vw (fdL x)) :
    Calls Try.prog 14 #[.agg A, vw] w fun e w' => e = .returned (.bool d) ∧ Below w.heap.size w w' := by
  subst hd
  exact is_any A a vw x ha hA w hx
theorem is_true (A : Array Value) (a : List Nat) (vw : Value) (x : Nat) (ha : El4 a) (hd : wv a % pN = x % pN) (hA : A = ((nI a).map (Value.int .u64)).toArray) (w : World) (hx : RdI .i64 w vw (fdL x)) :
    Calls Try.prog 14 #[.agg A, vw] w fun e w' => e = .returned (.bool true) ∧ Below w.heap.size w w' :=
  is_bool A a vw x true ha (decide_eq_true hd) hA w hx
theorem fsame_true (A B : Array Value) (a b : List Nat) (ha : El4 a) (hb : El4 b) (hd : wv a % pN = wv b % pN) (hA : A = ((nI a).map (Value.int .u64)).toArray) (hB : B = ((nI b).map (Value.int .u64)).toArray) (w : World) :
    Calls Try.prog 8 #[.agg A, .agg B] w fun e w' => e = .returned (.bool true) ∧ Below w.heap.size w w' :=
  fsame_bool A B a b true ha hb (decide_eq_true hd) hA hB w
end Go.Proofs.Ytikkfmghjfddfab
