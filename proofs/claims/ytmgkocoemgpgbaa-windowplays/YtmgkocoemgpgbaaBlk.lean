/- Structs and arrays held in blocks, whole or in part: made, laid down, loaded, stored, returned, put together. No program's text is named. -/
import Derived.Test.YtmgkocoemgpgbaaMem
import Derived.Test.YtmgkocoemgpgbaaArr3
import Derived.OwnWalk
namespace Go.Proofs.Ytmgkocoemgpgbaa
open Go.ChangeShapes Go.WideShapes Go.ChangeAt Go.RowKit
set_option linter.unusedSimpArgs false
set_option linter.unusedVariables false

/-- A byte of a row of the call's own, and the row with it written. -/
theorem New.store {e : TypeId} {w wr : World} {v : Value} {l : List UInt8} (h : New e w v l wr) {j : Nat} (hj : j < l.length) :
    ∃ g cap, v = .slice (some ⟨g, 0, none⟩) l.length cap ∧ l.length ≤ cap ∧ wr.cell? ⟨g, j, none⟩ = some (.int .u8 ((l.getD j 0).toNat : Int)) ∧ wr.frozen? ⟨g, j, none⟩ = false ∧
      ∀ u : UInt8, New e w v (l.set j u) (wr.setCell ⟨g, j, none⟩ (.int .u8 ((u.toNat : Nat) : Int))) := by
  obtain ⟨a, c, rfl, hc, -, -, -⟩ := id h.rd
  obtain ⟨g, rfl, hge, -, hcell, hfree, hset⟩ := own_at rfl h.1 hj
  exact ⟨g, c, rfl, hc, hcell, hfree, fun u => ⟨hset u _ rfl, h.2.setCell hge _⟩⟩
/-- A variable is made. -/
theorem wpList_alloc_blk {P : Program} {ops : Array Oper} {rest : List Oper} {op : Oper} {a : Act} {w : World} {Q : Exit → Act → World → Prop} (hgd : op.guard = none) (ty : TypeId) (ho : op.op = .alloc ty) (cs : List Value)
    (hrun : (Instr.alloc ty true (.tuple #[])).run P w = .ok (.pointer (some ⟨w.heap.size, 0, none⟩)) (w.alloc (.cells cs.toArray ty)))
    (h : ∀ w', BlkAt w.heap.size ty cs w' → Below w.heap.size w w' → Hid (w'.heap.size = w.heap.size + 1) → wpList P ops Q rest (a.put op.dst (.pointer (some ⟨w.heap.size, 0, none⟩))) w') : wpList P ops Q (op :: rest) a w := by
  refine wpList_plain hgd fun K hK => ?_
  unfold Oper.wp execOp
  simp only [ho, Sem.run_bind, hrun, Result.andThen_ok, Sem.run_pure]
  exact hK _ _ (h _ (BlkAt.fresh rfl rfl) (growB _) (show _ = _ by simp))
/-- .. in a region whose order is open. -/
theorem wp_alloc_blk {P : Program} {w0 : World} {op : Oper} {a : Act} {w : World} {K : Act → World → Prop} {Q : Exit → Act → World → Prop} (hB : Below w0.heap.size w0 w) (ty : TypeId) (ho : op.op = .alloc ty) (cs : List Value)
    (hrun : (Instr.alloc ty true (.tuple #[])).run P w = .ok (.pointer (some ⟨w.heap.size, 0, none⟩)) (w.alloc (.cells cs.toArray ty)))
    (h : ∀ g w', BlkAt g ty cs w' → w0.heap.size ≤ g → Below w0.heap.size w0 w' → K (a.put op.dst (.pointer (some ⟨g, 0, none⟩))) w') : op.wp P a w K Q := by
  unfold Oper.wp execOp
  simp only [ho, Sem.run_bind, hrun, Result.andThen_ok, Sem.run_pure]
  exact h _ _ (BlkAt.fresh rfl rfl) hB.size (stepB hB (growB _))
theorem run_boxB (P : Program) (w : World) (ty : TypeId) (cs : Array Value) : (Instr.box ty (.agg cs)).run P w = .ok (.pointer (some ⟨w.heap.size, 0, none⟩)) (w.alloc (.cells cs ty)) := rfl
/-- A value is laid into a new variable. -/
theorem wpList_box_blk {P : Program} {ops : Array Oper} {rest : List Oper} {op : Oper} {a : Act} {w : World} {Q : Exit → Act → World → Prop} (hgd : op.guard = none) (ty : TypeId) (x : Operand) (ho : op.op = .box ty x) (cs : List Value)
    (hx : a.eval x = .agg cs.toArray)
    (h : ∀ w', BlkAt w.heap.size ty cs w' → Below w.heap.size w w' → Hid (w'.heap.size = w.heap.size + 1) → wpList P ops Q rest (a.put op.dst (.pointer (some ⟨w.heap.size, 0, none⟩))) w') : wpList P ops Q (op :: rest) a w := by
  refine wpList_plain hgd fun K hK => ?_
  unfold Oper.wp execOp
  simp only [ho, hx, Sem.run_bind, run_boxB, Result.andThen_ok, Sem.run_pure]
  exact hK _ _ (h _ (BlkAt.fresh rfl rfl) (growB _) (show _ = _ by simp))
/-- A part is loaded. -/
theorem wpList_load_part {P : Program} {ops : Array Oper} {rest : List Oper} {op : Oper} {a : Act} {w : World} {Q : Exit → Act → World → Prop} (hgd : op.guard = none) (ty : TypeId) (x : Operand) (ho : op.op = .load ty x)
    {g o : Nat} (hx : a.eval x = .pointer (some ⟨g, o, none⟩)) {bt : TypeId} {cs : List Value} (pre mid post : List Value) (hb : BlkAt g bt cs w) (hc : cs = pre ++ mid ++ post) (hp : pre.length = o) {d : TypeDesc}
    (hu : P.underlying ty = some d) (hd : d.isRow = true) (hi : (P.info? ty).map (·.size) = some mid.length) (h : wpList P ops Q rest (a.put op.dst (.agg mid.toArray)) w) : wpList P ops Q (op :: rest) a w := by
  subst hc
  exact wpList_load_blk hgd ty x ho hx hb hp hu hd hi h
/-- .. in a region whose order is open. -/
theorem exec_load_part {P : Program} {op : Oper} {a : Act} {w W : World} (ty : TypeId) (x : Operand) (ho : op.op = .load ty x) {g o : Nat} (hx : a.eval x = .pointer (some ⟨g, o, none⟩))
    {bt : TypeId} {cs : List Value} (pre mid post : List Value) (hb : BlkAt g bt cs w) (hW : Below w.heap.size w W) (hc : cs = pre ++ mid ++ post) (hp : pre.length = o) {d : TypeDesc} (hu : P.underlying ty = some d) (hd : d.isRow = true) (hi : (P.info? ty).map (·.size) = some mid.length) :
    (execOp a.eval op).run P W = .ok (.value (.agg mid.toArray)) W := by
  subst hc
  exact exec_load_blk ty x ho hx (hb.kept hW) hp hu hd hi
/-- A part is stored. -/
theorem wp_store_part {P : Program} {op : Oper} {a : Act} {w : World} {K : Act → World → Prop} {Q : Exit → Act → World → Prop} (ty : TypeId) (x y : Operand) (ho : op.op = .store ty x y)
    {g o : Nat} (hx : a.eval x = .pointer (some ⟨g, o, none⟩)) (xs : List Value) (hy : a.eval y = .agg xs.toArray) {bt : TypeId} {cs : List Value} (pre mid post cs' : List Value) (hb : BlkAt g bt cs w) (hc : cs = pre ++ mid ++ post) (hc' : cs' = pre ++ xs ++ post) (hp : pre.length = o)
    (hl : xs.length = mid.length) (hi : (P.info? ty).map (·.size) = some mid.length) (h1 : xs.toArray.all (·.oneCell') = true)
    (h : ∀ w', BlkAt g bt cs' w' → Wrote g w w' → K (a.put op.dst undef) w') : op.wp P a w K Q := by
  subst hp hc hc'
  refine wp_store_mid ty x y ho g _ _ hx hy (by simpa [hl] using hb.there) (by simp [hl, hi]) h1 ?_
  exact h _ (BlkAt.setCells xs pre mid post w hb hl) (Wrote.setCells g _ _ w)
theorem wpList_store_part {P : Program} {ops : Array Oper} {rest : List Oper} {op : Oper} {a : Act} {w : World} {Q : Exit → Act → World → Prop} (hgd : op.guard = none) (ty : TypeId) (x y : Operand) (ho : op.op = .store ty x y)
    {g o : Nat} (hx : a.eval x = .pointer (some ⟨g, o, none⟩)) (xs : List Value) (hy : a.eval y = .agg xs.toArray) {bt : TypeId} {cs : List Value} (pre mid post cs' : List Value) (hb : BlkAt g bt cs w) (hc : cs = pre ++ mid ++ post) (hc' : cs' = pre ++ xs ++ post) (hp : pre.length = o)
    (hl : xs.length = mid.length) (hi : (P.info? ty).map (·.size) = some mid.length) (h1 : xs.toArray.all (·.oneCell') = true)
    (h : ∀ w', BlkAt g bt cs' w' → Wrote g w w' → wpList P ops Q rest (a.put op.dst undef) w') : wpList P ops Q (op :: rest) a w :=
  wpList_plain hgd fun _ hK => wp_store_part ty x y ho hx xs hy pre mid post cs' hb hc hc' hp hl hi h1 fun w' h1 h2 => hK _ _ (h w' h1 h2)
/-- A call returns what lies in its result's block. -/
theorem bodyPost_blk {P : Program} {fn : Func} {p : Tmp} {ty bt : TypeId} {g : Nat} {cs : List Value} {d : TypeDesc} {R : Ending → World → Prop} {a : Act} {w : World} (h : fn.results = #[.cell p ty]) (hd : a.defers = [])
    (hp : a.tmps.getD p undef = .pointer (some ⟨g, 0, none⟩)) (hb : BlkAt g bt cs w) (hu : P.underlying ty = some d) (hrow : d.isRow = true) (hi : (P.info? ty).map (·.size) = some cs.length)
    (hR : R (.returned (.agg cs.toArray)) w) : bodyPost P fn R .ret a w := by
  refine bodyPost_ret ?_ hd hR
  have hp' : a.tmps[p]?.getD undef = .pointer (some ⟨g, 0, none⟩) := by simpa using hp
  have hb' : BlkAt g bt (([] : List Value) ++ cs ++ []) w := by simpa using hb
  have hl := run_loadVar_mid (P := P) w g 0 ty cs d hb'.range hu hrow hi
  simp [results, h, hp', asAddr, hl]
/-- Parts are put together. -/
theorem wpList_buildB {P : Program} {ops : Array Oper} {rest : List Oper} {op : Oper} {a : Act} {w : World} {Q : Exit → Act → World → Prop} (hgd : op.guard = none) (t : TypeId) (ps : Array (Nat × Operand)) (ho : op.op = .build t ps)
    (vs : Array (Nat × Value)) (hv : ps.map (fun p => (p.1, a.eval p.2)) = vs) (v : Value) (hrun : (Instr.build t vs).run P w = .ok v w) (h : wpList P ops Q rest (a.put op.dst v) w) : wpList P ops Q (op :: rest) a w := by
  refine wpList_plain hgd fun K hK => ?_
  unfold Oper.wp execOp
  have hv' : Array.map (fun x => match x with | (i, x) => (i, a.eval x)) ps = vs := hv
  simp only [ho, hv', Sem.run_bind, hrun, Result.andThen_ok, Sem.run_pure]
  exact hK _ _ h
theorem exec_build {P : Program} {op : Oper} {a : Act} {W : World} (t : TypeId) (ps : Array (Nat × Operand)) (ho : op.op = .build t ps)
    (vs : Array (Nat × Value)) (hv : ps.map (fun p => (p.1, a.eval p.2)) = vs) (v : Value) (hrun : (Instr.build t vs).run P W = .ok v W) : (execOp a.eval op).run P W = .ok (.value v) W := by
  unfold execOp
  have hv' : Array.map (fun x => match x with | (i, x) => (i, a.eval x)) ps = vs := hv
  simp only [ho, hv', Sem.run_bind, hrun, Result.andThen_ok, Sem.run_pure]
end Go.Proofs.Ytmgkocoemgpgbaa
