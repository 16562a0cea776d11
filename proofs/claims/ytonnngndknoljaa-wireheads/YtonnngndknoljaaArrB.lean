/- Arrays of bytes held in a block: made, laid down, copied into, cut. No program's text is named. -/
import Derived.Test.YtonnngndknoljaaMem
import Derived.Test.YtonnngndknoljaaArr3
namespace Go.Proofs.Ytonnngndknoljaa
open Go.ChangeShapes Go.WideShapes Go.ChangeAt Go.RowKit
set_option linter.unusedSimpArgs false
set_option linter.unusedVariables false

/-- Bytes as numbers. -/
def byI (l : List UInt8) : List Int := l.map fun x => (x.toNat : Int)
theorem byI_length (l : List UInt8) : (byI l).length = l.length := by simp [byI]
theorem byI_bv (l : List UInt8) : (byI l).map (Value.int .u8) = l.map bv := by simp [byI, bv, Function.comp_def]
theorem byI_get (l : List UInt8) (j : Nat) : (byI l).getD j 0 = ((l.getD j 0).toNat : Int) := by
  simp only [byI, List.getD_eq_getElem?_getD, List.getElem?_map]
  cases l[j]? <;> simp
theorem byI_set (l : List UInt8) (j : Nat) (x : UInt8) : (byI l).set j (x.toNat : Int) = byI (l.set j x) := by simp [byI, List.map_set]
theorem byI_ne {l : List UInt8} (h : l ≠ []) : byI l ≠ [] := by simpa [byI] using h
/-- An array of bytes as a value. -/
def arB (l : List UInt8) : Value := .agg ((byI l).map (Value.int .u8)).toArray
theorem RowAt.rdB {e : TypeId} {g cap : Nat} {l : List UInt8} {w : World} (h : RowAt .u8 e g cap (byI l) w) : Rd w (.slice (some ⟨g, 0, none⟩) l.length cap) l := by
  have := h.own
  rw [byI_bv, byI_length] at this
  exact Rd.of_row this
theorem RowAt.cellB {e : TypeId} {g cap : Nat} {l : List UInt8} {w : World} (h : RowAt .u8 e g cap (byI l) w) {j : Nat} (hj : j < l.length) : w.cell? ⟨g, j, none⟩ = some (.int .u8 ((l.getD j 0).toNat : Int)) := by
  rw [h.cell (by rw [byI_length]; exact hj), byI_get]
theorem RowAt.setB {e : TypeId} {g cap : Nat} {l : List UInt8} {w : World} (h : RowAt .u8 e g cap (byI l) w) (j : Nat) (x : UInt8) : RowAt .u8 e g cap (byI (l.set j x)) (w.setCell ⟨g, j, none⟩ (.int .u8 (x.toNat : Int))) := by
  rw [← byI_set]
  exact h.set j _
theorem RowAt.newB {e : TypeId} {g cap : Nat} {l : List UInt8} {w wr : World} (h : RowAt .u8 e g cap (byI l) wr) (hg : w.heap.size ≤ g) (hb : Below w.heap.size w wr) : New e w (.slice (some ⟨g, 0, none⟩) l.length cap) l wr := by
  have := h.own
  rw [byI_bv, byI_length] at this
  exact ⟨own_mono this hg, hb⟩
theorem New.rowB {e : TypeId} {g n cap : Nat} {l : List UInt8} {w wr : World} (h : New e w (.slice (some ⟨g, 0, none⟩) n cap) l wr) (hl : l ≠ []) : RowAt .u8 e g cap (byI l) wr := by
  have hN : NewI .u8 e w (.slice (some ⟨g, 0, none⟩) n cap) (byI l) wr := by
    unfold NewI
    rw [byI_bv, byI_length]
    exact h
  obtain ⟨gs, caps, es, hgs, hrow⟩ := hN.row (byI_ne hl)
  simp only [Value.slice.injEq, Option.some.injEq, Addr.mk.injEq, and_true, true_and] at es
  obtain ⟨rfl, -, rfl⟩ := es
  exact hrow
/-- A variable is made, all noughts. -/
theorem wpList_alloc_row {k : IntKind} {P : Program} {ops : Array Oper} {rest : List Oper} {op : Oper} {a : Act} {w : World} {Q : Exit → Act → World → Prop} (hgd : op.guard = none) (ty : TypeId) (ho : op.op = .alloc ty) (l : List Int)
    (hrun : (Instr.alloc ty true (.tuple #[])).run P w = .ok (.pointer (some ⟨w.heap.size, 0, none⟩)) (w.alloc (.cells (l.map (Value.int k)).toArray ty))) (hne : l ≠ []) (hm : l.length ≤ maxLen)
    (h : ∀ w', RowAt k ty w.heap.size l.length l w' → Below w.heap.size w w' → Hid (w'.heap.size = w.heap.size + 1) → wpList P ops Q rest (a.put op.dst (.pointer (some ⟨w.heap.size, 0, none⟩))) w') : wpList P ops Q (op :: rest) a w := by
  refine wpList_plain hgd fun K hK => ?_
  unfold Oper.wp execOp
  simp only [ho, Sem.run_bind, hrun, Result.andThen_ok, Sem.run_pure]
  exact hK _ _ (h _ (RowAt.fresh l rfl rfl rfl hne hm) (growB _) (show _ = _ by simp))
theorem run_box (P : Program) (w : World) (ty : TypeId) (cs : Array Value) : (Instr.box ty (.agg cs)).run P w = .ok (.pointer (some ⟨w.heap.size, 0, none⟩)) (w.alloc (.cells cs ty)) := rfl
/-- A value is laid into a new variable. -/
theorem wpList_box_row {k : IntKind} {P : Program} {ops : Array Oper} {rest : List Oper} {op : Oper} {a : Act} {w : World} {Q : Exit → Act → World → Prop} (hgd : op.guard = none) (ty : TypeId) (x : Operand) (ho : op.op = .box ty x) (l : List Int)
    (hx : a.eval x = .agg (l.map (Value.int k)).toArray) (hne : l ≠ []) (hm : l.length ≤ maxLen)
    (h : ∀ w', RowAt k ty w.heap.size l.length l w' → Below w.heap.size w w' → Hid (w'.heap.size = w.heap.size + 1) → wpList P ops Q rest (a.put op.dst (.pointer (some ⟨w.heap.size, 0, none⟩))) w') : wpList P ops Q (op :: rest) a w := by
  refine wpList_plain hgd fun K hK => ?_
  unfold Oper.wp execOp
  simp only [ho, hx, Sem.run_bind, run_box, Result.andThen_ok, Sem.run_pure]
  exact hK _ _ (h _ (RowAt.fresh l rfl rfl rfl hne hm) (growB _) (show _ = _ by simp))
/-- Bytes copied to the head of an own row, whatever its block's type. -/
theorem wpList_copy_row {P : Program} {w wr : World} {ops : Array Oper} {rest : List Oper} {o : Oper} {a : Act} {Q : Exit → Act → World → Prop} (hg : o.guard = none) (d s : Operand) (t : TypeId)
    (ho : o.op = .call { callee := .builtin .copy, args := #[d, s], argTypes := #[t, t] }) (e : TypeId) (ht : P.underlying t = some (.slice e)) (hsz : (P.info? e).map (·.size) = some 1)
    {bt : TypeId} {gb n cap : Nat} (l : List UInt8) (hs : a.eval d = .slice (some ⟨gb, 0, none⟩) n cap) (hn : n = l.length) (hR0 : RowAt .u8 bt gb cap (byI l) wr) (vx : Value) (l2 : List UInt8) (hx : a.eval s = vx) (hR : Rd wr vx l2) (hlen : l2.length ≤ l.length) (hne : l ≠ [])
    (hbw : Below w.heap.size w wr) (hgw : w.heap.size ≤ gb)
    (h : ∀ w', RowAt .u8 bt gb cap (byI (l2 ++ l.drop l2.length)) w' → Below w.heap.size w w' → wpList P ops Q rest (a.put o.dst (goInt l2.length)) w') : wpList P ops Q (o :: rest) a wr := by
  subst hn
  have hpos : 0 < l.length := List.length_pos_iff.2 hne
  have hN := hR0.newB hgw hbw
  obtain ⟨ax, cap2, rfl, h2, h3, h4, h5⟩ := hR
  rcases hN.1.2 with ⟨h', h0⟩ | ⟨g, cap', cur, h', hb, hgh, hn, hm, hss, htk⟩
  · omega
  simp only [Value.slice.injEq, Option.some.injEq, Addr.mk.injEq, and_true, true_and] at h'
  obtain ⟨rfl, rfl⟩ := h'
  have hsz2 : cur.size = cap := by simpa using hss
  have hcl : (l2.map bv).length = Nat.min l2.length l.length := by rw [List.length_map]; exact (Nat.min_eq_left hlen).symm
  refine wpList_copy_splice hg d s t t ho e ht hsz _ ax l.length cap l2.length cap2 hs hx gb 0 cur.toList bt (by simpa using hgh) (l2.map bv) hcl ?_ (by simp; omega) (bv_oneCell l2) _ w hN.2 hb ?_
  · intro hp
    refine ⟨rfl, ?_⟩
    rcases h5 with rfl | ⟨b, off, rfl, hc⟩
    · simp at hp
    · refine ⟨_, rfl, fun j u hj => ?_⟩
      have hjl : j < l2.length := by
        rcases Nat.lt_or_ge j l2.length with h | h
        · exact h
        · simp [List.getElem?_eq_none h] at hj
      have hplain : (⟨b, off, none⟩ : Addr).add j = ⟨b, off + j, none⟩ := by unfold Addr.add; split <;> simp_all
      rw [hplain, hc j hjl]
      simp [List.getElem?_eq_getElem hjl] at hj
      subst hj
      simp [bv, hjl]
  · intro w' hw' hb'
    rw [List.length_map]
    have hll : (l2 ++ l.drop l2.length).length = l.length := by simp; omega
    have hN2 : New bt w (.slice (some ⟨gb, 0, none⟩) l.length cap) (l2 ++ l.drop l2.length) w' := by
      refine ⟨⟨by simp, .inr ⟨gb, cap, _, ?_, hb, hw'.out, ?_, hm, ?_, ?_⟩⟩, hb'⟩
      · rw [hll]
      · omega
      · simp [splice]; omega
      · have e1 : cur.toList.take l.length = l.map bv := by simpa using htk
        rw [show (l2 ++ l.drop l2.length).length * 1 = l2.length + (l.length - l2.length) by simp]
        simp only [splice, List.take_zero, List.nil_append, Nat.zero_add, List.length_map]
        rw [show l2.length + (l.length - l2.length) = (l2.map bv).length + (l.length - l2.length) by simp, List.take_length_add_append, List.map_append, List.map_drop, ← e1, List.drop_take]
    exact h w' (hN2.rowB (by rw [← List.length_pos_iff]; omega)) hb'
end Go.Proofs.Ytonnngndknoljaa
