/- A text's bytes appended to a row, and copied into one. No program's text is named. -/
import Derived.Test.YtfiefohdceokdaaDoorSyMem
import Derived.Lib.AppendStr
import Derived.Lib.ConvBytes
import Derived.Laws.AppendOwn
import Derived.Lib.BufferWrite
import Derived.Laws.CopyOwn
namespace Go.Proofs.YtfiefohdceokdaaDoor
open Go.ChangeShapes Go.WideShapes Go.ChangeAt Go.RowKit
set_option linter.unusedSimpArgs false
set_option linter.unusedVariables false

theorem wpList_append_text {P : Program} {wr : World} {ops : Array Oper} {rest : List Oper} {o : Oper} {a : Act} {Q : Exit → Act → World → Prop} (hg : o.guard = none) (s x : Operand) (t u : TypeId)
    (ho : o.op = .call { callee := .builtin .append, args := #[s, x], argTypes := #[t, u] }) (e : TypeId) (ht : P.underlying t = some (.slice e)) (hu : P.underlying u = some .string)
    (hinfo : (P.info? e).map (fun i => (i.zero, i.size, i.bytes)) = some (some (.int .u8 0), 1, 1)) (l : List UInt8) (hs : a.eval s = .slice none 0 0) (hx : a.eval x = .string ⟨l.toArray⟩) (hlen : l.length ≤ 140737488355328)
    (h : ∀ v' w', New e wr v' l w' → wpList P ops Q rest (a.put o.dst v') w') : wpList P ops Q (o :: rest) a wr := by
  obtain ⟨i, hi, hz0, hz1, hz2⟩ := info_parts hinfo
  have hsz : (⟨l.toArray⟩ : ByteArray).size = l.length := by simp [ByteArray.size]
  refine Lib.wpList_append_own_string (P := P) wr hg s x t u ho wr.heap.size e i ht hu hi hz0 hz1 hz2 (.slice none 0 0) 0 [] hs (World.ownsRow_nil _ _ _ _) ⟨l.toArray⟩ hx (by rw [hsz]; unfold maxLen; omega) (by rw [hsz]; omega) (Nat.le_refl _) ?_
  intro v' w' h1 h2 h3
  refine h v' w' ⟨?_, ?_⟩
  · rw [hsz, Nat.zero_add] at h1
    exact h1
  · exact (Chg.of_grown h2).none fun k _ e => by simp [Value.ownBlock] at e
/-- A text copied to the head of a row of the call's own. -/
theorem wpList_copy_text {P : Program} {w wr : World} {ops : Array Oper} {rest : List Oper} {o : Oper} {a : Act} {Q : Exit → Act → World → Prop} (hg : o.guard = none) (d s : Operand) (t u : TypeId)
    (ho : o.op = .call { callee := .builtin .copy, args := #[d, s], argTypes := #[t, u] }) (e : TypeId) (ht : P.underlying t = some (.slice e)) (hsz : (P.info? e).map (·.size) = some 1)
    (v : Value) (l : List UInt8) (hs : a.eval d = v) (hN : New e w v l wr) (l2 : List UInt8) (hx : a.eval s = .string ⟨l2.toArray⟩) (hlen : l2.length ≤ l.length) (hne : l ≠ [])
    (h : ∀ w', New e w v (l2 ++ l.drop l2.length) w' → wpList P ops Q rest (a.put o.dst (goInt l2.length)) w') : wpList P ops Q (o :: rest) a wr := by
  have hpos : 0 < l.length := List.length_pos_iff.2 hne
  rcases hN.1.2 with ⟨h', h0⟩ | ⟨g, cap, cur, rfl, hb, hgh, hn, hm, hss, htk⟩
  · omega
  have hsz2 : cur.size = cap := by simpa using hss
  have hs2 : (⟨l2.toArray⟩ : ByteArray).size = l2.length := by simp [ByteArray.size]
  have hr := Lib.run_copy_row_string (P := P) wr t u o.type e g 0 l.length cap ⟨l2.toArray⟩ cur e ht hsz hgh (by rw [hs2]; exact hlen) (by rw [hs2]; omega)
  refine wpList_plain hg fun K hK => ?_
  unfold Oper.wp execOp
  simp only [ho, resolve, invoke, builtin, Sem.run_bind, Sem.run_pure, Result.andThen_ok, List.map_toArray, List.map_cons, List.map_nil, hs, hx, hr]
  rw [hs2] at *
  refine hK _ _ (h _ ?_)
  have e1 : cur.toList.take l.length = l.map bv := by simpa using htk
  have ec : Lib.byteCells (⟨l2.toArray⟩ : ByteArray).data.toList = l2.map bv := by simp [Lib.byteCells, bv]
  refine ⟨⟨by simp, .inr ⟨g, cap, _, ?_, hb, setRow_heap wr g _ _ e _ hgh, ?_, hm, ?_, ?_⟩⟩, below_setRow hN.2 hb _⟩
  · rw [show (l2 ++ l.drop l2.length).length = l.length by simp; omega]
  · simp; omega
  · rw [ec]; simp; omega
  · rw [ec, show (l2 ++ l.drop l2.length).length * 1 = l2.length + (l.length - l2.length) by simp]
    simp only [List.take_zero, List.nil_append, Nat.zero_add]
    rw [show l2.length + (l.length - l2.length) = (l2.map bv).length + (l.length - l2.length) by simp, List.take_length_add_append, List.map_append, List.map_drop, ← e1, List.drop_take]
/-- A text's bytes, in new memory. -/
theorem wpList_conv_text {P : Program} {w : World} {ops : Array Oper} {rest : List Oper} {o : Oper} {a : Act} {Q : Exit → Act → World → Prop} (hg : o.guard = none) (x : Operand) (src dst e : TypeId) (ho : o.op = .convert src dst x)
    (hs : P.underlying src = some .string) (hd : P.underlying dst = some (.slice e)) (he : P.underlying e = some (.int .u8)) (l : List UInt8) (hx : a.eval x = .string ⟨l.toArray⟩) (hm : l.length ≤ maxLen)
    (h : ∀ v w', Rd w' v l → Below w.heap.size w w' → wpList P ops Q rest (a.put o.dst v) w') : wpList P ops Q (o :: rest) a w := by
  have hsz : (⟨l.toArray⟩ : ByteArray).size = l.length := by simp [ByteArray.size]
  have hr := Lib.run_convert_string_bytes (P := P) w src dst e ⟨l.toArray⟩ hs hd he
  refine wpList_plain hg fun K hK => ?_
  unfold Oper.wp execOp
  simp only [ho, hx, Sem.run_bind, hr, Result.andThen_ok, Sem.run_pure]
  refine hK _ _ (h _ _ ⟨_, _, by rw [hsz], grownCap_ge _ _ _ _, grownCap_le_maxLen _ _ _ _ hm, (fun h => by cases h), .inr ⟨_, 0, rfl, fun i hi => ?_⟩⟩ ?_)
  · rw [Nat.zero_add, Lib.bytesWorld_cell w e _ i (by rw [hsz]; exact hi)]
  · exact ⟨rfl, rfl, rfl, by rw [Lib.bytesWorld_size]; omega, fun i hi => Lib.bytesWorld_at_old w e _ i hi⟩
end Go.Proofs.YtfiefohdceokdaaDoor
