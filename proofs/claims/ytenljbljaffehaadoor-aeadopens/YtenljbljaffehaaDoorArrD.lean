/- Bytes copied to the head of an array held in a block, through a slice that is shorter than it. No program's text is named. -/
import Derived.Test.YtenljbljaffehaaDoorArrB
namespace Go.Proofs.YtenljbljaffehaaDoor
open Go.ChangeShapes Go.WideShapes Go.ChangeAt Go.RowKit
set_option linter.unusedSimpArgs false
set_option linter.unusedVariables false

/-- Bytes copied to the head of an own row, through a shorter slice. -/
theorem wpList_copy_part {P : Program} {w wr : World} {ops : Array Oper} {rest : List Oper} {o : Oper} {a : Act} {Q : Exit → Act → World → Prop} (hg : o.guard = none) (d s : Operand) (t : TypeId)
    (ho : o.op = .call { callee := .builtin .copy, args := #[d, s], argTypes := #[t, t] }) (e : TypeId) (ht : P.underlying t = some (.slice e)) (hsz : (P.info? e).map (·.size) = some 1)
    {bt : TypeId} {gb n cap : Nat} (l : List UInt8) (hs : a.eval d = .slice (some ⟨gb, 0, none⟩) n cap) (hn : n ≤ l.length) (hR0 : RowAt .u8 bt gb cap (byI l) wr) (vx : Value) (l2 : List UInt8) (hx : a.eval s = vx) (hR : Rd wr vx l2) (hlen : l2.length ≤ n) (hne : l ≠ [])
    (hbw : Below w.heap.size w wr) (hgw : w.heap.size ≤ gb)
    (h : ∀ w', RowAt .u8 bt gb cap (byI (l2 ++ l.drop l2.length)) w' → Below w.heap.size w w' → wpList P ops Q rest (a.put o.dst (goInt l2.length)) w') : wpList P ops Q (o :: rest) a wr := by
  have hpos : 0 < l.length := List.length_pos_iff.2 hne
  have hN := hR0.newB hgw hbw
  obtain ⟨ax, cap2, rfl, h2, h3, h4, h5⟩ := hR
  rcases hN.1.2 with ⟨h', h0⟩ | ⟨g, cap', cur, h', hb, hgh, hnn, hm, hss, htk⟩
  · omega
  simp only [Value.slice.injEq, Option.some.injEq, Addr.mk.injEq, and_true, true_and] at h'
  obtain ⟨rfl, rfl⟩ := h'
  have hsz2 : cur.size = cap := by simpa using hss
  have hcl : (l2.map bv).length = Nat.min l2.length n := by rw [List.length_map]; exact (Nat.min_eq_left hlen).symm
  refine wpList_copy_splice hg d s t t ho e ht hsz _ ax n cap l2.length cap2 hs hx gb 0 cur.toList bt (by simpa using hgh) (l2.map bv) hcl ?_ (by simp; omega) (bv_oneCell l2) _ w hN.2 hb ?_
  · intro hp
    refine ⟨rfl, ?_⟩
    rcases h5 with rfl | ⟨b, off, rfl, hc⟩
    · simp at hp
    · refine ⟨_, rfl, fun j u hj => ?_⟩
      have hjl : j < l2.length := by
        rcases Nat.lt_or_ge j l2.length with h | h
        · exact h
        · simp [List.getElem?_eq_none h] at hj
      have hplain : (⟨b, off, none⟩ : Addr).add j = ⟨b, off + j, none⟩ := by unfold Addr.add; split <;> simp_all
      rw [hplain, hc j hjl]
      simp [List.getElem?_eq_getElem hjl] at hj
      subst hj
      simp [bv, hjl]
  · intro w' hw' hb'
    rw [List.length_map]
    have hll : (l2 ++ l.drop l2.length).length = l.length := by simp; omega
    have hN2 : New bt w (.slice (some ⟨gb, 0, none⟩) l.length cap) (l2 ++ l.drop l2.length) w' := by
      refine ⟨⟨by simp, .inr ⟨gb, cap, _, ?_, hb, hw'.out, ?_, hm, ?_, ?_⟩⟩, hb'⟩
      · rw [hll]
      · omega
      · simp [splice]; omega
      · have e1 : cur.toList.take l.length = l.map bv := by simpa using htk
        rw [show (l2 ++ l.drop l2.length).length * 1 = l2.length + (l.length - l2.length) by simp]
        simp only [splice, List.take_zero, List.nil_append, Nat.zero_add, List.length_map]
        rw [show l2.length + (l.length - l2.length) = (l2.map bv).length + (l.length - l2.length) by simp, List.take_length_add_append, List.map_append, List.map_drop, ← e1, List.drop_take]
    exact h w' (hN2.rowB (by rw [← List.length_pos_iff]; omega)) hb'
end Go.Proofs.YtenljbljaffehaaDoor
