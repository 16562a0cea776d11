/- As many bytes as there is room for, copied into an array held in a block. No program's text is named. -/
import Derived.Test.YtenljbljaffehaaDoorArrB
namespace Go.Proofs.YtenljbljaffehaaDoor
open Go.ChangeShapes Go.WideShapes Go.ChangeAt Go.RowKit
set_option linter.unusedSimpArgs false
set_option linter.unusedVariables false

/-- As many bytes as there is room for, copied to the head of an own row. -/
theorem wpList_copy_fit {P : Program} {w wr : World} {ops : Array Oper} {rest : List Oper} {o : Oper} {a : Act} {Q : Exit → Act → World → Prop} (hg : o.guard = none) (d s : Operand) (t : TypeId)
    (ho : o.op = .call { callee := .builtin .copy, args := #[d, s], argTypes := #[t, t] }) (e : TypeId) (ht : P.underlying t = some (.slice e)) (hsz : (P.info? e).map (·.size) = some 1)
    {bt : TypeId} {gb n cap : Nat} (l : List UInt8) (hs : a.eval d = .slice (some ⟨gb, 0, none⟩) n cap) (hn : n = l.length) (hR0 : RowAt .u8 bt gb cap (byI l) wr) (vx : Value) (l2 : List UInt8) (hx : a.eval s = vx) (hR : Rd wr vx l2) (l3 : List UInt8) (hl3 : l3 = l2.take l.length) (hne : l ≠ [])
    (hbw : Below w.heap.size w wr) (hgw : w.heap.size ≤ gb)
    (h : ∀ w', RowAt .u8 bt gb cap (byI (l3 ++ l.drop l3.length)) w' → Below w.heap.size w w' → wpList P ops Q rest (a.put o.dst (goInt l3.length)) w') : wpList P ops Q (o :: rest) a wr := by
  subst hn
  have hpos : 0 < l.length := List.length_pos_iff.2 hne
  have hN := hR0.newB hgw hbw
  obtain ⟨ax, cap2, rfl, h2, h3, h4, h5⟩ := hR
  rcases hN.1.2 with ⟨h', h0⟩ | ⟨g, cap', cur, h', hb, hgh, hn, hm, hss, htk⟩
  · omega
  simp only [Value.slice.injEq, Option.some.injEq, Addr.mk.injEq, and_true, true_and] at h'
  obtain ⟨rfl, rfl⟩ := h'
  have hsz2 : cur.size = cap := by simpa using hss
  have hlen : l3.length ≤ l.length := by rw [hl3, List.length_take]; exact Nat.min_le_left _ _
  have hcl : (l3.map bv).length = Nat.min l2.length l.length := by rw [List.length_map, hl3, List.length_take]; exact Nat.min_comm _ _
  refine wpList_copy_splice hg d s t t ho e ht hsz _ ax l.length cap l2.length cap2 hs hx gb 0 cur.toList bt (by simpa using hgh) (l3.map bv) hcl ?_ (by simp; omega) (bv_oneCell l3) _ w hN.2 hb ?_
  · intro hp
    refine ⟨rfl, ?_⟩
    rcases h5 with rfl | ⟨b, off, rfl, hc⟩
    · simp [hl3] at hp
    · refine ⟨_, rfl, fun j u hj => ?_⟩
      have hjl : j < l3.length := by
        rcases Nat.lt_or_ge j l3.length with h | h
        · exact h
        · simp [List.getElem?_eq_none h] at hj
      have hj2 : j < l2.length := by rw [hl3, List.length_take] at hjl; omega
      have hplain : (⟨b, off, none⟩ : Addr).add j = ⟨b, off + j, none⟩ := by unfold Addr.add; split <;> simp_all
      rw [hplain, hc j hj2]
      rw [List.getElem?_map, List.getElem?_eq_getElem hjl] at hj
      have e3 : l3[j] = l2[j] := by simp [hl3]
      rw [e3] at hj
      simp at hj
      subst hj
      simp [bv, hj2]
  · intro w' hw' hb'
    rw [List.length_map]
    have hll : (l3 ++ l.drop l3.length).length = l.length := by simp; omega
    have hN2 : New bt w (.slice (some ⟨gb, 0, none⟩) l.length cap) (l3 ++ l.drop l3.length) w' := by
      refine ⟨⟨by simp, .inr ⟨gb, cap, _, ?_, hb, hw'.out, ?_, hm, ?_, ?_⟩⟩, hb'⟩
      · rw [hll]
      · omega
      · simp [splice]; omega
      · have e1 : cur.toList.take l.length = l.map bv := by simpa using htk
        rw [show (l3 ++ l.drop l3.length).length * 1 = l3.length + (l.length - l3.length) by simp]
        simp only [splice, List.take_zero, List.nil_append, Nat.zero_add, List.length_map]
        rw [show l3.length + (l.length - l3.length) = (l3.map bv).length + (l.length - l3.length) by simp, List.take_length_add_append, List.map_append, List.map_drop, ← e1, List.drop_take]
    exact h w' (hN2.rowB (by rw [← List.length_pos_iff]; omega)) hb'
end Go.Proofs.YtenljbljaffehaaDoor
