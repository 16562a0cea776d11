/- The walk of the statement on any rows one behind the other, out of the contracts. -/
import Derived.Test.YticjhpclpealmaaF
import Derived.Test.YticjhpclpealmaaReg
namespace Go.Proofs.Yticjhpclpealmaa
open Go.ChangeShapes Go.WideShapes Go.ChangeAt Go.RowKit
set_option linter.unusedSimpArgs false
set_option linter.unusedVariables false

set_option maxHeartbeats 4000000 in
theorem joins_walk (v : Value) (vs : List Value) (ls : List (List UInt8)) (w : World) (h : RdL w v vs ls) :
    Calls Try.prog 7 #[v] w fun e w' => e = .returned (.bool true) ∧ Below w.heap.size w w' := by
  obtain ⟨⟨a, cap, ev, h2, h3, _⟩, hL, _⟩ := id h
  unfold maxLen at h3
  subst ev
  have H0 : Hid (RdL w (.slice a vs.length cap) vs ls) := h
  have HL : Hid (vs.length = ls.length) := hL
  clear h hL
  go_enter Try.func7, Try.ntmps7
  go_wp2_with fail
  refine (awake_any _).mono ?_
  rintro e w1 ⟨rfl, hB1⟩
  have H : Hid (RdL w1 (.slice a vs.length cap) vs ls) := H0.out.kept hB1
  clear H0
  go_wp2_with fail
  go_loopw [4, 5] (fun r i wr => ∃ (k : Nat), k ≤ vs.length ∧ k ≤ 51 ∧ i = .int .i64 k ∧ Rd wr r (ls.take k).flatten ∧ Hid (totL (ls.take k) ≤ 1000 * k) ∧ Below w1.heap.size w1 wr) (fun _ i _ => vs.length - (intOf i).toNat)
  case atStart => exact ⟨0, Nat.zero_le _, by omega, rfl, Rd.nil _, by simp [Hid, totL], Below.refl _ _⟩
  case round =>
    obtain ⟨k, hk, hk51, rfl, hRw, HT, hBr⟩ := hrel
    by_cases hlt : k < vs.length
    · obtain ⟨b, off, cap', a', cap2, ev, _, hc, hr⟩ := (H.out.kept hBr).cellAt (i := k) hlt
      simp only [Value.slice.injEq] at ev
      obtain ⟨rfl, _, rfl⟩ := ev
      have HS : Hid _ := flat_take_succ ls k (by have := HL.out; omega)
      have HS2 : Hid _ := totL_take_succ ls k (by have := HL.out; omega)
      generalize ls.getD k [] = lk at hc hr HS HS2
      have g1 : (k : Int) < vs.length := by omega
      by_cases hlong : 1000 < (lk.length : Int)
      · go_wp2
        go_ret
        exact ⟨rfl, bstep hB1 hBr⟩
      by_cases h50 : 50 < (k : Int)
      · have hshort : (lk.length : Int) ≤ 1000 := by omega
        go_wp2
        go_ret
        exact ⟨rfl, bstep hB1 hBr⟩
      · have hshort : (lk.length : Int) ≤ 1000 := by omega
        have h50' : (k : Int) ≤ 50 := by omega
        go_wp2_with fail
        refine (refjoin_any _ _ _ lk _ hRw hr (by have := HT.out; unfold totL at this; omega)).mono ?_
        rintro e w2 ⟨v2, rfl, hN2⟩
        have hR2 := hN2.rd
        have hB2 := bstep hBr hN2.2
        clear hN2 hRw hr hc
        go_wp2
        go_roundw
        case rel => exact ⟨k + 1, by omega, by omega, by go_num, by rw [HS.out]; exact hR2, by have := HS2.out; have := HT.out; show totL _ ≤ _; omega, hB2⟩
        case measure => simp [intOf]; omega
    · have htk : ls.take k = ls := List.take_of_length_le (by have := HL.out; omega)
      rw [htk] at hRw HT
      clear htk
      go_wp2_with fail
      refine wpG_begin (by kernel_rfl) ?_
      refine wpG_take (i := 0) (oi := { dst := some 31, op := Op.move (Operand.tmp 0), type := 35, pos := "law.go:105", after := #[], guard := none }) (v := ?_) rfl (by kernel_rfl) (by kernel_rfl) (by kernel_rfl) (by rfl) ?_ ?_
      rotate_left
      · intro W hW; first | (go_simp; done) | (go_simp; with_reducible rfl)
      try simp only [Act.put, List.setIfInBounds_toArray, List.set_cons_zero, List.set_cons_succ]
      refine wpG_take (i := 3) (oi := { dst := some 34, op := Op.move (Operand.tmp 4), type := 22, pos := "law.go:105", after := #[], guard := none }) (v := ?_) rfl (by kernel_rfl) (by kernel_rfl) (by kernel_rfl) (by rfl) ?_ ?_
      rotate_left
      · intro W hW; first | (go_simp; done) | (go_simp; with_reducible rfl)
      try simp only [Act.put, List.setIfInBounds_toArray, List.set_cons_zero, List.set_cons_succ]
      refine wpG_take (i := 4) (oi := { dst := some 35, op := Op.convert 22 9 (Operand.tmp 34), type := 9, pos := "law.go:105", after := #[{ on := 3, ground := Ground.data }], guard := none }) (v := ?_) rfl (by kernel_rfl) (by kernel_rfl) (by kernel_rfl) (by rfl) ?_ ?_
      rotate_left
      · intro W hW; have hcv := conv_any (hRw.drew.kept hW); first | (go_simp; done) | (go_simp; with_reducible rfl)
      try simp only [Act.put, List.setIfInBounds_toArray, List.set_cons_zero, List.set_cons_succ]
      refine wpG_do (i := 1) (o := { dst := some 32, op := Op.call { callee := Callee.value (Operand.func 15), args := #[Operand.tmp 31], argTypes := #[35] }, type := 22, pos := "law.go:105", after := #[{ on := 0, ground := Ground.data }], guard := none }) (by kernel_rfl) rfl (by rfl) fun K hK => ?_
      go_simp
      refine (join_any _ vs ls _ ((H.out.kept hBr).kept (Below.refl _ _).drew) (by have := HT.out; omega)).mono ?_
      rintro e w3 ⟨v3, rfl, hN3⟩
      refine hK.out _ _ hN3.2 ?_
      clear hK K
      have hB3 : Below wr.heap.size wr w3 := bstep (Below.refl _ _).drew hN3.2
      try simp only [Act.put, List.setIfInBounds_toArray, List.set_cons_zero, List.set_cons_succ]
      refine wpG_take (i := 2) (oi := { dst := some 33, op := Op.convert 22 9 (Operand.tmp 32), type := 9, pos := "law.go:105", after := #[{ on := 1, ground := Ground.data }], guard := none }) (v := ?_) rfl (by kernel_rfl) (by kernel_rfl) (by kernel_rfl) (by rfl) ?_ ?_
      rotate_left
      · intro W hW; have hcv := conv_any (hN3.rd.kept hW); first | (go_simp; done) | (go_simp; with_reducible rfl)
      try simp only [Act.put, List.setIfInBounds_toArray, List.set_cons_zero, List.set_cons_succ]
      refine wpG_take (i := 5) (oi := { dst := some 36, op := Op.binOp BinOp.eql 9 (Operand.tmp 33) (Operand.tmp 35) 9, type := 4, pos := "law.go:105", after := #[{ on := 2, ground := Ground.data }, { on := 4, ground := Ground.data }], guard := none }) (v := ?_) rfl (by kernel_rfl) (by kernel_rfl) (by kernel_rfl) (by rfl) ?_ ?_
      rotate_left
      · intro W hW; first | (go_simp; done) | (go_simp; with_reducible rfl)
      try simp only [Act.put, List.setIfInBounds_toArray, List.set_cons_zero, List.set_cons_succ]
      refine wpG_take (i := 6) (oi := { dst := some 2, op := Op.assign (Operand.tmp 36), type := 4, pos := "law.go:105", after := #[{ on := 5, ground := Ground.data }, { on := 1, ground := Ground.chain }, { on := 0, ground := Ground.phase }, { on := 1, ground := Ground.phase }, { on := 2, ground := Ground.phase }, { on := 3, ground := Ground.phase }, { on := 4, ground := Ground.phase }, { on := 5, ground := Ground.phase }], guard := none }) (v := ?_) rfl (by kernel_rfl) (by kernel_rfl) (by kernel_rfl) (by rfl) ?_ ?_
      rotate_left
      · intro W hW; first | (go_simp; done) | (go_simp; with_reducible rfl)
      try simp only [Act.put, List.setIfInBounds_toArray, List.set_cons_zero, List.set_cons_succ]
      refine wpG_done (by kernel_rfl) ?_
      go_wp2
      go_ret
      exact ⟨rfl, bstep hB1 (bstep hBr hB3)⟩
end Go.Proofs.Yticjhpclpealmaa
