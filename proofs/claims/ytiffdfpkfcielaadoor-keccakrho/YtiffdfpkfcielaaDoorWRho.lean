/- What the law KeccakRho answers at every state: the walk. -/
import Derived.Test.YtiffdfpkfcielaaDoorK02f
import Derived.Test.YtiffdfpkfcielaaDoorRef02s
import Derived.Test.YtiffdfpkfcielaaDoorArr3
import Derived.Test.YtiffdfpkfcielaaDoorReg
import Derived.Test.YtiffdfpkfcielaaDoorRef02c
namespace Go.Proofs.YtiffdfpkfcielaaDoor
open Go.ChangeShapes Go.WideShapes Go.ChangeAt Go.RowKit
set_option linter.unusedSimpArgs false
set_option linter.unusedVariables false

set_option maxRecDepth 100000 in
set_option maxHeartbeats 1000000 in
theorem keccakRho_walk (f : Nat → Nat) (hf : ∀ i, f i < 18446744073709551616) (w : World) (ht : Tabs w) :
    Calls Tryd.prog 4 #[.agg ((stL f).map (Value.int .u64)).toArray] w fun e w' => e = .returned (.bool true) ∧ Below w.heap.size w w' := by
  have HF : Hid (∀ i, f i < 18446744073709551616) := hf
  have HQ : Hid (decide (stL (rhL f) = stL (rhF f)) = true) := decide_eq_true (stL_congr fun k hk => rhL_eq f HF.out k hk)
  clear hf
  go_enter Tryd.func4, Tryd.ntmps4
  go_wp2_with fail
  have r0 : RowAt .u64 23 w.heap.size 25 (stL f) (w.alloc (.cells ((stL f).map (Value.int .u64)).toArray 23)) := RowAt.fresh (stL f) rfl rfl (stL_length f).symm (stL_ne f) max25
  have hb0 : Below w.heap.size w (w.alloc (.cells ((stL f).map (Value.int .u64)).toArray 23)) := growB _
  have t0 := ht.kept hb0
  generalize w.alloc (.cells ((stL f).map (Value.int .u64)).toArray 23) = W at r0 hb0 t0
  refine (awake_any _ t0).mono ?_
  rintro e w1 ⟨rfl, hB⟩
  have r1 := (r0.kept hB).drew
  have t1 := (t0.kept hB).kept (Below.refl _ _).drew
  have hb1 := (stepB hb0 hB).drew
  have hrd1 := r1.rd
  rw [stL_length] at hrd1
  clear r0 hb0 t0 hB ht
  go_wp2_with fail
  refine wpG_begin (by kernel_rfl) ?_
  refine wpG_take (i := 0) (oi := { dst := some 5, op := Op.move (Operand.tmp 3), type := 4, pos := "law.go:31", after := #[], guard := none }) (v := ?_) rfl (by kernel_rfl) (by kernel_rfl) (by kernel_rfl) (by rfl) ?_ ?_
  rotate_left
  · intro W hW; first | (go_simp; done) | (go_simp; with_reducible rfl)
  try simp only [Act.put, List.setIfInBounds_toArray, List.set_cons_zero, List.set_cons_succ]
  refine wpG_take (i := 1) (oi := { dst := some 6, op := Op.move (Operand.tmp 5), type := 4, pos := "law.go:31", after := #[{ on := 0, ground := Ground.data }], guard := none }) (v := ?_) rfl (by kernel_rfl) (by kernel_rfl) (by kernel_rfl) (by rfl) ?_ ?_
  rotate_left
  · intro W hW; first | (go_simp; done) | (go_simp; with_reducible rfl)
  try simp only [Act.put, List.setIfInBounds_toArray, List.set_cons_zero, List.set_cons_succ]
  refine wpG_take (i := 2) (oi := { dst := some 7, op := Op.load 23 (Operand.tmp 1), type := 23, pos := "law.go:31", after := #[{ on := 1, ground := Ground.guard }], guard := some (1, true) }) (v := ?_) rfl (by kernel_rfl) (by kernel_rfl) (by kernel_rfl) (by rfl) ?_ ?_
  rotate_left
  · intro W hW; refine Eq.trans (exec_load_row' 23 _ (by rfl) (by rfl) r1 hW _ Tryd.underlying23 rfl (arrInfo _)) ?_; with_reducible rfl
  try simp only [Act.put, List.setIfInBounds_toArray, List.set_cons_zero, List.set_cons_succ]
  refine wpG_take (i := 4) (oi := { dst := some 9, op := Op.slice 23 (Operand.tmp 1) none none none, type := 27, pos := "law.go:31", after := #[{ on := 1, ground := Ground.guard }], guard := some (1, true) }) (v := ?_) rfl (by kernel_rfl) (by kernel_rfl) (by kernel_rfl) (by rfl) ?_ ?_
  rotate_left
  · intro W hW; first | (go_simp; done) | (go_simp; with_reducible rfl)
  try simp only [Act.put, List.setIfInBounds_toArray, List.set_cons_zero, List.set_cons_succ]
  refine wpG_do (i := 3) (o := { dst := some 8, op := Op.call { callee := Callee.value (Operand.func 13), args := #[Operand.tmp 7], argTypes := #[23] }, type := 23, pos := "law.go:31", after := #[{ on := 2, ground := Ground.data }, { on := 1, ground := Ground.chain }, { on := 1, ground := Ground.guard }], guard := some (1, true) }) (by kernel_rfl) rfl (by rfl) fun K hK => ?_
  go_simp
  refine (kRho_any _ f HF.out rfl _ t1).mono ?_
  rintro e w2 ⟨rfl, hB2⟩
  refine hK.out _ _ hB2 ?_
  clear hK K
  have hrd2 := hrd1.kept hB2
  have hb2 := stepB hb1 hB2
  clear hB2 hrd1 hb1 t1
  try simp only [Act.put, List.setIfInBounds_toArray, List.set_cons_zero, List.set_cons_succ]
  refine wpG_do (i := 5) (o := { dst := some 10, op := Op.call { callee := Callee.value (Operand.func 14), args := #[Operand.tmp 9], argTypes := #[27] }, type := 27, pos := "law.go:31", after := #[{ on := 4, ground := Ground.data }, { on := 3, ground := Ground.chain }, { on := 1, ground := Ground.guard }], guard := some (1, true) }) (by kernel_rfl) rfl (by rfl) fun K hK => ?_
  go_simp
  refine (rho_any _ f HF.out _ hrd2).mono ?_
  rintro e w3 ⟨v3, rfl, hN3⟩
  refine hK.out _ _ hN3.2 ?_
  clear hK K
  have hR3 := hN3.rd
  have hb3 := stepB hb2 hN3.2
  clear hN3 hrd2 hb2
  try simp only [Act.put, List.setIfInBounds_toArray, List.set_cons_zero, List.set_cons_succ]
  refine wpG_do (i := 6) (o := { dst := some 11, op := Op.call { callee := Callee.value (Operand.func 10), args := #[Operand.tmp 8, Operand.tmp 10], argTypes := #[23, 27] }, type := 4, pos := "law.go:31", after := #[{ on := 3, ground := Ground.data }, { on := 5, ground := Ground.data }, { on := 5, ground := Ground.chain }, { on := 1, ground := Ground.guard }], guard := some (1, true) }) (by kernel_rfl) rfl (by rfl) fun K hK => ?_
  go_simp
  refine (same_any _ (rhL f) _ rfl _ _ hR3).mono ?_
  rintro e w4 ⟨rfl, hB4⟩
  refine hK.out _ _ hB4 ?_
  clear hK K
  have hb4 := stepB hb3 hB4
  clear hB4 hb3 hR3
  first | rw [HQ.out] | rw [decide_eq_true (rfl : stL (rhL f) = stL (rhL f))]
  try simp only [Act.put, List.setIfInBounds_toArray, List.set_cons_zero, List.set_cons_succ]
  refine wpG_take (i := 7) (oi := { dst := some 12, op := Op.pick (Operand.tmp 6) (Operand.tmp 11) (Operand.const (Value.bool false)), type := 4, pos := "law.go:31", after := #[{ on := 1, ground := Ground.data }, { on := 6, ground := Ground.data }], guard := none }) (v := ?_) rfl (by kernel_rfl) (by kernel_rfl) (by kernel_rfl) (by rfl) ?_ ?_
  rotate_left
  · intro W hW; first | (go_simp; done) | (go_simp; with_reducible rfl)
  try simp only [Act.put, List.setIfInBounds_toArray, List.set_cons_zero, List.set_cons_succ]
  refine wpG_take (i := 8) (oi := { dst := some 2, op := Op.assign (Operand.tmp 12), type := 4, pos := "law.go:31", after := #[{ on := 7, ground := Ground.data }, { on := 6, ground := Ground.chain }, { on := 0, ground := Ground.phase }, { on := 1, ground := Ground.phase }, { on := 2, ground := Ground.phase }, { on := 3, ground := Ground.phase }, { on := 4, ground := Ground.phase }, { on := 5, ground := Ground.phase }, { on := 6, ground := Ground.phase }, { on := 7, ground := Ground.phase }], guard := none }) (v := ?_) rfl (by kernel_rfl) (by kernel_rfl) (by kernel_rfl) (by rfl) ?_ ?_
  rotate_left
  · intro W hW; first | (go_simp; done) | (go_simp; with_reducible rfl)
  try simp only [Act.put, List.setIfInBounds_toArray, List.set_cons_zero, List.set_cons_succ]
  refine wpG_done (by kernel_rfl) ?_

  go_wp2
  go_ret
  exact ⟨rfl, hb4⟩
end Go.Proofs.YtiffdfpkfcielaaDoor
