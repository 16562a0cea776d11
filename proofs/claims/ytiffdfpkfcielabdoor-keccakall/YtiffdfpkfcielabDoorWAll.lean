/- What the law KeccakAll answers at every state: the walk. -/
import Derived.Test.YtiffdfpkfcielabDoorK02f
import Derived.Test.YtiffdfpkfcielabDoorRef02s
import Derived.Test.YtiffdfpkfcielabDoorArr3
import Derived.Test.YtiffdfpkfcielabDoorReg
import Derived.Test.YtiffdfpkfcielabDoorRef02h
import Derived.Test.YtiffdfpkfcielabDoorRef02g
namespace Go.Proofs.YtiffdfpkfcielabDoor
open Go.ChangeShapes Go.WideShapes Go.ChangeAt Go.RowKit
set_option linter.unusedSimpArgs false
set_option linter.unusedVariables false

set_option maxRecDepth 100000 in
set_option maxHeartbeats 4000000 in
theorem keccakAll_walk (f : Nat → Nat) (hf : ∀ i, f i < 18446744073709551616) (w : World) (ht : Tabs w) :
    Calls Tryd.prog 3 #[.agg ((stL f).map (Value.int .u64)).toArray] w fun e w' => e = .returned (.bool true) ∧ Below w.heap.size w w' := by
  have HF : Hid (∀ i, f i < 18446744073709551616) := hf
  have HQ : Hid (decide (stL (rdsL f 24) = stL (rdsF f 24)) = true) := decide_eq_true (rdsL_st f hf)
  clear hf
  go_enter Tryd.func3, Tryd.ntmps3
  go_wp2_with fail
  have r0 : RowAt .u64 23 w.heap.size 25 (stL f) (w.alloc (.cells ((stL f).map (Value.int .u64)).toArray 23)) := RowAt.fresh (stL f) rfl rfl (stL_length f).symm (stL_ne f) max25
  have hb0 : Below w.heap.size w (w.alloc (.cells ((stL f).map (Value.int .u64)).toArray 23)) := growB _
  have t0 := ht.kept hb0
  generalize w.alloc (.cells ((stL f).map (Value.int .u64)).toArray 23) = W at r0 hb0 t0
  refine (awake_any _ t0).mono ?_
  rintro e w1 ⟨rfl, hB⟩
  have r1 := (r0.kept hB).drew
  have t1 := (t0.kept hB).kept (Below.refl _ _).drew
  have hb1 := (stepB hb0 hB).drew
  have hrd1 := r1.rd
  rw [stL_length] at hrd1
  clear r0 hb0 t0 hB ht
  go_wp2_with fail
  refine wpG_begin (by kernel_rfl) ?_
  refine wpG_take (i := 0) (oi := { dst := some 5, op := Op.move (Operand.tmp 3), type := 4, pos := "law.go:61", after := #[], guard := none }) (v := ?_) rfl (by kernel_rfl) (by kernel_rfl) (by kernel_rfl) (by rfl) ?_ ?_
  rotate_left
  · intro W hW; first | (go_simp; done) | (go_simp; with_reducible rfl)
  try simp only [Act.put, List.setIfInBounds_toArray, List.set_cons_zero, List.set_cons_succ]
  refine wpG_take (i := 1) (oi := { dst := some 6, op := Op.move (Operand.tmp 5), type := 4, pos := "law.go:61", after := #[{ on := 0, ground := Ground.data }], guard := none }) (v := ?_) rfl (by kernel_rfl) (by kernel_rfl) (by kernel_rfl) (by rfl) ?_ ?_
  rotate_left
  · intro W hW; first | (go_simp; done) | (go_simp; with_reducible rfl)
  try simp only [Act.put, List.setIfInBounds_toArray, List.set_cons_zero, List.set_cons_succ]
  refine wpG_take (i := 2) (oi := { dst := some 7, op := Op.load 23 (Operand.tmp 1), type := 23, pos := "law.go:61", after := #[{ on := 1, ground := Ground.guard }], guard := some (1, true) }) (v := ?_) rfl (by kernel_rfl) (by kernel_rfl) (by kernel_rfl) (by rfl) ?_ ?_
  rotate_left
  · intro W hW; refine Eq.trans (exec_load_row' 23 _ (by rfl) (by rfl) r1 hW _ Tryd.underlying23 rfl (arrInfo _)) ?_; with_reducible rfl
  try simp only [Act.put, List.setIfInBounds_toArray, List.set_cons_zero, List.set_cons_succ]
  refine wpG_take (i := 4) (oi := { dst := some 9, op := Op.slice 23 (Operand.tmp 1) none none none, type := 27, pos := "law.go:61", after := #[{ on := 1, ground := Ground.guard }], guard := some (1, true) }) (v := ?_) rfl (by kernel_rfl) (by kernel_rfl) (by kernel_rfl) (by rfl) ?_ ?_
  rotate_left
  · intro W hW; first | (go_simp; done) | (go_simp; with_reducible rfl)
  try simp only [Act.put, List.setIfInBounds_toArray, List.set_cons_zero, List.set_cons_succ]
  refine wpG_do (i := 3) (o := { dst := some 8, op := Op.call { callee := Callee.value (Operand.func 9), args := #[Operand.tmp 7], argTypes := #[23] }, type := 23, pos := "law.go:61", after := #[{ on := 2, ground := Ground.data }, { on := 1, ground := Ground.chain }, { on := 1, ground := Ground.guard }], guard := some (1, true) }) (by kernel_rfl) rfl (by rfl) fun K hK => ?_
  go_simp
  refine (kF_any _ f HF.out rfl _ t1).mono ?_
  rintro e w2 ⟨rfl, hB2⟩
  refine hK.out _ _ hB2 ?_
  clear hK K
  have r2 := r1.kept hB2
  have t2 := t1.kept hB2
  have hrd2 := hrd1.kept hB2
  have hb2 := stepB hb1 hB2
  clear hB2 hrd1 hb1 t1 r1
  try simp only [Act.put, List.setIfInBounds_toArray, List.set_cons_zero, List.set_cons_succ]
  refine wpG_do (i := 5) (o := { dst := some 10, op := Op.call { callee := Callee.value (Operand.func 10), args := #[Operand.tmp 9], argTypes := #[27] }, type := 27, pos := "law.go:61", after := #[{ on := 4, ground := Ground.data }, { on := 3, ground := Ground.chain }, { on := 1, ground := Ground.guard }], guard := some (1, true) }) (by kernel_rfl) rfl (by rfl) fun K hK => ?_
  go_simp
  refine (all_any _ f HF.out _ hrd2).mono ?_
  rintro e w3 ⟨v3, rfl, hR3, hB3⟩
  refine hK.out _ _ hB3 ?_
  clear hK K
  have r3 := r2.kept hB3
  have t3 := t2.kept hB3
  have hrd3 := hrd2.kept hB3
  have hb3 := stepB hb2 hB3
  clear hB3 hrd2 hb2 t2 r2
  try simp only [Act.put, List.setIfInBounds_toArray, List.set_cons_zero, List.set_cons_succ]
  refine wpG_do (i := 6) (o := { dst := some 11, op := Op.call { callee := Callee.value (Operand.func 8), args := #[Operand.tmp 8, Operand.tmp 10], argTypes := #[23, 27] }, type := 4, pos := "law.go:61", after := #[{ on := 3, ground := Ground.data }, { on := 5, ground := Ground.data }, { on := 5, ground := Ground.chain }, { on := 1, ground := Ground.guard }], guard := some (1, true) }) (by kernel_rfl) rfl (by rfl) fun K hK => ?_
  go_simp
  refine (same_any _ (rdsL f 24) _ rfl _ _ hR3).mono ?_
  rintro e w4 ⟨rfl, hB4⟩
  refine hK.out _ _ hB4 ?_
  clear hK K
  have r4 := r3.kept hB4
  have t4 := t3.kept hB4
  have hrd4 := hrd3.kept hB4
  have hb4 := stepB hb3 hB4
  clear hB4 hR3 hrd3 hb3 t3 r3
  rw [HQ.out]
  try simp only [Act.put, List.setIfInBounds_toArray, List.set_cons_zero, List.set_cons_succ]
  refine wpG_take (i := 7) (oi := { dst := some 12, op := Op.pick (Operand.tmp 6) (Operand.tmp 11) (Operand.const (Value.bool false)), type := 4, pos := "law.go:61", after := #[{ on := 1, ground := Ground.data }, { on := 6, ground := Ground.data }], guard := none }) (v := ?_) rfl (by kernel_rfl) (by kernel_rfl) (by kernel_rfl) (by rfl) ?_ ?_
  rotate_left
  · intro W hW; first | (go_simp; done) | (go_simp; with_reducible rfl)
  try simp only [Act.put, List.setIfInBounds_toArray, List.set_cons_zero, List.set_cons_succ]
  refine wpG_take (i := 8) (oi := { dst := some 13, op := Op.move (Operand.tmp 12), type := 4, pos := "law.go:61", after := #[{ on := 7, ground := Ground.data }, { on := 6, ground := Ground.chain }], guard := none }) (v := ?_) rfl (by kernel_rfl) (by kernel_rfl) (by kernel_rfl) (by rfl) ?_ ?_
  rotate_left
  · intro W hW; first | (go_simp; done) | (go_simp; with_reducible rfl)
  try simp only [Act.put, List.setIfInBounds_toArray, List.set_cons_zero, List.set_cons_succ]
  refine wpG_take (i := 9) (oi := { dst := some 14, op := Op.load 23 (Operand.tmp 1), type := 23, pos := "law.go:61", after := #[{ on := 8, ground := Ground.guard }], guard := some (8, true) }) (v := ?_) rfl (by kernel_rfl) (by kernel_rfl) (by kernel_rfl) (by rfl) ?_ ?_
  rotate_left
  · intro W hW; refine Eq.trans (exec_load_row' 23 _ (by rfl) (by rfl) r4 hW _ Tryd.underlying23 rfl (arrInfo _)) ?_; with_reducible rfl
  try simp only [Act.put, List.setIfInBounds_toArray, List.set_cons_zero, List.set_cons_succ]
  refine wpG_take (i := 11) (oi := { dst := some 16, op := Op.slice 23 (Operand.tmp 1) none none none, type := 27, pos := "law.go:61", after := #[{ on := 8, ground := Ground.guard }], guard := some (8, true) }) (v := ?_) rfl (by kernel_rfl) (by kernel_rfl) (by kernel_rfl) (by rfl) ?_ ?_
  rotate_left
  · intro W hW; first | (go_simp; done) | (go_simp; with_reducible rfl)
  try simp only [Act.put, List.setIfInBounds_toArray, List.set_cons_zero, List.set_cons_succ]
  refine wpG_do (i := 10) (o := { dst := some 15, op := Op.call { callee := Callee.value (Operand.func 9), args := #[Operand.tmp 14], argTypes := #[23] }, type := 23, pos := "law.go:61", after := #[{ on := 9, ground := Ground.data }, { on := 8, ground := Ground.chain }, { on := 8, ground := Ground.guard }], guard := some (8, true) }) (by kernel_rfl) rfl (by rfl) fun K hK => ?_
  go_simp
  refine (kF_any _ f HF.out rfl _ t4).mono ?_
  rintro e w5 ⟨rfl, hB5⟩
  refine hK.out _ _ hB5 ?_
  clear hK K
  have r5 := r4.kept hB5
  have t5 := t4.kept hB5
  have hrd5 := hrd4.kept hB5
  have hb5 := stepB hb4 hB5
  clear hB5 hrd4 hb4 t4 r4
  try simp only [Act.put, List.setIfInBounds_toArray, List.set_cons_zero, List.set_cons_succ]
  refine wpG_do (i := 12) (o := { dst := some 17, op := Op.call { callee := Callee.value (Operand.func 11), args := #[Operand.tmp 16], argTypes := #[27] }, type := 27, pos := "law.go:61", after := #[{ on := 11, ground := Ground.data }, { on := 10, ground := Ground.chain }, { on := 8, ground := Ground.guard }], guard := some (8, true) }) (by kernel_rfl) rfl (by rfl) fun K hK => ?_
  go_simp
  refine (fast_any _ f HF.out _ hrd5).mono ?_
  rintro e w6 ⟨v6, rfl, hN6⟩
  refine hK.out _ _ hN6.2 ?_
  clear hK K
  have hR6 := hN6.rd
  have hb6 := stepB hb5 hN6.2
  clear hN6 hrd5 hb5 t5 r5
  try simp only [Act.put, List.setIfInBounds_toArray, List.set_cons_zero, List.set_cons_succ]
  refine wpG_do (i := 13) (o := { dst := some 18, op := Op.call { callee := Callee.value (Operand.func 8), args := #[Operand.tmp 15, Operand.tmp 17], argTypes := #[23, 27] }, type := 4, pos := "law.go:61", after := #[{ on := 10, ground := Ground.data }, { on := 12, ground := Ground.data }, { on := 12, ground := Ground.chain }, { on := 8, ground := Ground.guard }], guard := some (8, true) }) (by kernel_rfl) rfl (by rfl) fun K hK => ?_
  go_simp
  refine (same_any _ (rdsL f 24) _ rfl _ _ hR6).mono ?_
  rintro e w7 ⟨rfl, hB7⟩
  refine hK.out _ _ hB7 ?_
  clear hK K
  have hb7 := stepB hb6 hB7
  clear hB7 hR6 hb6
  rw [HQ.out]
  try simp only [Act.put, List.setIfInBounds_toArray, List.set_cons_zero, List.set_cons_succ]
  refine wpG_take (i := 14) (oi := { dst := some 19, op := Op.pick (Operand.tmp 13) (Operand.tmp 18) (Operand.const (Value.bool false)), type := 4, pos := "law.go:61", after := #[{ on := 8, ground := Ground.data }, { on := 13, ground := Ground.data }], guard := none }) (v := ?_) rfl (by kernel_rfl) (by kernel_rfl) (by kernel_rfl) (by rfl) ?_ ?_
  rotate_left
  · intro W hW; first | (go_simp; done) | (go_simp; with_reducible rfl)
  try simp only [Act.put, List.setIfInBounds_toArray, List.set_cons_zero, List.set_cons_succ]
  refine wpG_take (i := 15) (oi := { dst := some 2, op := Op.assign (Operand.tmp 19), type := 4, pos := "law.go:61", after := #[{ on := 14, ground := Ground.data }, { on := 13, ground := Ground.chain }, { on := 0, ground := Ground.phase }, { on := 1, ground := Ground.phase }, { on := 2, ground := Ground.phase }, { on := 3, ground := Ground.phase }, { on := 4, ground := Ground.phase }, { on := 5, ground := Ground.phase }, { on := 6, ground := Ground.phase }, { on := 7, ground := Ground.phase }, { on := 8, ground := Ground.phase }, { on := 9, ground := Ground.phase }, { on := 10, ground := Ground.phase }, { on := 11, ground := Ground.phase }, { on := 12, ground := Ground.phase }, { on := 13, ground := Ground.phase }, { on := 14, ground := Ground.phase }], guard := none }) (v := ?_) rfl (by kernel_rfl) (by kernel_rfl) (by kernel_rfl) (by rfl) ?_ ?_
  rotate_left
  · intro W hW; first | (go_simp; done) | (go_simp; with_reducible rfl)
  try simp only [Act.put, List.setIfInBounds_toArray, List.set_cons_zero, List.set_cons_succ]
  refine wpG_done (by kernel_rfl) ?_

  go_wp2
  go_ret
  exact ⟨rfl, hb7⟩
end Go.Proofs.YtiffdfpkfcielabDoor
