/- What the law KeccakOnes answers at every state: the walk. -/
import Derived.Test.YtiffdfpkfcielabDoorOnesF
import Derived.Test.YtiffdfpkfcielabDoorArr3
import Derived.Test.YtiffdfpkfcielabDoorReg
namespace Go.Proofs.YtiffdfpkfcielabDoor
open Go.ChangeShapes Go.WideShapes Go.ChangeAt Go.RowKit
set_option linter.unusedSimpArgs false
set_option linter.unusedVariables false

set_option maxRecDepth 100000 in
set_option maxHeartbeats 4000000 in
theorem keccakOnes_walk (f : Nat → Nat) (hf : ∀ i, f i < 18446744073709551616) (w : World) (ht : Tabs w) :
    Calls Tryd.prog 6 #[.agg ((stL f).map (Value.int .u64)).toArray] w fun e w' => e = .returned (.bool true) ∧ Below w.heap.size w w' := by
  have HF : Hid (∀ i, f i < 18446744073709551616) := hf
  have HZ : Hid (decide (stL (chL (piF (rhL (thL fun _ => 0)))) = stL (fun _ => 0)) = true) := decide_eq_true (stL_congr fun k hk => noughts_kept k)
  clear hf
  go_enter Tryd.func6, Tryd.ntmps6
  go_wp2_with fail
  have r0 : RowAt .u64 23 w.heap.size 25 (stL f) (w.alloc (.cells ((stL f).map (Value.int .u64)).toArray 23)) := RowAt.fresh (stL f) rfl rfl (stL_length f).symm (stL_ne f) max25
  have hb0 : Below w.heap.size w (w.alloc (.cells ((stL f).map (Value.int .u64)).toArray 23)) := growB _
  have t0 := ht.kept hb0
  generalize w.alloc (.cells ((stL f).map (Value.int .u64)).toArray 23) = W at r0 hb0 t0
  refine (awake_any _ t0).mono ?_
  rintro e w1 ⟨rfl, hB⟩
  have r1 := r0.kept hB
  have t1 := t0.kept hB
  have hb1 := stepB hb0 hB
  clear r0 hb0 t0 hB ht
  go_wp2_with (refine wpList_load_row rfl 23 _ rfl rfl r1 _ Tryd.underlying23 rfl (arrInfo _) ?_)
  refine (ones_any _ f HF.out rfl _).mono ?_
  rintro e w2 ⟨rfl, hB⟩
  have r2 := r1.kept hB
  have t2 := t1.kept hB
  have hb2 := stepB hb1 hB
  clear r1 t1 hb1 hB
  have rz0 : RowAt .u64 23 w2.heap.size 25 (stL fun _ => 0) (w2.alloc (.cells #[Value.int .u64 0, .int .u64 0, .int .u64 0, .int .u64 0, .int .u64 0, .int .u64 0, .int .u64 0, .int .u64 0, .int .u64 0, .int .u64 0, .int .u64 0, .int .u64 0, .int .u64 0, .int .u64 0, .int .u64 0, .int .u64 0, .int .u64 0, .int .u64 0, .int .u64 0, .int .u64 0, .int .u64 0, .int .u64 0, .int .u64 0, .int .u64 0, .int .u64 0] 23)) := RowAt.fresh _ zeros25 rfl (stL_length _).symm (stL_ne _) max25
  have g := growB (w := w2) (.cells #[Value.int .u64 0, .int .u64 0, .int .u64 0, .int .u64 0, .int .u64 0, .int .u64 0, .int .u64 0, .int .u64 0, .int .u64 0, .int .u64 0, .int .u64 0, .int .u64 0, .int .u64 0, .int .u64 0, .int .u64 0, .int .u64 0, .int .u64 0, .int .u64 0, .int .u64 0, .int .u64 0, .int .u64 0, .int .u64 0, .int .u64 0, .int .u64 0, .int .u64 0] 23)
  have ra0 := r2.kept g
  have t0 := t2.kept g
  have hb0 := stepB hb2 g
  go_wp2_with fail
  clear r2 t2 hb2 g
  generalize w2.alloc (.cells #[Value.int .u64 0, .int .u64 0, .int .u64 0, .int .u64 0, .int .u64 0, .int .u64 0, .int .u64 0, .int .u64 0, .int .u64 0, .int .u64 0, .int .u64 0, .int .u64 0, .int .u64 0, .int .u64 0, .int .u64 0, .int .u64 0, .int .u64 0, .int .u64 0, .int .u64 0, .int .u64 0, .int .u64 0, .int .u64 0, .int .u64 0, .int .u64 0, .int .u64 0] 23) = w3 at rz0 ra0 t0 hb0
  have rz1 := rz0.drew
  have ra1 := ra0.drew
  have t1 := t0.kept (Below.refl _ _).drew
  have hb1 := hb0.drew
  clear rz0 ra0 t0 hb0
  refine wpG_begin (by kernel_rfl) ?_
  refine wpG_take (i := 0) (oi := { dst := some 11, op := Op.load 23 (Operand.tmp 1), type := 23, pos := "law.go:116", after := #[], guard := none }) (v := ?_) rfl (by kernel_rfl) (by kernel_rfl) (by kernel_rfl) (by rfl) ?_ ?_
  rotate_left
  · intro W hW; refine Eq.trans (exec_load_row' 23 _ (by rfl) (by rfl) ra1 hW _ Tryd.underlying23 rfl (arrInfo _)) ?_; with_reducible rfl
  try simp only [Act.put, List.setIfInBounds_toArray, List.set_cons_zero, List.set_cons_succ]
  refine wpG_take (i := 3) (oi := { dst := some 14, op := Op.move (Operand.tmp 4), type := 3, pos := "law.go:116", after := #[], guard := none }) (v := ?_) rfl (by kernel_rfl) (by kernel_rfl) (by kernel_rfl) (by rfl) ?_ ?_
  rotate_left
  · intro W hW; first | (go_simp; done) | (go_simp; with_reducible rfl)
  try simp only [Act.put, List.setIfInBounds_toArray, List.set_cons_zero, List.set_cons_succ]
  refine wpG_do (i := 1) (o := { dst := some 12, op := Op.call { callee := Callee.value (Operand.func 13), args := #[Operand.tmp 11], argTypes := #[23] }, type := 23, pos := "law.go:116", after := #[{ on := 0, ground := Ground.data }], guard := none }) (by kernel_rfl) rfl (by rfl) fun K hK => ?_
  go_simp
  refine (kRho_any _ f HF.out rfl _ t1).mono ?_
  rintro e x2 ⟨rfl, hB2⟩
  refine hK.out _ _ hB2 ?_
  clear hK K
  have ra2 := ra1.kept hB2
  have rz2 := rz1.kept hB2
  have t2 := t1.kept hB2
  have hb2 := stepB hb1 hB2
  clear hB2 ra1 rz1 t1 hb1
  try simp only [Act.put, List.setIfInBounds_toArray, List.set_cons_zero, List.set_cons_succ]
  refine wpG_do (i := 2) (o := { dst := some 13, op := Op.call { callee := Callee.value (Operand.func 17), args := #[Operand.tmp 12], argTypes := #[23] }, type := 3, pos := "law.go:116", after := #[{ on := 1, ground := Ground.data }, { on := 1, ground := Ground.chain }], guard := none }) (by kernel_rfl) rfl (by rfl) fun K hK => ?_
  go_simp
  refine (ones_any _ (rhL f) (rhL_lt f HF.out) rfl _).mono ?_
  rintro e x3 ⟨rfl, hB3⟩
  refine hK.out _ _ hB3 ?_
  clear hK K
  have ra3 := ra2.kept hB3
  have rz3 := rz2.kept hB3
  have t3 := t2.kept hB3
  have hb3 := stepB hb2 hB3
  clear hB3 ra2 rz2 t2 hb2
  rw [pcs_rho f HF.out]
  try simp only [Act.put, List.setIfInBounds_toArray, List.set_cons_zero, List.set_cons_succ]
  refine wpG_take (i := 4) (oi := { dst := some 15, op := Op.binOp BinOp.eql 3 (Operand.tmp 13) (Operand.tmp 14) 3, type := 4, pos := "law.go:116", after := #[{ on := 2, ground := Ground.data }, { on := 3, ground := Ground.data }], guard := none }) (v := ?_) rfl (by kernel_rfl) (by kernel_rfl) (by kernel_rfl) (by rfl) ?_ ?_
  rotate_left
  · intro W hW; first | (go_simp; done) | (go_simp; with_reducible rfl)
  try simp only [Act.put, List.setIfInBounds_toArray, List.set_cons_zero, List.set_cons_succ]
  refine wpG_take (i := 5) (oi := { dst := some 16, op := Op.move (Operand.tmp 15), type := 4, pos := "law.go:116", after := #[{ on := 4, ground := Ground.data }, { on := 2, ground := Ground.chain }], guard := none }) (v := ?_) rfl (by kernel_rfl) (by kernel_rfl) (by kernel_rfl) (by rfl) ?_ ?_
  rotate_left
  · intro W hW; first | (go_simp; done) | (go_simp; with_reducible rfl)
  try simp only [Act.put, List.setIfInBounds_toArray, List.set_cons_zero, List.set_cons_succ]
  refine wpG_take (i := 6) (oi := { dst := some 17, op := Op.load 23 (Operand.tmp 1), type := 23, pos := "law.go:116", after := #[{ on := 5, ground := Ground.guard }], guard := some (5, true) }) (v := ?_) rfl (by kernel_rfl) (by kernel_rfl) (by kernel_rfl) (by rfl) ?_ ?_
  rotate_left
  · intro W hW; refine Eq.trans (exec_load_row' 23 _ (by rfl) (by rfl) ra3 hW _ Tryd.underlying23 rfl (arrInfo _)) ?_; with_reducible rfl
  try simp only [Act.put, List.setIfInBounds_toArray, List.set_cons_zero, List.set_cons_succ]
  refine wpG_take (i := 9) (oi := { dst := some 20, op := Op.move (Operand.tmp 4), type := 3, pos := "law.go:116", after := #[{ on := 5, ground := Ground.guard }], guard := some (5, true) }) (v := ?_) rfl (by kernel_rfl) (by kernel_rfl) (by kernel_rfl) (by rfl) ?_ ?_
  rotate_left
  · intro W hW; first | (go_simp; done) | (go_simp; with_reducible rfl)
  try simp only [Act.put, List.setIfInBounds_toArray, List.set_cons_zero, List.set_cons_succ]
  refine wpG_do (i := 7) (o := { dst := some 18, op := Op.call { callee := Callee.value (Operand.func 14), args := #[Operand.tmp 17], argTypes := #[23] }, type := 23, pos := "law.go:116", after := #[{ on := 6, ground := Ground.data }, { on := 5, ground := Ground.chain }, { on := 5, ground := Ground.guard }], guard := some (5, true) }) (by kernel_rfl) rfl (by rfl) fun K hK => ?_
  go_simp
  refine (kPi_any _ f HF.out rfl _ t3).mono ?_
  rintro e x4 ⟨rfl, hB4⟩
  refine hK.out _ _ hB4 ?_
  clear hK K
  have ra4 := ra3.kept hB4
  have rz4 := rz3.kept hB4
  have t4 := t3.kept hB4
  have hb4 := stepB hb3 hB4
  clear hB4 ra3 rz3 t3 hb3
  try simp only [Act.put, List.setIfInBounds_toArray, List.set_cons_zero, List.set_cons_succ]
  refine wpG_do (i := 8) (o := { dst := some 19, op := Op.call { callee := Callee.value (Operand.func 17), args := #[Operand.tmp 18], argTypes := #[23] }, type := 3, pos := "law.go:116", after := #[{ on := 7, ground := Ground.data }, { on := 7, ground := Ground.chain }, { on := 5, ground := Ground.guard }], guard := some (5, true) }) (by kernel_rfl) rfl (by rfl) fun K hK => ?_
  go_simp
  refine (ones_any _ (piF f) (piF_lt f HF.out) rfl _).mono ?_
  rintro e x5 ⟨rfl, hB5⟩
  refine hK.out _ _ hB5 ?_
  clear hK K
  have ra5 := ra4.kept hB5
  have rz5 := rz4.kept hB5
  have t5 := t4.kept hB5
  have hb5 := stepB hb4 hB5
  clear hB5 ra4 rz4 t4 hb4
  rw [pcs_pi f]
  try simp only [Act.put, List.setIfInBounds_toArray, List.set_cons_zero, List.set_cons_succ]
  refine wpG_take (i := 10) (oi := { dst := some 21, op := Op.binOp BinOp.eql 3 (Operand.tmp 19) (Operand.tmp 20) 3, type := 4, pos := "law.go:116", after := #[{ on := 8, ground := Ground.data }, { on := 9, ground := Ground.data }, { on := 5, ground := Ground.guard }], guard := some (5, true) }) (v := ?_) rfl (by kernel_rfl) (by kernel_rfl) (by kernel_rfl) (by rfl) ?_ ?_
  rotate_left
  · intro W hW; first | (go_simp; done) | (go_simp; with_reducible rfl)
  try simp only [Act.put, List.setIfInBounds_toArray, List.set_cons_zero, List.set_cons_succ]
  refine wpG_take (i := 11) (oi := { dst := some 22, op := Op.pick (Operand.tmp 16) (Operand.tmp 21) (Operand.const (Value.bool false)), type := 4, pos := "law.go:116", after := #[{ on := 5, ground := Ground.data }, { on := 10, ground := Ground.data }], guard := none }) (v := ?_) rfl (by kernel_rfl) (by kernel_rfl) (by kernel_rfl) (by rfl) ?_ ?_
  rotate_left
  · intro W hW; first | (go_simp; done) | (go_simp; with_reducible rfl)
  try simp only [Act.put, List.setIfInBounds_toArray, List.set_cons_zero, List.set_cons_succ]
  refine wpG_take (i := 12) (oi := { dst := some 23, op := Op.move (Operand.tmp 22), type := 4, pos := "law.go:116", after := #[{ on := 11, ground := Ground.data }, { on := 8, ground := Ground.chain }], guard := none }) (v := ?_) rfl (by kernel_rfl) (by kernel_rfl) (by kernel_rfl) (by rfl) ?_ ?_
  rotate_left
  · intro W hW; first | (go_simp; done) | (go_simp; with_reducible rfl)
  try simp only [Act.put, List.setIfInBounds_toArray, List.set_cons_zero, List.set_cons_succ]
  refine wpG_take (i := 13) (oi := { dst := some 24, op := Op.load 23 (Operand.tmp 5), type := 23, pos := "law.go:116", after := #[{ on := 12, ground := Ground.guard }], guard := some (12, true) }) (v := ?_) rfl (by kernel_rfl) (by kernel_rfl) (by kernel_rfl) (by rfl) ?_ ?_
  rotate_left
  · intro W hW; refine Eq.trans (exec_load_row' 23 _ (by rfl) (by rfl) rz5 hW _ Tryd.underlying23 rfl (arrInfo _)) ?_; with_reducible rfl
  try simp only [Act.put, List.setIfInBounds_toArray, List.set_cons_zero, List.set_cons_succ]
  refine wpG_take (i := 18) (oi := { dst := some 29, op := Op.load 23 (Operand.tmp 5), type := 23, pos := "law.go:116", after := #[{ on := 12, ground := Ground.guard }], guard := some (12, true) }) (v := ?_) rfl (by kernel_rfl) (by kernel_rfl) (by kernel_rfl) (by rfl) ?_ ?_
  rotate_left
  · intro W hW; refine Eq.trans (exec_load_row' 23 _ (by rfl) (by rfl) rz5 hW _ Tryd.underlying23 rfl (arrInfo _)) ?_; with_reducible rfl
  try simp only [Act.put, List.setIfInBounds_toArray, List.set_cons_zero, List.set_cons_succ]
  refine wpG_do (i := 14) (o := { dst := some 25, op := Op.call { callee := Callee.value (Operand.func 12), args := #[Operand.tmp 24], argTypes := #[23] }, type := 23, pos := "law.go:116", after := #[{ on := 13, ground := Ground.data }, { on := 12, ground := Ground.chain }, { on := 12, ground := Ground.guard }], guard := some (12, true) }) (by kernel_rfl) rfl (by rfl) fun K hK => ?_
  go_simp
  refine (kTheta_any _ (fun _ => 0) (fun _ => by decide) rfl _ t5).mono ?_
  rintro e x6 ⟨rfl, hB6⟩
  refine hK.out _ _ hB6 ?_
  clear hK K
  have ra6 := ra5.kept hB6
  have rz6 := rz5.kept hB6
  have t6 := t5.kept hB6
  have hb6 := stepB hb5 hB6
  clear hB6 ra5 rz5 t5 hb5
  try simp only [Act.put, List.setIfInBounds_toArray, List.set_cons_zero, List.set_cons_succ]
  refine wpG_do (i := 15) (o := { dst := some 26, op := Op.call { callee := Callee.value (Operand.func 13), args := #[Operand.tmp 25], argTypes := #[23] }, type := 23, pos := "law.go:116", after := #[{ on := 14, ground := Ground.data }, { on := 14, ground := Ground.chain }, { on := 12, ground := Ground.guard }], guard := some (12, true) }) (by kernel_rfl) rfl (by rfl) fun K hK => ?_
  go_simp
  refine (kRho_any _ (thL fun _ => 0) (thL_lt _ fun _ => by decide) rfl _ t6).mono ?_
  rintro e x7 ⟨rfl, hB7⟩
  refine hK.out _ _ hB7 ?_
  clear hK K
  have ra7 := ra6.kept hB7
  have rz7 := rz6.kept hB7
  have t7 := t6.kept hB7
  have hb7 := stepB hb6 hB7
  clear hB7 ra6 rz6 t6 hb6
  try simp only [Act.put, List.setIfInBounds_toArray, List.set_cons_zero, List.set_cons_succ]
  refine wpG_do (i := 16) (o := { dst := some 27, op := Op.call { callee := Callee.value (Operand.func 14), args := #[Operand.tmp 26], argTypes := #[23] }, type := 23, pos := "law.go:116", after := #[{ on := 15, ground := Ground.data }, { on := 15, ground := Ground.chain }, { on := 12, ground := Ground.guard }], guard := some (12, true) }) (by kernel_rfl) rfl (by rfl) fun K hK => ?_
  go_simp
  refine (kPi_any _ (rhL (thL fun _ => 0)) (rhL_lt _ (thL_lt _ fun _ => by decide)) rfl _ t7).mono ?_
  rintro e x8 ⟨rfl, hB8⟩
  refine hK.out _ _ hB8 ?_
  clear hK K
  have ra8 := ra7.kept hB8
  have rz8 := rz7.kept hB8
  have t8 := t7.kept hB8
  have hb8 := stepB hb7 hB8
  clear hB8 ra7 rz7 t7 hb7
  try simp only [Act.put, List.setIfInBounds_toArray, List.set_cons_zero, List.set_cons_succ]
  refine wpG_do (i := 17) (o := { dst := some 28, op := Op.call { callee := Callee.value (Operand.func 18), args := #[Operand.tmp 27], argTypes := #[23] }, type := 23, pos := "law.go:116", after := #[{ on := 16, ground := Ground.data }, { on := 16, ground := Ground.chain }, { on := 12, ground := Ground.guard }], guard := some (12, true) }) (by kernel_rfl) rfl (by rfl) fun K hK => ?_
  go_simp
  refine (kChi_any _ (piF (rhL (thL fun _ => 0))) (piF_lt _ (rhL_lt _ (thL_lt _ fun _ => by decide))) rfl _ t8).mono ?_
  rintro e x9 ⟨rfl, hB9⟩
  refine hK.out _ _ hB9 ?_
  clear hK K
  have ra9 := ra8.kept hB9
  have rz9 := rz8.kept hB9
  have t9 := t8.kept hB9
  have hb9 := stepB hb8 hB9
  clear hB9 ra8 rz8 t8 hb8
  try simp only [Act.put, List.setIfInBounds_toArray, List.set_cons_zero, List.set_cons_succ]
  refine wpG_take (i := 19) (oi := { dst := some 30, op := Op.binOp BinOp.eql 23 (Operand.tmp 28) (Operand.tmp 29) 23, type := 4, pos := "law.go:116", after := #[{ on := 17, ground := Ground.data }, { on := 18, ground := Ground.data }, { on := 12, ground := Ground.guard }], guard := some (12, true) }) (v := ?_) rfl (by kernel_rfl) (by kernel_rfl) (by kernel_rfl) (by rfl) ?_ ?_
  rotate_left
  · intro W hW; have hq := eq_states (chL (piF (rhL (thL fun _ => 0)))) (fun _ => 0) _ _ rfl rfl W; rw [HZ.out] at hq; first | (go_simp; done) | (go_simp; with_reducible rfl)
  try simp only [Act.put, List.setIfInBounds_toArray, List.set_cons_zero, List.set_cons_succ]
  refine wpG_take (i := 20) (oi := { dst := some 31, op := Op.pick (Operand.tmp 23) (Operand.tmp 30) (Operand.const (Value.bool false)), type := 4, pos := "law.go:116", after := #[{ on := 12, ground := Ground.data }, { on := 19, ground := Ground.data }], guard := none }) (v := ?_) rfl (by kernel_rfl) (by kernel_rfl) (by kernel_rfl) (by rfl) ?_ ?_
  rotate_left
  · intro W hW; first | (go_simp; done) | (go_simp; with_reducible rfl)
  try simp only [Act.put, List.setIfInBounds_toArray, List.set_cons_zero, List.set_cons_succ]
  refine wpG_take (i := 21) (oi := { dst := some 2, op := Op.assign (Operand.tmp 31), type := 4, pos := "law.go:116", after := #[{ on := 20, ground := Ground.data }, { on := 17, ground := Ground.chain }, { on := 0, ground := Ground.phase }, { on := 1, ground := Ground.phase }, { on := 2, ground := Ground.phase }, { on := 3, ground := Ground.phase }, { on := 4, ground := Ground.phase }, { on := 5, ground := Ground.phase }, { on := 6, ground := Ground.phase }, { on := 7, ground := Ground.phase }, { on := 8, ground := Ground.phase }, { on := 9, ground := Ground.phase }, { on := 10, ground := Ground.phase }, { on := 11, ground := Ground.phase }, { on := 12, ground := Ground.phase }, { on := 13, ground := Ground.phase }, { on := 14, ground := Ground.phase }, { on := 15, ground := Ground.phase }, { on := 16, ground := Ground.phase }, { on := 17, ground := Ground.phase }, { on := 18, ground := Ground.phase }, { on := 19, ground := Ground.phase }, { on := 20, ground := Ground.phase }], guard := none }) (v := ?_) rfl (by kernel_rfl) (by kernel_rfl) (by kernel_rfl) (by rfl) ?_ ?_
  rotate_left
  · intro W hW; first | (go_simp; done) | (go_simp; with_reducible rfl)
  try simp only [Act.put, List.setIfInBounds_toArray, List.set_cons_zero, List.set_cons_succ]
  refine wpG_done (by kernel_rfl) ?_

  go_wp2
  go_ret
  exact ⟨rfl, hb9⟩
end Go.Proofs.YtiffdfpkfcielabDoor
