/- What the law KeccakRound answers at every state: the walk. -/
import Derived.Test.YtiffdfpkfcielaaDoorK02f
import Derived.Test.YtiffdfpkfcielaaDoorRef02s
import Derived.Test.YtiffdfpkfcielaaDoorArr3
import Derived.Test.YtiffdfpkfcielaaDoorReg
import Derived.Test.YtiffdfpkfcielaaDoorRef02e
namespace Go.Proofs.YtiffdfpkfcielaaDoor
open Go.ChangeShapes Go.WideShapes Go.ChangeAt Go.RowKit
set_option linter.unusedSimpArgs false
set_option linter.unusedVariables false

set_option maxRecDepth 100000 in
set_option maxHeartbeats 1000000 in
theorem keccakRound_walk (f : Nat → Nat) (hf : ∀ i, f i < 18446744073709551616) (r : Int) (w : World) (ht : Tabs w) :
    Calls Tryd.prog 8 #[.agg ((stL f).map (Value.int .u64)).toArray, .int .i64 r] w fun e w' => e = .returned (.bool true) ∧ Below w.heap.size w w' := by
  have HF : Hid (∀ i, f i < 18446744073709551616) := hf
  have HQ : Hid (decide (stL (rdLI f r) = stL (rdI f r)) = true) := decide_eq_true (stL_congr fun k hk => rdLI_eq f HF.out r k hk)
  clear hf
  go_enter Tryd.func8, Tryd.ntmps8
  go_wp2_with fail
  have r0 : RowAt .u64 23 w.heap.size 25 (stL f) (w.alloc (.cells ((stL f).map (Value.int .u64)).toArray 23)) := RowAt.fresh (stL f) rfl rfl (stL_length f).symm (stL_ne f) max25
  have hb0 : Below w.heap.size w (w.alloc (.cells ((stL f).map (Value.int .u64)).toArray 23)) := growB _
  have t0 := ht.kept hb0
  generalize w.alloc (.cells ((stL f).map (Value.int .u64)).toArray 23) = W at r0 hb0 t0
  refine (awake_any _ t0).mono ?_
  rintro e w1 ⟨rfl, hB⟩
  have r1 := (r0.kept hB).drew
  have t1 := (t0.kept hB).kept (Below.refl _ _).drew
  have hb1 := (stepB hb0 hB).drew
  have hrd1 := r1.rd
  rw [stL_length] at hrd1
  clear r0 hb0 t0 hB ht
  go_wp2_with fail
  refine wpG_begin (by kernel_rfl) ?_
  refine wpG_take (i := 0) (oi := { dst := some 7, op := Op.move (Operand.tmp 5), type := 4, pos := "law.go:55", after := #[], guard := none }) (v := ?_) rfl (by kernel_rfl) (by kernel_rfl) (by kernel_rfl) (by rfl) ?_ ?_
  rotate_left
  · intro W hW; first | (go_simp; done) | (go_simp; with_reducible rfl)
  try simp only [Act.put, List.setIfInBounds_toArray, List.set_cons_zero, List.set_cons_succ]
  refine wpG_take (i := 1) (oi := { dst := some 8, op := Op.move (Operand.tmp 7), type := 4, pos := "law.go:55", after := #[{ on := 0, ground := Ground.data }], guard := none }) (v := ?_) rfl (by kernel_rfl) (by kernel_rfl) (by kernel_rfl) (by rfl) ?_ ?_
  rotate_left
  · intro W hW; first | (go_simp; done) | (go_simp; with_reducible rfl)
  try simp only [Act.put, List.setIfInBounds_toArray, List.set_cons_zero, List.set_cons_succ]
  refine wpG_take (i := 2) (oi := { dst := some 9, op := Op.load 23 (Operand.tmp 2), type := 23, pos := "law.go:55", after := #[{ on := 1, ground := Ground.guard }], guard := some (1, true) }) (v := ?_) rfl (by kernel_rfl) (by kernel_rfl) (by kernel_rfl) (by rfl) ?_ ?_
  rotate_left
  · intro W hW; refine Eq.trans (exec_load_row' 23 _ (by rfl) (by rfl) r1 hW _ Tryd.underlying23 rfl (arrInfo _)) ?_; with_reducible rfl
  try simp only [Act.put, List.setIfInBounds_toArray, List.set_cons_zero, List.set_cons_succ]
  refine wpG_take (i := 3) (oi := { dst := some 10, op := Op.move (Operand.tmp 1), type := 3, pos := "law.go:55", after := #[{ on := 1, ground := Ground.guard }], guard := some (1, true) }) (v := ?_) rfl (by kernel_rfl) (by kernel_rfl) (by kernel_rfl) (by rfl) ?_ ?_
  rotate_left
  · intro W hW; first | (go_simp; done) | (go_simp; with_reducible rfl)
  try simp only [Act.put, List.setIfInBounds_toArray, List.set_cons_zero, List.set_cons_succ]
  refine wpG_take (i := 5) (oi := { dst := some 12, op := Op.slice 23 (Operand.tmp 2) none none none, type := 27, pos := "law.go:55", after := #[{ on := 1, ground := Ground.guard }], guard := some (1, true) }) (v := ?_) rfl (by kernel_rfl) (by kernel_rfl) (by kernel_rfl) (by rfl) ?_ ?_
  rotate_left
  · intro W hW; first | (go_simp; done) | (go_simp; with_reducible rfl)
  try simp only [Act.put, List.setIfInBounds_toArray, List.set_cons_zero, List.set_cons_succ]
  refine wpG_take (i := 6) (oi := { dst := some 13, op := Op.move (Operand.tmp 1), type := 3, pos := "law.go:55", after := #[{ on := 1, ground := Ground.guard }], guard := some (1, true) }) (v := ?_) rfl (by kernel_rfl) (by kernel_rfl) (by kernel_rfl) (by rfl) ?_ ?_
  rotate_left
  · intro W hW; first | (go_simp; done) | (go_simp; with_reducible rfl)
  try simp only [Act.put, List.setIfInBounds_toArray, List.set_cons_zero, List.set_cons_succ]
  refine wpG_do (i := 4) (o := { dst := some 11, op := Op.call { callee := Callee.value (Operand.func 21), args := #[Operand.tmp 9, Operand.tmp 10], argTypes := #[23, 3] }, type := 23, pos := "law.go:55", after := #[{ on := 2, ground := Ground.data }, { on := 3, ground := Ground.data }, { on := 1, ground := Ground.chain }, { on := 1, ground := Ground.guard }], guard := some (1, true) }) (by kernel_rfl) rfl (by rfl) fun K hK => ?_
  go_simp
  refine (kRound_any _ f HF.out rfl _ _ t1).mono ?_
  rintro e w2 ⟨rfl, hB2⟩
  refine hK.out _ _ hB2 ?_
  clear hK K
  have hrd2 := hrd1.kept hB2
  have hb2 := stepB hb1 hB2
  clear hB2 hrd1 hb1 t1
  try simp only [Act.put, List.setIfInBounds_toArray, List.set_cons_zero, List.set_cons_succ]
  refine wpG_do (i := 7) (o := { dst := some 14, op := Op.call { callee := Callee.value (Operand.func 22), args := #[Operand.tmp 12, Operand.tmp 13], argTypes := #[27, 3] }, type := 27, pos := "law.go:55", after := #[{ on := 5, ground := Ground.data }, { on := 6, ground := Ground.data }, { on := 4, ground := Ground.chain }, { on := 1, ground := Ground.guard }], guard := some (1, true) }) (by kernel_rfl) rfl (by rfl) fun K hK => ?_
  go_simp
  refine (round_any _ f HF.out _ _ hrd2).mono ?_
  rintro e w3 ⟨v3, rfl, hR3, hB3⟩
  refine hK.out _ _ hB3 ?_
  clear hK K
  have hb3 := stepB hb2 hB3
  clear hB3 hrd2 hb2
  try simp only [Act.put, List.setIfInBounds_toArray, List.set_cons_zero, List.set_cons_succ]
  refine wpG_do (i := 8) (o := { dst := some 15, op := Op.call { callee := Callee.value (Operand.func 10), args := #[Operand.tmp 11, Operand.tmp 14], argTypes := #[23, 27] }, type := 4, pos := "law.go:55", after := #[{ on := 4, ground := Ground.data }, { on := 7, ground := Ground.data }, { on := 7, ground := Ground.chain }, { on := 1, ground := Ground.guard }], guard := some (1, true) }) (by kernel_rfl) rfl (by rfl) fun K hK => ?_
  go_simp
  refine (same_any _ (rdLI f r) _ rfl _ _ hR3).mono ?_
  rintro e w4 ⟨rfl, hB4⟩
  refine hK.out _ _ hB4 ?_
  clear hK K
  have hb4 := stepB hb3 hB4
  clear hB4 hb3 hR3
  first | rw [HQ.out] | rw [decide_eq_true (rfl : stL (rdLI f r) = stL (rdLI f r))]
  try simp only [Act.put, List.setIfInBounds_toArray, List.set_cons_zero, List.set_cons_succ]
  refine wpG_take (i := 9) (oi := { dst := some 16, op := Op.pick (Operand.tmp 8) (Operand.tmp 15) (Operand.const (Value.bool false)), type := 4, pos := "law.go:55", after := #[{ on := 1, ground := Ground.data }, { on := 8, ground := Ground.data }], guard := none }) (v := ?_) rfl (by kernel_rfl) (by kernel_rfl) (by kernel_rfl) (by rfl) ?_ ?_
  rotate_left
  · intro W hW; first | (go_simp; done) | (go_simp; with_reducible rfl)
  try simp only [Act.put, List.setIfInBounds_toArray, List.set_cons_zero, List.set_cons_succ]
  refine wpG_take (i := 10) (oi := { dst := some 4, op := Op.assign (Operand.tmp 16), type := 4, pos := "law.go:55", after := #[{ on := 9, ground := Ground.data }, { on := 8, ground := Ground.chain }, { on := 0, ground := Ground.phase }, { on := 1, ground := Ground.phase }, { on := 2, ground := Ground.phase }, { on := 3, ground := Ground.phase }, { on := 4, ground := Ground.phase }, { on := 5, ground := Ground.phase }, { on := 6, ground := Ground.phase }, { on := 7, ground := Ground.phase }, { on := 8, ground := Ground.phase }, { on := 9, ground := Ground.phase }], guard := none }) (v := ?_) rfl (by kernel_rfl) (by kernel_rfl) (by kernel_rfl) (by rfl) ?_ ?_
  rotate_left
  · intro W hW; first | (go_simp; done) | (go_simp; with_reducible rfl)
  try simp only [Act.put, List.setIfInBounds_toArray, List.set_cons_zero, List.set_cons_succ]
  refine wpG_done (by kernel_rfl) ?_

  go_wp2
  go_ret
  exact ⟨rfl, hb4⟩
end Go.Proofs.YtiffdfpkfcielaaDoor
