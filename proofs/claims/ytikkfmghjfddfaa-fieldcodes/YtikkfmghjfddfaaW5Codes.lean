/- What the law FieldCodes answers at every input: the walk. -/
import Derived.Test.YtikkfmghjfddfaaF05j
namespace Go.Proofs.Ytikkfmghjfddfaa
open Go.ChangeShapes Go.WideShapes Go.ChangeAt Go.RowKit
set_option linter.unusedSimpArgs false
set_option linter.unusedVariables false

set_option maxRecDepth 100000 in
set_option maxHeartbeats 4000000 in
theorem codes_walk (vb : Value) (b : List UInt8) (Aa : Array Value) (a : List Nat) (ha : El4 a) (hA : Aa = ((nI a).map (Value.int .u64)).toArray) (w : World) (hr : Rd w vb b) :
    Calls Try.prog 3 #[vb, .agg Aa] w fun e w' => e = .returned (.bool true) ∧ Below w.heap.size w w' := by
  go_enter Try.func3, Try.ntmps3
  go_wp2_with (refine wpList_box_row (k := .u64) rfl 24 _ rfl (nI a) (by rw [← hA]; rfl) ha.ne (elMax ha) ?_)
  intro w1 ra b1 s1
  rw [ha.len] at ra
  clear s1
  replace hr := hr.kept b1
  have hb := b1
  clear b1 hA
  go_wp2_with fail
  refine (awake_any _).mono ?_
  rintro e wa ⟨rfl, ba⟩
  replace ra := ra.kept ba
  replace hr := hr.kept ba
  replace hb := stepB hb ba
  clear ba
  go_wp2_with fail
  have hB : Below wa.heap.size wa wa.drew := (Below.refl _ _).drew
  refine wpB_begin (Below.refl wa.heap.size wa) (by kernel_rfl) ?_
  refine wpB_take (hb := hB) (i := 0) (oi := { dst := some 9, op := Op.move (Operand.tmp 0), type := 22, pos := "law.go:34", after := #[], guard := none }) (v := ?_) rfl (by kernel_rfl) (by kernel_rfl) (by kernel_rfl) (by rfl) ?_ ?_
  rotate_left
  · intro W hW; first | (go_simp; done) | (go_simp; with_reducible rfl)
  try simp only [Act.put, List.setIfInBounds_toArray, List.set_cons_zero, List.set_cons_succ]
  refine wpB_take (hb := hB) (i := 2) (oi := { dst := some 11, op := Op.move (Operand.tmp 0), type := 22, pos := "law.go:34", after := #[], guard := none }) (v := ?_) rfl (by kernel_rfl) (by kernel_rfl) (by kernel_rfl) (by rfl) ?_ ?_
  rotate_left
  · intro W hW; first | (go_simp; done) | (go_simp; with_reducible rfl)
  try simp only [Act.put, List.setIfInBounds_toArray, List.set_cons_zero, List.set_cons_succ]
  refine wpB_do (i := 1) (o := { dst := some 10, op := Op.call { callee := Callee.value (Operand.func 11), args := #[Operand.tmp 9], argTypes := #[22] }, type := 27, pos := "law.go:34", after := #[{ on := 0, ground := Ground.data }], guard := none }) (by kernel_rfl) rfl (by rfl) fun K hK => ?_
  go_simp
  refine (fdecode_any _ b _ hr.drew).mono ?_
  rintro e w2 ⟨l2, rfl, h2, hv2, b2⟩
  have hr2 := hr.drew.kept b2
  replace hB := stepB hB b2
  refine hK.out _ _ hB ?_
  clear hK K
  try simp only [Act.put, List.setIfInBounds_toArray, List.set_cons_zero, List.set_cons_succ]
  refine wpB_do (i := 3) (o := { dst := some 12, op := Op.call { callee := Callee.value (Operand.func 12), args := #[Operand.tmp 11], argTypes := #[22] }, type := 29, pos := "law.go:34", after := #[{ on := 2, ground := Ground.data }, { on := 1, ground := Ground.chain }], guard := none }) (by kernel_rfl) rfl (by rfl) fun K hK => ?_
  go_simp
  refine (decodeR_any _ b _ hr2).mono ?_
  rintro e w3 ⟨v3, rfl, hR3, b3⟩
  replace hB := stepB hB b3
  refine hK.out _ _ hB ?_
  clear hK K
  try simp only [Act.put, List.setIfInBounds_toArray, List.set_cons_zero, List.set_cons_succ]
  refine wpB_do (i := 4) (o := { dst := some 13, op := Op.call { callee := Callee.value (Operand.func 10), args := #[Operand.tmp 10, Operand.tmp 12], argTypes := #[27, 29] }, type := 4, pos := "law.go:34", after := #[{ on := 1, ground := Ground.data }, { on := 3, ground := Ground.data }, { on := 3, ground := Ground.chain }], guard := none }) (by kernel_rfl) rfl (by rfl) fun K hK => ?_
  go_simp
  refine (is_true _ l2 _ _ h2 (by rw [hv2]) rfl _ hR3).mono ?_
  rintro e w4 ⟨rfl, b4⟩
  replace hB := stepB hB b4
  refine hK.out _ _ hB ?_
  clear hK K
  try simp only [Act.put, List.setIfInBounds_toArray, List.set_cons_zero, List.set_cons_succ]
  refine wpB_take (hb := hB) (i := 5) (oi := { dst := some 14, op := Op.move (Operand.tmp 13), type := 4, pos := "law.go:34", after := #[{ on := 4, ground := Ground.data }, { on := 4, ground := Ground.chain }], guard := none }) (v := ?_) rfl (by kernel_rfl) (by kernel_rfl) (by kernel_rfl) (by rfl) ?_ ?_
  rotate_left
  · intro W hW; first | (go_simp; done) | (go_simp; with_reducible rfl)
  try simp only [Act.put, List.setIfInBounds_toArray, List.set_cons_zero, List.set_cons_succ]
  refine wpB_take (hb := hB) (i := 6) (oi := { dst := some 15, op := Op.load 24 (Operand.tmp 3), type := 24, pos := "law.go:34", after := #[{ on := 5, ground := Ground.guard }], guard := some (5, true) }) (v := ?_) rfl (by kernel_rfl) (by kernel_rfl) (by kernel_rfl) (by rfl) ?_ ?_
  rotate_left
  · intro W hW; refine Eq.trans (exec_load_row' 24 _ (by rfl) (by rfl) ra hW _ Try.underlying24 rfl (arInfo ha)) ?_; with_reducible rfl
  try simp only [Act.put, List.setIfInBounds_toArray, List.set_cons_zero, List.set_cons_succ]
  refine wpB_take (hb := hB) (i := 7) (oi := { dst := some 16, op := Op.load 24 (Operand.tmp 3), type := 24, pos := "law.go:34", after := #[{ on := 5, ground := Ground.guard }], guard := some (5, true) }) (v := ?_) rfl (by kernel_rfl) (by kernel_rfl) (by kernel_rfl) (by rfl) ?_ ?_
  rotate_left
  · intro W hW; refine Eq.trans (exec_load_row' 24 _ (by rfl) (by rfl) ra hW _ Try.underlying24 rfl (arInfo ha)) ?_; with_reducible rfl
  try simp only [Act.put, List.setIfInBounds_toArray, List.set_cons_zero, List.set_cons_succ]
  refine wpB_do (i := 8) (o := { dst := some 17, op := Op.call { callee := Callee.value (Operand.func 13), args := #[Operand.tmp 16], argTypes := #[24] }, type := 29, pos := "law.go:34", after := #[{ on := 7, ground := Ground.data }, { on := 5, ground := Ground.chain }, { on := 5, ground := Ground.guard }], guard := some (5, true) }) (by kernel_rfl) rfl (by rfl) fun K hK => ?_
  go_simp
  refine (numR_any _ a ha.1 ha.2 rfl _).mono ?_
  rintro e w5 ⟨v5, rfl, hR5, b5⟩
  replace hB := stepB hB b5
  refine hK.out _ _ hB ?_
  clear hK K
  try simp only [Act.put, List.setIfInBounds_toArray, List.set_cons_zero, List.set_cons_succ]
  refine wpB_do (i := 9) (o := { dst := some 18, op := Op.call { callee := Callee.value (Operand.func 10), args := #[Operand.tmp 15, Operand.tmp 17], argTypes := #[27, 29] }, type := 4, pos := "law.go:34", after := #[{ on := 6, ground := Ground.data }, { on := 8, ground := Ground.data }, { on := 8, ground := Ground.chain }, { on := 5, ground := Ground.guard }], guard := some (5, true) }) (by kernel_rfl) rfl (by rfl) fun K hK => ?_
  go_simp
  refine (is_true _ a _ _ ha rfl rfl _ hR5).mono ?_
  rintro e w6 ⟨rfl, b6⟩
  replace hB := stepB hB b6
  refine hK.out _ _ hB ?_
  clear hK K
  try simp only [Act.put, List.setIfInBounds_toArray, List.set_cons_zero, List.set_cons_succ]
  refine wpB_take (hb := hB) (i := 10) (oi := { dst := some 19, op := Op.pick (Operand.tmp 14) (Operand.tmp 18) (Operand.const (Value.bool false)), type := 4, pos := "law.go:34", after := #[{ on := 5, ground := Ground.data }, { on := 9, ground := Ground.data }], guard := none }) (v := ?_) rfl (by kernel_rfl) (by kernel_rfl) (by kernel_rfl) (by rfl) ?_ ?_
  rotate_left
  · intro W hW; first | (go_simp; done) | (go_simp; with_reducible rfl)
  try simp only [Act.put, List.setIfInBounds_toArray, List.set_cons_zero, List.set_cons_succ]
  refine wpB_take (hb := hB) (i := 11) (oi := { dst := some 4, op := Op.assign (Operand.tmp 19), type := 4, pos := "law.go:34", after := #[{ on := 10, ground := Ground.data }, { on := 9, ground := Ground.chain }, { on := 0, ground := Ground.phase }, { on := 1, ground := Ground.phase }, { on := 2, ground := Ground.phase }, { on := 3, ground := Ground.phase }, { on := 4, ground := Ground.phase }, { on := 5, ground := Ground.phase }, { on := 6, ground := Ground.phase }, { on := 7, ground := Ground.phase }, { on := 8, ground := Ground.phase }, { on := 9, ground := Ground.phase }, { on := 10, ground := Ground.phase }], guard := none }) (v := ?_) rfl (by kernel_rfl) (by kernel_rfl) (by kernel_rfl) (by rfl) ?_ ?_
  rotate_left
  · intro W hW; first | (go_simp; done) | (go_simp; with_reducible rfl)
  try simp only [Act.put, List.setIfInBounds_toArray, List.set_cons_zero, List.set_cons_succ]
  refine wpB_done (by kernel_rfl) ?_
  go_wp2
  go_ret
  exact ⟨rfl, stepB hb hB⟩
end Go.Proofs.Ytikkfmghjfddfaa
