/- What the law FieldMuls answers at every input: the walk. -/
import Derived.Test.YtikkfmghjfddfaaF05j
namespace Go.Proofs.Ytikkfmghjfddfaa
open Go.ChangeShapes Go.WideShapes Go.ChangeAt Go.RowKit
set_option linter.unusedSimpArgs false
set_option linter.unusedVariables false

set_option maxRecDepth 100000 in
set_option maxHeartbeats 4000000 in
theorem muls_walk (Aa : Array Value) (a : List Nat) (ha : El4 a) (hA : Aa = ((nI a).map (Value.int .u64)).toArray) (Ba : Array Value) (b : List Nat) (hb : El4 b) (hB : Ba = ((nI b).map (Value.int .u64)).toArray) (w : World) :
    Calls Try.prog 5 #[.agg Aa, .agg Ba] w fun e w' => e = .returned (.bool true) ∧ Below w.heap.size w w' := by
  go_enter Try.func5, Try.ntmps5
  go_wp2_with (refine wpList_box_row (k := .u64) rfl 24 _ rfl (nI a) (by rw [← hA]; rfl) ha.ne (elMax ha) ?_)
  intro w1 ra b1 s1
  rw [ha.len] at ra
  clear s1
  go_wp2_with (refine wpList_box_row (k := .u64) rfl 24 _ rfl (nI b) (by rw [← hB]; rfl) hb.ne (elMax hb) ?_)
  intro w2 rb b2 s2
  rw [hb.len] at rb
  clear s2
  replace ra := ra.kept b2
  have hbw := stepB b1 b2
  clear b1 b2 hA hB
  go_wp2_with fail
  refine (awake_any _).mono ?_
  rintro e wa ⟨rfl, ba⟩
  replace ra := ra.kept ba
  replace rb := rb.kept ba
  replace hbw := stepB hbw ba
  clear ba
  go_wp2_with fail
  have hB : Below wa.heap.size wa wa.drew := (Below.refl _ _).drew
  refine wpB_begin (Below.refl wa.heap.size wa) (by kernel_rfl) ?_
  refine wpB_take (hb := hB) (i := 0) (oi := { dst := some 9, op := Op.load 24 (Operand.tmp 2), type := 24, pos := "law.go:54", after := #[], guard := none }) (v := ?_) rfl (by kernel_rfl) (by kernel_rfl) (by kernel_rfl) (by rfl) ?_ ?_
  rotate_left
  · intro W hW; refine Eq.trans (exec_load_row' 24 _ (by rfl) (by rfl) ra hW _ Try.underlying24 rfl (arInfo ha)) ?_; with_reducible rfl
  try simp only [Act.put, List.setIfInBounds_toArray, List.set_cons_zero, List.set_cons_succ]
  refine wpB_take (hb := hB) (i := 1) (oi := { dst := some 10, op := Op.load 24 (Operand.tmp 3), type := 24, pos := "law.go:54", after := #[], guard := none }) (v := ?_) rfl (by kernel_rfl) (by kernel_rfl) (by kernel_rfl) (by rfl) ?_ ?_
  rotate_left
  · intro W hW; refine Eq.trans (exec_load_row' 24 _ (by rfl) (by rfl) rb hW _ Try.underlying24 rfl (arInfo hb)) ?_; with_reducible rfl
  try simp only [Act.put, List.setIfInBounds_toArray, List.set_cons_zero, List.set_cons_succ]
  refine wpB_take (hb := hB) (i := 3) (oi := { dst := some 12, op := Op.load 24 (Operand.tmp 2), type := 24, pos := "law.go:54", after := #[], guard := none }) (v := ?_) rfl (by kernel_rfl) (by kernel_rfl) (by kernel_rfl) (by rfl) ?_ ?_
  rotate_left
  · intro W hW; refine Eq.trans (exec_load_row' 24 _ (by rfl) (by rfl) ra hW _ Try.underlying24 rfl (arInfo ha)) ?_; with_reducible rfl
  try simp only [Act.put, List.setIfInBounds_toArray, List.set_cons_zero, List.set_cons_succ]
  refine wpB_take (hb := hB) (i := 5) (oi := { dst := some 14, op := Op.load 24 (Operand.tmp 3), type := 24, pos := "law.go:54", after := #[], guard := none }) (v := ?_) rfl (by kernel_rfl) (by kernel_rfl) (by kernel_rfl) (by rfl) ?_ ?_
  rotate_left
  · intro W hW; refine Eq.trans (exec_load_row' 24 _ (by rfl) (by rfl) rb hW _ Try.underlying24 rfl (arInfo hb)) ?_; with_reducible rfl
  try simp only [Act.put, List.setIfInBounds_toArray, List.set_cons_zero, List.set_cons_succ]
  refine wpB_do (i := 2) (o := { dst := some 11, op := Op.call { callee := Callee.value (Operand.func 18), args := #[Operand.tmp 9, Operand.tmp 10], argTypes := #[27, 27] }, type := 27, pos := "law.go:54", after := #[{ on := 0, ground := Ground.data }, { on := 1, ground := Ground.data }], guard := none }) (by kernel_rfl) rfl (by rfl) fun K hK => ?_
  go_simp
  refine (fmul_any _ _ a b ha hb rfl rfl _).mono ?_
  rintro e w3 ⟨l3, rfl, h3, hv3, b3⟩
  replace hB := stepB hB b3
  refine hK.out _ _ hB ?_
  clear hK K
  try simp only [Act.put, List.setIfInBounds_toArray, List.set_cons_zero, List.set_cons_succ]
  refine wpB_do (i := 4) (o := { dst := some 13, op := Op.call { callee := Callee.value (Operand.func 13), args := #[Operand.tmp 12], argTypes := #[24] }, type := 29, pos := "law.go:54", after := #[{ on := 3, ground := Ground.data }, { on := 2, ground := Ground.chain }], guard := none }) (by kernel_rfl) rfl (by rfl) fun K hK => ?_
  go_simp
  refine (numR_any _ a ha.1 ha.2 rfl _).mono ?_
  rintro e w4 ⟨v4, rfl, hR4, b4⟩
  replace hB := stepB hB b4
  refine hK.out _ _ hB ?_
  clear hK K
  try simp only [Act.put, List.setIfInBounds_toArray, List.set_cons_zero, List.set_cons_succ]
  refine wpB_do (i := 6) (o := { dst := some 15, op := Op.call { callee := Callee.value (Operand.func 13), args := #[Operand.tmp 14], argTypes := #[24] }, type := 29, pos := "law.go:54", after := #[{ on := 5, ground := Ground.data }, { on := 4, ground := Ground.chain }], guard := none }) (by kernel_rfl) rfl (by rfl) fun K hK => ?_
  go_simp
  refine (numR_any _ b hb.1 hb.2 rfl _).mono ?_
  rintro e w5 ⟨v5, rfl, hR5, b5⟩
  replace hB := stepB hB b5
  refine hK.out _ _ hB ?_
  clear hK K
  try simp only [Act.put, List.setIfInBounds_toArray, List.set_cons_zero, List.set_cons_succ]
  refine wpB_do (i := 7) (o := { dst := some 16, op := Op.call { callee := Callee.value (Operand.func 19), args := #[Operand.tmp 13, Operand.tmp 15], argTypes := #[29, 29] }, type := 29, pos := "law.go:54", after := #[{ on := 4, ground := Ground.data }, { on := 6, ground := Ground.data }, { on := 6, ground := Ground.chain }], guard := none }) (by kernel_rfl) rfl (by rfl) fun K hK => ?_
  go_simp
  refine (mulR_any _ _ _ _ _ (hR4.kept b5) hR5).mono ?_
  rintro e w6 ⟨v6, rfl, hR6, b6⟩
  replace hB := stepB hB b6
  refine hK.out _ _ hB ?_
  clear hK K
  try simp only [Act.put, List.setIfInBounds_toArray, List.set_cons_zero, List.set_cons_succ]
  refine wpB_do (i := 8) (o := { dst := some 17, op := Op.call { callee := Callee.value (Operand.func 10), args := #[Operand.tmp 11, Operand.tmp 16], argTypes := #[27, 29] }, type := 4, pos := "law.go:54", after := #[{ on := 2, ground := Ground.data }, { on := 7, ground := Ground.data }, { on := 7, ground := Ground.chain }], guard := none }) (by kernel_rfl) rfl (by rfl) fun K hK => ?_
  go_simp
  refine (is_true _ l3 _ _ h3 hv3 rfl _ hR6).mono ?_
  rintro e w7 ⟨rfl, b7⟩
  replace hB := stepB hB b7
  refine hK.out _ _ hB ?_
  clear hK K
  try simp only [Act.put, List.setIfInBounds_toArray, List.set_cons_zero, List.set_cons_succ]
  refine wpB_take (hb := hB) (i := 9) (oi := { dst := some 4, op := Op.assign (Operand.tmp 17), type := 4, pos := "law.go:54", after := #[{ on := 8, ground := Ground.data }, { on := 8, ground := Ground.chain }, { on := 0, ground := Ground.phase }, { on := 1, ground := Ground.phase }, { on := 2, ground := Ground.phase }, { on := 3, ground := Ground.phase }, { on := 4, ground := Ground.phase }, { on := 5, ground := Ground.phase }, { on := 6, ground := Ground.phase }, { on := 7, ground := Ground.phase }, { on := 8, ground := Ground.phase }], guard := none }) (v := ?_) rfl (by kernel_rfl) (by kernel_rfl) (by kernel_rfl) (by rfl) ?_ ?_
  rotate_left
  · intro W hW; first | (go_simp; done) | (go_simp; with_reducible rfl)
  try simp only [Act.put, List.setIfInBounds_toArray, List.set_cons_zero, List.set_cons_succ]
  refine wpB_done (by kernel_rfl) ?_
  go_wp2
  go_ret
  exact ⟨rfl, stepB hbw hB⟩
end Go.Proofs.Ytikkfmghjfddfaa
