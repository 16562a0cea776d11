/- What the statements' own question 'does a number stand for the model's?' answers. -/
import Derived.Test.YtikkfmghjfddfabF05g
import Derived.Test.YtikkfmghjfddfabRef05f
namespace Go.Proofs.Ytikkfmghjfddfab
open Go.ChangeShapes Go.WideShapes Go.ChangeAt Go.RowKit
set_option linter.unusedSimpArgs false
set_option linter.unusedVariables false

theorem enL_same (x y : Nat) : (enL x = enL y) ↔ x % pN = y % pN := ⟨enL_inj, fun h => by unfold enL; rw [h]⟩

set_option maxRecDepth 100000 in
set_option maxHeartbeats 2000000 in
theorem is_any (A : Array Value) (a : List Nat) (vw : Value) (x : Nat) (ha : El4 a) (hA : A = ((nI a).map (Value.int .u64)).toArray) (w : World) (hx : RdI .i64 w vw (fdL x)) :
    Calls Try.prog 14 #[.agg A, vw] w fun e w' => e = .returned (.bool (decide (wv a % pN = x % pN))) ∧ Below w.heap.size w w' := by
  have hdec : decide (wv a % pN = x % pN) = decide (enL (wv a) = enL x) := by
    rw [Bool.eq_iff_iff, decide_eq_true_eq, decide_eq_true_eq, enL_same]
  rw [hdec]
  clear hdec
  go_enter Try.func14, Try.ntmps14
  go_wp2_with (refine wpList_box_row (k := .u64) rfl 26 _ rfl (nI a) (by rw [← hA]; rfl) ha.ne (elMax ha) ?_)
  intro w1 r1 b1 s1
  rw [ha.len] at r1
  have hx1 := hx.kept b1
  clear hx s1
  go_wp2_with fail
  refine wpG_begin (by kernel_rfl) ?_
  refine wpG_take (i := 0) (oi := { dst := some 5, op := Op.load 26 (Operand.tmp 2), type := 26, pos := "law.go:26", after := #[], guard := none }) (v := ?_) rfl (by kernel_rfl) (by kernel_rfl) (by kernel_rfl) (by rfl) ?_ ?_
  rotate_left
  · intro W hW; refine Eq.trans (exec_load_row 26 _ (by rfl) (by rfl) r1 hW _ Try.underlying26 rfl (elInfo ha)) ?_; with_reducible rfl
  try simp only [Act.put, List.setIfInBounds_toArray, List.set_cons_zero, List.set_cons_succ]
  refine wpG_take (i := 3) (oi := { dst := some 8, op := Op.move (Operand.tmp 1), type := 33, pos := "law.go:26", after := #[], guard := none }) (v := ?_) rfl (by kernel_rfl) (by kernel_rfl) (by kernel_rfl) (by rfl) ?_ ?_
  rotate_left
  · intro W hW; first | (go_simp; done) | (go_simp; with_reducible rfl)
  try simp only [Act.put, List.setIfInBounds_toArray, List.set_cons_zero, List.set_cons_succ]
  refine wpG_do (i := 1) (o := { dst := some 6, op := Op.call { callee := Callee.value (Operand.func 13), args := #[Operand.tmp 5], argTypes := #[26] }, type := 29, pos := "law.go:26", after := #[{ on := 0, ground := Ground.data }], guard := none }) (by kernel_rfl) rfl (by rfl) fun K hK => ?_
  go_simp
  refine (fencode_any _ a ha rfl _).mono ?_
  rintro e w2 ⟨v2, rfl, hN2⟩
  refine hK.out _ _ hN2.2 ?_
  clear hK K
  have hR2 := hN2.rd
  have hx2 := hx1.drew.kept hN2.2
  have hb2 := stepB b1.drew hN2.2
  try simp only [Act.put, List.setIfInBounds_toArray, List.set_cons_zero, List.set_cons_succ]
  refine wpG_take (i := 2) (oi := { dst := some 7, op := Op.convert 29 9 (Operand.tmp 6), type := 9, pos := "law.go:26", after := #[{ on := 1, ground := Ground.data }], guard := none }) (v := ?_) rfl (by kernel_rfl) (by kernel_rfl) (by kernel_rfl) (by rfl) ?_ ?_
  rotate_left
  · intro W hW; have hcv := conv_any (hR2.kept hW); first | (go_simp; done) | (go_simp; with_reducible rfl)
  try simp only [Act.put, List.setIfInBounds_toArray, List.set_cons_zero, List.set_cons_succ]
  refine wpG_do (i := 4) (o := { dst := some 9, op := Op.call { callee := Callee.value (Operand.func 20), args := #[Operand.tmp 8], argTypes := #[33] }, type := 29, pos := "law.go:26", after := #[{ on := 3, ground := Ground.data }, { on := 1, ground := Ground.chain }], guard := none }) (by kernel_rfl) rfl (by rfl) fun K hK => ?_
  go_simp
  refine (encodeR_any _ x _ hx2).mono ?_
  rintro e w3 ⟨v3, rfl, hN3⟩
  refine hK.out _ _ hN3.2 ?_
  clear hK K
  have hR3 := hN3.rd
  have hb3 := stepB hb2 hN3.2
  try simp only [Act.put, List.setIfInBounds_toArray, List.set_cons_zero, List.set_cons_succ]
  refine wpG_take (i := 5) (oi := { dst := some 10, op := Op.convert 29 9 (Operand.tmp 9), type := 9, pos := "law.go:26", after := #[{ on := 4, ground := Ground.data }], guard := none }) (v := ?_) rfl (by kernel_rfl) (by kernel_rfl) (by kernel_rfl) (by rfl) ?_ ?_
  rotate_left
  · intro W hW; have hcv := conv_any (hR3.kept hW); first | (go_simp; done) | (go_simp; with_reducible rfl)
  try simp only [Act.put, List.setIfInBounds_toArray, List.set_cons_zero, List.set_cons_succ]
  refine wpG_take (i := 6) (oi := { dst := some 11, op := Op.binOp BinOp.eql 9 (Operand.tmp 7) (Operand.tmp 10) 9, type := 4, pos := "law.go:26", after := #[{ on := 2, ground := Ground.data }, { on := 5, ground := Ground.data }], guard := none }) (v := ?_) rfl (by kernel_rfl) (by kernel_rfl) (by kernel_rfl) (by rfl) ?_ ?_
  rotate_left
  · intro W hW; first | (go_simp; done) | (go_simp; with_reducible rfl)
  try simp only [Act.put, List.setIfInBounds_toArray, List.set_cons_zero, List.set_cons_succ]
  refine wpG_take (i := 7) (oi := { dst := some 4, op := Op.assign (Operand.tmp 11), type := 4, pos := "law.go:26", after := #[{ on := 6, ground := Ground.data }, { on := 4, ground := Ground.chain }, { on := 0, ground := Ground.phase }, { on := 1, ground := Ground.phase }, { on := 2, ground := Ground.phase }, { on := 3, ground := Ground.phase }, { on := 4, ground := Ground.phase }, { on := 5, ground := Ground.phase }, { on := 6, ground := Ground.phase }], guard := none }) (v := ?_) rfl (by kernel_rfl) (by kernel_rfl) (by kernel_rfl) (by rfl) ?_ ?_
  rotate_left
  · intro W hW; first | (go_simp; done) | (go_simp; with_reducible rfl)
  try simp only [Act.put, List.setIfInBounds_toArray, List.set_cons_zero, List.set_cons_succ]
  refine wpG_done (by kernel_rfl) ?_
  go_wp2
  go_ret
  exact ⟨by show Ending.returned (.bool (enL (wv a) == enL x)) = _; rw [list_beq], hb3⟩
end Go.Proofs.Ytikkfmghjfddfab
