/- What any polynomial is by its factors is the document's: the walk. -/
import Derived.Test.YtbladcgdbhogcaaDoorN11j
import Derived.Test.YtbladcgdbhogcaaDoorRef11c
namespace Go.Proofs.YtbladcgdbhogcaaDoor
open Go.ChangeShapes Go.WideShapes Go.ChangeAt Go.RowKit
set_option linter.unusedSimpArgs false
set_option linter.unusedVariables false

set_option maxRecDepth 100000 in
set_option maxHeartbeats 4000000 in
theorem forward_walk (AF : Array Value) (F : Nat → Int) (hF : Po F) (hAF : AF = ((gI F).map (Value.int .i64)).toArray) (w : World) (hT : PwT w) :
    Calls Tryd.prog 4 #[.agg AF] w fun e w' => e = .returned (.bool true) ∧ Below w.heap.size w w' := by
  have HF : Hid (Po F) := hF
  have HT : Hid (PwT w) := hT
  clear hT hF
  go_enter Tryd.func4, Tryd.ntmps4
  go_wp2_with (refine wpList_box_row (k := .i64) rfl 22 _ rfl (gI F) (by rw [← hAF]; rfl) (gI_ne _) (poMax _) ?_)
  intro x1 qF bn sn
  rw [gI_length] at qF
  have hbw := bn
  clear bn sn hAF
  go_wp2_with fail
  refine (awake_any _ (HT.out.kept hbw)).mono ?_
  rintro e x2 ⟨rfl, bn⟩
  replace qF := qF.kept bn
  replace hbw := stepB hbw bn
  clear bn
  go_wp2_with fail
  replace qF := qF.drew
  replace hbw := hbw.drew
  refine wpG_begin (by kernel_rfl) ?_
  refine wpG_take (i := 0) (oi := { dst := some 5, op := Op.move (Operand.tmp 3), type := 4, pos := "law.go:40", after := #[], guard := none }) (v := ?_) rfl (by kernel_rfl) (by kernel_rfl) (by kernel_rfl) (by rfl) ?_ ?_
  rotate_left
  · intro W hW; first | (go_simp; done) | (go_simp; with_reducible rfl)
  try simp only [Act.put, List.setIfInBounds_toArray, List.set_cons_zero, List.set_cons_succ]
  refine wpG_take (i := 1) (oi := { dst := some 6, op := Op.move (Operand.tmp 5), type := 4, pos := "law.go:40", after := #[{ on := 0, ground := Ground.data }], guard := none }) (v := ?_) rfl (by kernel_rfl) (by kernel_rfl) (by kernel_rfl) (by rfl) ?_ ?_
  rotate_left
  · intro W hW; first | (go_simp; done) | (go_simp; with_reducible rfl)
  try simp only [Act.put, List.setIfInBounds_toArray, List.set_cons_zero, List.set_cons_succ]
  refine wpG_take (i := 2) (oi := { dst := some 7, op := Op.load 22 (Operand.tmp 1), type := 22, pos := "law.go:40", after := #[{ on := 1, ground := Ground.guard }], guard := some (1, true) }) (v := ?_) rfl (by kernel_rfl) (by kernel_rfl) (by kernel_rfl) (by rfl) ?_ ?_
  rotate_left
  · intro W hW; refine Eq.trans (exec_load_row' 22 _ (by rfl) (by rfl) qF hW _ Tryd.underlying22 rfl (poInfo _)) ?_; with_reducible rfl
  try simp only [Act.put, List.setIfInBounds_toArray, List.set_cons_zero, List.set_cons_succ]
  refine wpG_take (i := 4) (oi := { dst := some 9, op := Op.load 22 (Operand.tmp 1), type := 22, pos := "law.go:40", after := #[{ on := 1, ground := Ground.guard }], guard := some (1, true) }) (v := ?_) rfl (by kernel_rfl) (by kernel_rfl) (by kernel_rfl) (by rfl) ?_ ?_
  rotate_left
  · intro W hW; refine Eq.trans (exec_load_row' 22 _ (by rfl) (by rfl) qF hW _ Tryd.underlying22 rfl (poInfo _)) ?_; with_reducible rfl
  try simp only [Act.put, List.setIfInBounds_toArray, List.set_cons_zero, List.set_cons_succ]
  refine wpG_do (i := 3) (o := { dst := some 8, op := Op.call { callee := Callee.value (Operand.func 16), args := #[Operand.tmp 7], argTypes := #[24] }, type := 24, pos := "law.go:40", after := #[{ on := 2, ground := Ground.data }, { on := 1, ground := Ground.chain }, { on := 1, ground := Ground.guard }], guard := some (1, true) }) (by kernel_rfl) rfl (by rfl) fun K hK => ?_
  go_simp
  refine (nforward_any _ F HF.out rfl _ (HT.out.kept hbw)).mono ?_
  rintro e x3 ⟨he, b3⟩
  obtain ⟨P1, hP⟩ : ∃ P : Nat → FZ, P = fwd (rF F) := ⟨_, rfl⟩
  rw [← hP] at he
  subst he
  have E1 : Hid (P1 = fwd (rF F)) := by show _ = _; rw [hP]
  clear hP
  replace qF := qF.kept b3
  replace hbw := stepB hbw b3
  refine hK.out _ _ b3 ?_
  clear hK K
  try simp only [Act.put, List.setIfInBounds_toArray, List.set_cons_zero, List.set_cons_succ]
  refine wpG_do (i := 5) (o := { dst := some 10, op := Op.call { callee := Callee.value (Operand.func 17), args := #[Operand.tmp 9], argTypes := #[22] }, type := 22, pos := "law.go:40", after := #[{ on := 4, ground := Ground.data }, { on := 3, ground := Ground.chain }, { on := 1, ground := Ground.guard }], guard := some (1, true) }) (by kernel_rfl) rfl (by rfl) fun K hK => ?_
  go_simp
  refine (forward11_any _ F HF.out rfl _).mono ?_
  rintro e x4 ⟨he, b4⟩
  obtain ⟨P2, hP⟩ : ∃ P : Nat → FZ, P = fwd (rF F) := ⟨_, rfl⟩
  rw [← hP] at he
  subst he
  have E2 : Hid (P2 = fwd (rF F)) := by show _ = _; rw [hP]
  clear hP
  replace qF := qF.kept b4
  replace hbw := stepB hbw b4
  refine hK.out _ _ b4 ?_
  clear hK K
  try simp only [Act.put, List.setIfInBounds_toArray, List.set_cons_zero, List.set_cons_succ]
  refine wpG_take (i := 6) (oi := { dst := some 11, op := Op.binOp BinOp.eql 24 (Operand.tmp 8) (Operand.tmp 10) 24, type := 4, pos := "law.go:40", after := #[{ on := 3, ground := Ground.data }, { on := 5, ground := Ground.data }, { on := 1, ground := Ground.guard }], guard := some (1, true) }) (v := ?_) rfl (by kernel_rfl) (by kernel_rfl) (by kernel_rfl) (by rfl) ?_ ?_
  rotate_left
  · intro W hW; have he := eq_poA (f := P1) (g := P2) (fun k hk => by rw [E1.out, E2.out]) W; first | (go_simp; done) | (go_simp; with_reducible rfl)
  try simp only [Act.put, List.setIfInBounds_toArray, List.set_cons_zero, List.set_cons_succ]
  refine wpG_take (i := 7) (oi := { dst := some 12, op := Op.pick (Operand.tmp 6) (Operand.tmp 11) (Operand.const (Value.bool false)), type := 4, pos := "law.go:40", after := #[{ on := 1, ground := Ground.data }, { on := 6, ground := Ground.data }], guard := none }) (v := ?_) rfl (by kernel_rfl) (by kernel_rfl) (by kernel_rfl) (by rfl) ?_ ?_
  rotate_left
  · intro W hW; first | (go_simp; done) | (go_simp; with_reducible rfl)
  try simp only [Act.put, List.setIfInBounds_toArray, List.set_cons_zero, List.set_cons_succ]
  refine wpG_take (i := 8) (oi := { dst := some 2, op := Op.assign (Operand.tmp 12), type := 4, pos := "law.go:40", after := #[{ on := 7, ground := Ground.data }, { on := 5, ground := Ground.chain }, { on := 0, ground := Ground.phase }, { on := 1, ground := Ground.phase }, { on := 2, ground := Ground.phase }, { on := 3, ground := Ground.phase }, { on := 4, ground := Ground.phase }, { on := 5, ground := Ground.phase }, { on := 6, ground := Ground.phase }, { on := 7, ground := Ground.phase }], guard := none }) (v := ?_) rfl (by kernel_rfl) (by kernel_rfl) (by kernel_rfl) (by rfl) ?_ ?_
  rotate_left
  · intro W hW; first | (go_simp; done) | (go_simp; with_reducible rfl)
  try simp only [Act.put, List.setIfInBounds_toArray, List.set_cons_zero, List.set_cons_succ]
  refine wpG_done (by kernel_rfl) ?_
  go_wp2
  go_ret
  exact ⟨rfl, hbw⟩
end Go.Proofs.YtbladcgdbhogcaaDoor
