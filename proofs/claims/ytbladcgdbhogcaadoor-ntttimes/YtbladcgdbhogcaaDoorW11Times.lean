/- The product of any two, factor by factor, is the document's: the walk. -/
import Derived.Test.YtbladcgdbhogcaaDoorN11j
import Derived.Test.YtbladcgdbhogcaaDoorRef11e
namespace Go.Proofs.YtbladcgdbhogcaaDoor
open Go.ChangeShapes Go.WideShapes Go.ChangeAt Go.RowKit
set_option linter.unusedSimpArgs false
set_option linter.unusedVariables false

set_option maxRecDepth 100000 in
set_option maxHeartbeats 4000000 in
theorem times_walk (AF AG : Array Value) (F G : Nat → Int) (hF : Po F) (hG : Po G) (hAF : AF = ((gI F).map (Value.int .i64)).toArray) (hAG : AG = ((gI G).map (Value.int .i64)).toArray) (w : World) (hT : PwT w) :
    Calls Tryd.prog 6 #[.agg AF, .agg AG] w fun e w' => e = .returned (.bool true) ∧ Below w.heap.size w w' := by
  have HF : Hid (Po F) := hF
  have HG : Hid (Po G) := hG
  have HT : Hid (PwT w) := hT
  clear hT hF hG
  go_enter Tryd.func6, Tryd.ntmps6
  go_wp2_with (refine wpList_box_row (k := .i64) rfl 22 _ rfl (gI F) (by rw [← hAF]; rfl) (gI_ne _) (poMax _) ?_)
  intro x1 qF bn sn
  rw [gI_length] at qF
  have hbw := bn
  clear bn sn hAF
  go_wp2_with (refine wpList_box_row (k := .i64) rfl 22 _ rfl (gI G) (by rw [← hAG]; rfl) (gI_ne _) (poMax _) ?_)
  intro x2 qG bn sn
  rw [gI_length] at qG
  replace qF := qF.kept bn
  replace hbw := stepB hbw bn
  clear bn sn hAG
  go_wp2_with fail
  refine (awake_any _ (HT.out.kept hbw)).mono ?_
  rintro e x3 ⟨rfl, bn⟩
  replace qF := qF.kept bn
  replace qG := qG.kept bn
  replace hbw := stepB hbw bn
  clear bn
  go_wp2_with fail
  replace qF := qF.drew
  replace qG := qG.drew
  replace hbw := hbw.drew
  refine wpG_begin (by kernel_rfl) ?_
  refine wpG_take (i := 0) (oi := { dst := some 7, op := Op.move (Operand.tmp 5), type := 4, pos := "law.go:57", after := #[], guard := none }) (v := ?_) rfl (by kernel_rfl) (by kernel_rfl) (by kernel_rfl) (by rfl) ?_ ?_
  rotate_left
  · intro W hW; first | (go_simp; done) | (go_simp; with_reducible rfl)
  try simp only [Act.put, List.setIfInBounds_toArray, List.set_cons_zero, List.set_cons_succ]
  refine wpG_take (i := 1) (oi := { dst := some 8, op := Op.move (Operand.tmp 7), type := 4, pos := "law.go:57", after := #[{ on := 0, ground := Ground.data }], guard := none }) (v := ?_) rfl (by kernel_rfl) (by kernel_rfl) (by kernel_rfl) (by rfl) ?_ ?_
  rotate_left
  · intro W hW; first | (go_simp; done) | (go_simp; with_reducible rfl)
  try simp only [Act.put, List.setIfInBounds_toArray, List.set_cons_zero, List.set_cons_succ]
  refine wpG_take (i := 2) (oi := { dst := some 9, op := Op.load 22 (Operand.tmp 2), type := 22, pos := "law.go:57", after := #[{ on := 1, ground := Ground.guard }], guard := some (1, true) }) (v := ?_) rfl (by kernel_rfl) (by kernel_rfl) (by kernel_rfl) (by rfl) ?_ ?_
  rotate_left
  · intro W hW; refine Eq.trans (exec_load_row' 22 _ (by rfl) (by rfl) qF hW _ Tryd.underlying22 rfl (poInfo _)) ?_; with_reducible rfl
  try simp only [Act.put, List.setIfInBounds_toArray, List.set_cons_zero, List.set_cons_succ]
  refine wpG_take (i := 3) (oi := { dst := some 10, op := Op.load 22 (Operand.tmp 3), type := 22, pos := "law.go:57", after := #[{ on := 1, ground := Ground.guard }], guard := some (1, true) }) (v := ?_) rfl (by kernel_rfl) (by kernel_rfl) (by kernel_rfl) (by rfl) ?_ ?_
  rotate_left
  · intro W hW; refine Eq.trans (exec_load_row' 22 _ (by rfl) (by rfl) qG hW _ Tryd.underlying22 rfl (poInfo _)) ?_; with_reducible rfl
  try simp only [Act.put, List.setIfInBounds_toArray, List.set_cons_zero, List.set_cons_succ]
  refine wpG_take (i := 5) (oi := { dst := some 12, op := Op.load 22 (Operand.tmp 2), type := 22, pos := "law.go:57", after := #[{ on := 1, ground := Ground.guard }], guard := some (1, true) }) (v := ?_) rfl (by kernel_rfl) (by kernel_rfl) (by kernel_rfl) (by rfl) ?_ ?_
  rotate_left
  · intro W hW; refine Eq.trans (exec_load_row' 22 _ (by rfl) (by rfl) qF hW _ Tryd.underlying22 rfl (poInfo _)) ?_; with_reducible rfl
  try simp only [Act.put, List.setIfInBounds_toArray, List.set_cons_zero, List.set_cons_succ]
  refine wpG_take (i := 6) (oi := { dst := some 13, op := Op.load 22 (Operand.tmp 3), type := 22, pos := "law.go:57", after := #[{ on := 1, ground := Ground.guard }], guard := some (1, true) }) (v := ?_) rfl (by kernel_rfl) (by kernel_rfl) (by kernel_rfl) (by rfl) ?_ ?_
  rotate_left
  · intro W hW; refine Eq.trans (exec_load_row' 22 _ (by rfl) (by rfl) qG hW _ Tryd.underlying22 rfl (poInfo _)) ?_; with_reducible rfl
  try simp only [Act.put, List.setIfInBounds_toArray, List.set_cons_zero, List.set_cons_succ]
  refine wpG_do (i := 4) (o := { dst := some 11, op := Op.call { callee := Callee.value (Operand.func 20), args := #[Operand.tmp 9, Operand.tmp 10], argTypes := #[24, 24] }, type := 24, pos := "law.go:57", after := #[{ on := 2, ground := Ground.data }, { on := 3, ground := Ground.data }, { on := 1, ground := Ground.chain }, { on := 1, ground := Ground.guard }], guard := some (1, true) }) (by kernel_rfl) rfl (by rfl) fun K hK => ?_
  go_simp
  refine (ntimes_any _ _ F G HF.out HG.out rfl rfl _ (HT.out.kept hbw)).mono ?_
  rintro e x4 ⟨he, b4⟩
  obtain ⟨P1, hP⟩ : ∃ P : Nat → FZ, P = tm (rF F) (rF G) := ⟨_, rfl⟩
  rw [← hP] at he
  subst he
  have E1 : Hid (P1 = tm (rF F) (rF G)) := by show _ = _; rw [hP]
  clear hP
  replace qF := qF.kept b4
  replace qG := qG.kept b4
  replace hbw := stepB hbw b4
  refine hK.out _ _ b4 ?_
  clear hK K
  try simp only [Act.put, List.setIfInBounds_toArray, List.set_cons_zero, List.set_cons_succ]
  refine wpG_do (i := 7) (o := { dst := some 14, op := Op.call { callee := Callee.value (Operand.func 21), args := #[Operand.tmp 12, Operand.tmp 13], argTypes := #[22, 22] }, type := 22, pos := "law.go:57", after := #[{ on := 5, ground := Ground.data }, { on := 6, ground := Ground.data }, { on := 4, ground := Ground.chain }, { on := 1, ground := Ground.guard }], guard := some (1, true) }) (by kernel_rfl) rfl (by rfl) fun K hK => ?_
  go_simp
  refine (times11_any _ _ F G HF.out HG.out rfl rfl _).mono ?_
  rintro e x5 ⟨he, b5⟩
  obtain ⟨P2, hP⟩ : ∃ P : Nat → FZ, P = tm (rF F) (rF G) := ⟨_, rfl⟩
  rw [← hP] at he
  subst he
  have E2 : Hid (P2 = tm (rF F) (rF G)) := by show _ = _; rw [hP]
  clear hP
  replace qF := qF.kept b5
  replace qG := qG.kept b5
  replace hbw := stepB hbw b5
  refine hK.out _ _ b5 ?_
  clear hK K
  try simp only [Act.put, List.setIfInBounds_toArray, List.set_cons_zero, List.set_cons_succ]
  refine wpG_take (i := 8) (oi := { dst := some 15, op := Op.binOp BinOp.eql 24 (Operand.tmp 11) (Operand.tmp 14) 24, type := 4, pos := "law.go:57", after := #[{ on := 4, ground := Ground.data }, { on := 7, ground := Ground.data }, { on := 1, ground := Ground.guard }], guard := some (1, true) }) (v := ?_) rfl (by kernel_rfl) (by kernel_rfl) (by kernel_rfl) (by rfl) ?_ ?_
  rotate_left
  · intro W hW; have he := eq_poA (f := P1) (g := P2) (fun k hk => by rw [E1.out, E2.out]) W; first | (go_simp; done) | (go_simp; with_reducible rfl)
  try simp only [Act.put, List.setIfInBounds_toArray, List.set_cons_zero, List.set_cons_succ]
  refine wpG_take (i := 9) (oi := { dst := some 16, op := Op.pick (Operand.tmp 8) (Operand.tmp 15) (Operand.const (Value.bool false)), type := 4, pos := "law.go:57", after := #[{ on := 1, ground := Ground.data }, { on := 8, ground := Ground.data }], guard := none }) (v := ?_) rfl (by kernel_rfl) (by kernel_rfl) (by kernel_rfl) (by rfl) ?_ ?_
  rotate_left
  · intro W hW; first | (go_simp; done) | (go_simp; with_reducible rfl)
  try simp only [Act.put, List.setIfInBounds_toArray, List.set_cons_zero, List.set_cons_succ]
  refine wpG_take (i := 10) (oi := { dst := some 4, op := Op.assign (Operand.tmp 16), type := 4, pos := "law.go:57", after := #[{ on := 9, ground := Ground.data }, { on := 7, ground := Ground.chain }, { on := 0, ground := Ground.phase }, { on := 1, ground := Ground.phase }, { on := 2, ground := Ground.phase }, { on := 3, ground := Ground.phase }, { on := 4, ground := Ground.phase }, { on := 5, ground := Ground.phase }, { on := 6, ground := Ground.phase }, { on := 7, ground := Ground.phase }, { on := 8, ground := Ground.phase }, { on := 9, ground := Ground.phase }], guard := none }) (v := ?_) rfl (by kernel_rfl) (by kernel_rfl) (by kernel_rfl) (by rfl) ?_ ?_
  rotate_left
  · intro W hW; first | (go_simp; done) | (go_simp; with_reducible rfl)
  try simp only [Act.put, List.setIfInBounds_toArray, List.set_cons_zero, List.set_cons_succ]
  refine wpG_done (by kernel_rfl) ?_
  go_wp2
  go_ret
  exact ⟨rfl, hbw⟩
end Go.Proofs.YtbladcgdbhogcaaDoor
