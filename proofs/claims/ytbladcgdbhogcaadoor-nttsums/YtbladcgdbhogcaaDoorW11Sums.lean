/- Sums, differences and rests of any polynomials are the document's: the walk. -/
import Derived.Test.YtbladcgdbhogcaaDoorN11j
import Derived.Test.YtbladcgdbhogcaaDoorRef11b
namespace Go.Proofs.YtbladcgdbhogcaaDoor
open Go.ChangeShapes Go.WideShapes Go.ChangeAt Go.RowKit
set_option linter.unusedSimpArgs false
set_option linter.unusedVariables false

set_option maxRecDepth 100000 in
set_option maxHeartbeats 4000000 in
theorem sums_walk (AF AG : Array Value) (F G : Nat → Int) (hF : Po F) (hG : Po G) (hAF : AF = ((gI F).map (Value.int .i64)).toArray) (hAG : AG = ((gI G).map (Value.int .i64)).toArray) (w : World) (hT : PwT w) :
    Calls Tryd.prog 3 #[.agg AF, .agg AG] w fun e w' => e = .returned (.bool true) ∧ Below w.heap.size w w' := by
  have HF : Hid (Po F) := hF
  have HG : Hid (Po G) := hG
  have HT : Hid (PwT w) := hT
  clear hT hF hG
  go_enter Tryd.func3, Tryd.ntmps3
  go_wp2_with (refine wpList_box_row (k := .i64) rfl 22 _ rfl (gI F) (by rw [← hAF]; rfl) (gI_ne _) (poMax _) ?_)
  intro x1 qF bn sn
  rw [gI_length] at qF
  have hbw := bn
  clear bn sn hAF
  go_wp2_with (refine wpList_box_row (k := .i64) rfl 22 _ rfl (gI G) (by rw [← hAG]; rfl) (gI_ne _) (poMax _) ?_)
  intro x2 qG bn sn
  rw [gI_length] at qG
  replace qF := qF.kept bn
  replace hbw := stepB hbw bn
  clear bn sn hAG
  go_wp2_with fail
  refine (awake_any _ (HT.out.kept hbw)).mono ?_
  rintro e x3 ⟨rfl, bn⟩
  replace qF := qF.kept bn
  replace qG := qG.kept bn
  replace hbw := stepB hbw bn
  clear bn
  go_wp2_with fail
  replace qF := qF.drew
  replace qG := qG.drew
  replace hbw := hbw.drew
  refine wpG_begin (by kernel_rfl) ?_
  refine wpG_take (i := 0) (oi := { dst := some 9, op := Op.load 22 (Operand.tmp 2), type := 22, pos := "law.go:34", after := #[], guard := none }) (v := ?_) rfl (by kernel_rfl) (by kernel_rfl) (by kernel_rfl) (by rfl) ?_ ?_
  rotate_left
  · intro W hW; refine Eq.trans (exec_load_row' 22 _ (by rfl) (by rfl) qF hW _ Tryd.underlying22 rfl (poInfo _)) ?_; with_reducible rfl
  try simp only [Act.put, List.setIfInBounds_toArray, List.set_cons_zero, List.set_cons_succ]
  refine wpG_take (i := 1) (oi := { dst := some 10, op := Op.load 22 (Operand.tmp 3), type := 22, pos := "law.go:34", after := #[], guard := none }) (v := ?_) rfl (by kernel_rfl) (by kernel_rfl) (by kernel_rfl) (by rfl) ?_ ?_
  rotate_left
  · intro W hW; refine Eq.trans (exec_load_row' 22 _ (by rfl) (by rfl) qG hW _ Tryd.underlying22 rfl (poInfo _)) ?_; with_reducible rfl
  try simp only [Act.put, List.setIfInBounds_toArray, List.set_cons_zero, List.set_cons_succ]
  refine wpG_take (i := 3) (oi := { dst := some 12, op := Op.load 22 (Operand.tmp 2), type := 22, pos := "law.go:34", after := #[], guard := none }) (v := ?_) rfl (by kernel_rfl) (by kernel_rfl) (by kernel_rfl) (by rfl) ?_ ?_
  rotate_left
  · intro W hW; refine Eq.trans (exec_load_row' 22 _ (by rfl) (by rfl) qF hW _ Tryd.underlying22 rfl (poInfo _)) ?_; with_reducible rfl
  try simp only [Act.put, List.setIfInBounds_toArray, List.set_cons_zero, List.set_cons_succ]
  refine wpG_take (i := 4) (oi := { dst := some 13, op := Op.load 22 (Operand.tmp 3), type := 22, pos := "law.go:34", after := #[], guard := none }) (v := ?_) rfl (by kernel_rfl) (by kernel_rfl) (by kernel_rfl) (by rfl) ?_ ?_
  rotate_left
  · intro W hW; refine Eq.trans (exec_load_row' 22 _ (by rfl) (by rfl) qG hW _ Tryd.underlying22 rfl (poInfo _)) ?_; with_reducible rfl
  try simp only [Act.put, List.setIfInBounds_toArray, List.set_cons_zero, List.set_cons_succ]
  refine wpG_do (i := 2) (o := { dst := some 11, op := Op.call { callee := Callee.value (Operand.func 10), args := #[Operand.tmp 9, Operand.tmp 10], argTypes := #[24, 24] }, type := 24, pos := "law.go:34", after := #[{ on := 0, ground := Ground.data }, { on := 1, ground := Ground.data }], guard := none }) (by kernel_rfl) rfl (by rfl) fun K hK => ?_
  go_simp
  refine (nplus_any _ _ F G HF.out HG.out rfl rfl _).mono ?_
  rintro e x4 ⟨he, b4⟩
  obtain ⟨P1, hP⟩ : ∃ P : Nat → FZ, P = fun k => rF F k + rF G k := ⟨_, rfl⟩
  rw [← hP] at he
  subst he
  have E1 : Hid (P1 = fun k => rF F k + rF G k) := by show _ = _; rw [hP]
  clear hP
  replace qF := qF.kept b4
  replace qG := qG.kept b4
  replace hbw := stepB hbw b4
  refine hK.out _ _ b4 ?_
  clear hK K
  try simp only [Act.put, List.setIfInBounds_toArray, List.set_cons_zero, List.set_cons_succ]
  refine wpG_do (i := 5) (o := { dst := some 14, op := Op.call { callee := Callee.value (Operand.func 11), args := #[Operand.tmp 12, Operand.tmp 13], argTypes := #[22, 22] }, type := 22, pos := "law.go:34", after := #[{ on := 3, ground := Ground.data }, { on := 4, ground := Ground.data }, { on := 2, ground := Ground.chain }], guard := none }) (by kernel_rfl) rfl (by rfl) fun K hK => ?_
  go_simp
  refine (plus11_any _ _ F G HF.out HG.out rfl rfl _).mono ?_
  rintro e x5 ⟨he, b5⟩
  obtain ⟨P2, hP⟩ : ∃ P : Nat → FZ, P = fun k => rF F k + rF G k := ⟨_, rfl⟩
  rw [← hP] at he
  subst he
  have E2 : Hid (P2 = fun k => rF F k + rF G k) := by show _ = _; rw [hP]
  clear hP
  replace qF := qF.kept b5
  replace qG := qG.kept b5
  replace hbw := stepB hbw b5
  refine hK.out _ _ b5 ?_
  clear hK K
  try simp only [Act.put, List.setIfInBounds_toArray, List.set_cons_zero, List.set_cons_succ]
  refine wpG_take (i := 6) (oi := { dst := some 15, op := Op.binOp BinOp.eql 24 (Operand.tmp 11) (Operand.tmp 14) 24, type := 4, pos := "law.go:34", after := #[{ on := 2, ground := Ground.data }, { on := 5, ground := Ground.data }], guard := none }) (v := ?_) rfl (by kernel_rfl) (by kernel_rfl) (by kernel_rfl) (by rfl) ?_ ?_
  rotate_left
  · intro W hW; have he := eq_poA (f := P1) (g := P2) (fun k hk => by rw [E1.out, E2.out]) W; first | (go_simp; done) | (go_simp; with_reducible rfl)
  try simp only [Act.put, List.setIfInBounds_toArray, List.set_cons_zero, List.set_cons_succ]
  refine wpG_take (i := 7) (oi := { dst := some 16, op := Op.move (Operand.tmp 15), type := 4, pos := "law.go:34", after := #[{ on := 6, ground := Ground.data }, { on := 5, ground := Ground.chain }], guard := none }) (v := ?_) rfl (by kernel_rfl) (by kernel_rfl) (by kernel_rfl) (by rfl) ?_ ?_
  rotate_left
  · intro W hW; first | (go_simp; done) | (go_simp; with_reducible rfl)
  try simp only [Act.put, List.setIfInBounds_toArray, List.set_cons_zero, List.set_cons_succ]
  refine wpG_take (i := 8) (oi := { dst := some 17, op := Op.load 22 (Operand.tmp 2), type := 22, pos := "law.go:34", after := #[{ on := 7, ground := Ground.guard }], guard := some (7, true) }) (v := ?_) rfl (by kernel_rfl) (by kernel_rfl) (by kernel_rfl) (by rfl) ?_ ?_
  rotate_left
  · intro W hW; refine Eq.trans (exec_load_row' 22 _ (by rfl) (by rfl) qF hW _ Tryd.underlying22 rfl (poInfo _)) ?_; with_reducible rfl
  try simp only [Act.put, List.setIfInBounds_toArray, List.set_cons_zero, List.set_cons_succ]
  refine wpG_take (i := 9) (oi := { dst := some 18, op := Op.load 22 (Operand.tmp 3), type := 22, pos := "law.go:34", after := #[{ on := 7, ground := Ground.guard }], guard := some (7, true) }) (v := ?_) rfl (by kernel_rfl) (by kernel_rfl) (by kernel_rfl) (by rfl) ?_ ?_
  rotate_left
  · intro W hW; refine Eq.trans (exec_load_row' 22 _ (by rfl) (by rfl) qG hW _ Tryd.underlying22 rfl (poInfo _)) ?_; with_reducible rfl
  try simp only [Act.put, List.setIfInBounds_toArray, List.set_cons_zero, List.set_cons_succ]
  refine wpG_take (i := 11) (oi := { dst := some 20, op := Op.load 22 (Operand.tmp 2), type := 22, pos := "law.go:34", after := #[{ on := 7, ground := Ground.guard }], guard := some (7, true) }) (v := ?_) rfl (by kernel_rfl) (by kernel_rfl) (by kernel_rfl) (by rfl) ?_ ?_
  rotate_left
  · intro W hW; refine Eq.trans (exec_load_row' 22 _ (by rfl) (by rfl) qF hW _ Tryd.underlying22 rfl (poInfo _)) ?_; with_reducible rfl
  try simp only [Act.put, List.setIfInBounds_toArray, List.set_cons_zero, List.set_cons_succ]
  refine wpG_take (i := 12) (oi := { dst := some 21, op := Op.load 22 (Operand.tmp 3), type := 22, pos := "law.go:34", after := #[{ on := 7, ground := Ground.guard }], guard := some (7, true) }) (v := ?_) rfl (by kernel_rfl) (by kernel_rfl) (by kernel_rfl) (by rfl) ?_ ?_
  rotate_left
  · intro W hW; refine Eq.trans (exec_load_row' 22 _ (by rfl) (by rfl) qG hW _ Tryd.underlying22 rfl (poInfo _)) ?_; with_reducible rfl
  try simp only [Act.put, List.setIfInBounds_toArray, List.set_cons_zero, List.set_cons_succ]
  refine wpG_do (i := 10) (o := { dst := some 19, op := Op.call { callee := Callee.value (Operand.func 12), args := #[Operand.tmp 17, Operand.tmp 18], argTypes := #[24, 24] }, type := 24, pos := "law.go:34", after := #[{ on := 8, ground := Ground.data }, { on := 9, ground := Ground.data }, { on := 7, ground := Ground.chain }, { on := 7, ground := Ground.guard }], guard := some (7, true) }) (by kernel_rfl) rfl (by rfl) fun K hK => ?_
  go_simp
  refine (nminus_any _ _ F G HF.out HG.out rfl rfl _).mono ?_
  rintro e x6 ⟨he, b6⟩
  obtain ⟨P3, hP⟩ : ∃ P : Nat → FZ, P = fun k => rF F k - rF G k := ⟨_, rfl⟩
  rw [← hP] at he
  subst he
  have E3 : Hid (P3 = fun k => rF F k - rF G k) := by show _ = _; rw [hP]
  clear hP
  replace qF := qF.kept b6
  replace qG := qG.kept b6
  replace hbw := stepB hbw b6
  refine hK.out _ _ b6 ?_
  clear hK K
  try simp only [Act.put, List.setIfInBounds_toArray, List.set_cons_zero, List.set_cons_succ]
  refine wpG_do (i := 13) (o := { dst := some 22, op := Op.call { callee := Callee.value (Operand.func 13), args := #[Operand.tmp 20, Operand.tmp 21], argTypes := #[22, 22] }, type := 22, pos := "law.go:34", after := #[{ on := 11, ground := Ground.data }, { on := 12, ground := Ground.data }, { on := 10, ground := Ground.chain }, { on := 7, ground := Ground.guard }], guard := some (7, true) }) (by kernel_rfl) rfl (by rfl) fun K hK => ?_
  go_simp
  refine (minus11_any _ _ F G HF.out HG.out rfl rfl _).mono ?_
  rintro e x7 ⟨he, b7⟩
  obtain ⟨P4, hP⟩ : ∃ P : Nat → FZ, P = fun k => rF F k - rF G k := ⟨_, rfl⟩
  rw [← hP] at he
  subst he
  have E4 : Hid (P4 = fun k => rF F k - rF G k) := by show _ = _; rw [hP]
  clear hP
  replace qF := qF.kept b7
  replace qG := qG.kept b7
  replace hbw := stepB hbw b7
  refine hK.out _ _ b7 ?_
  clear hK K
  try simp only [Act.put, List.setIfInBounds_toArray, List.set_cons_zero, List.set_cons_succ]
  refine wpG_take (i := 14) (oi := { dst := some 23, op := Op.binOp BinOp.eql 24 (Operand.tmp 19) (Operand.tmp 22) 24, type := 4, pos := "law.go:34", after := #[{ on := 10, ground := Ground.data }, { on := 13, ground := Ground.data }, { on := 7, ground := Ground.guard }], guard := some (7, true) }) (v := ?_) rfl (by kernel_rfl) (by kernel_rfl) (by kernel_rfl) (by rfl) ?_ ?_
  rotate_left
  · intro W hW; have he := eq_poA (f := P3) (g := P4) (fun k hk => by rw [E3.out, E4.out]) W; first | (go_simp; done) | (go_simp; with_reducible rfl)
  try simp only [Act.put, List.setIfInBounds_toArray, List.set_cons_zero, List.set_cons_succ]
  refine wpG_take (i := 15) (oi := { dst := some 24, op := Op.pick (Operand.tmp 16) (Operand.tmp 23) (Operand.const (Value.bool false)), type := 4, pos := "law.go:34", after := #[{ on := 7, ground := Ground.data }, { on := 14, ground := Ground.data }], guard := none }) (v := ?_) rfl (by kernel_rfl) (by kernel_rfl) (by kernel_rfl) (by rfl) ?_ ?_
  rotate_left
  · intro W hW; first | (go_simp; done) | (go_simp; with_reducible rfl)
  try simp only [Act.put, List.setIfInBounds_toArray, List.set_cons_zero, List.set_cons_succ]
  refine wpG_take (i := 16) (oi := { dst := some 25, op := Op.move (Operand.tmp 24), type := 4, pos := "law.go:34", after := #[{ on := 15, ground := Ground.data }, { on := 13, ground := Ground.chain }], guard := none }) (v := ?_) rfl (by kernel_rfl) (by kernel_rfl) (by kernel_rfl) (by rfl) ?_ ?_
  rotate_left
  · intro W hW; first | (go_simp; done) | (go_simp; with_reducible rfl)
  try simp only [Act.put, List.setIfInBounds_toArray, List.set_cons_zero, List.set_cons_succ]
  refine wpG_take (i := 17) (oi := { dst := some 26, op := Op.load 22 (Operand.tmp 2), type := 22, pos := "law.go:34", after := #[{ on := 16, ground := Ground.guard }], guard := some (16, true) }) (v := ?_) rfl (by kernel_rfl) (by kernel_rfl) (by kernel_rfl) (by rfl) ?_ ?_
  rotate_left
  · intro W hW; refine Eq.trans (exec_load_row' 22 _ (by rfl) (by rfl) qF hW _ Tryd.underlying22 rfl (poInfo _)) ?_; with_reducible rfl
  try simp only [Act.put, List.setIfInBounds_toArray, List.set_cons_zero, List.set_cons_succ]
  refine wpG_take (i := 19) (oi := { dst := some 28, op := Op.load 22 (Operand.tmp 2), type := 22, pos := "law.go:34", after := #[{ on := 16, ground := Ground.guard }], guard := some (16, true) }) (v := ?_) rfl (by kernel_rfl) (by kernel_rfl) (by kernel_rfl) (by rfl) ?_ ?_
  rotate_left
  · intro W hW; refine Eq.trans (exec_load_row' 22 _ (by rfl) (by rfl) qF hW _ Tryd.underlying22 rfl (poInfo _)) ?_; with_reducible rfl
  try simp only [Act.put, List.setIfInBounds_toArray, List.set_cons_zero, List.set_cons_succ]
  refine wpG_do (i := 18) (o := { dst := some 27, op := Op.call { callee := Callee.value (Operand.func 14), args := #[Operand.tmp 26], argTypes := #[24] }, type := 24, pos := "law.go:34", after := #[{ on := 17, ground := Ground.data }, { on := 16, ground := Ground.chain }, { on := 16, ground := Ground.guard }], guard := some (16, true) }) (by kernel_rfl) rfl (by rfl) fun K hK => ?_
  go_simp
  refine (ncleaned_any _ F HF.out rfl _).mono ?_
  rintro e x8 ⟨he, b8⟩
  obtain ⟨P5, hP⟩ : ∃ P : Nat → FZ, P = rF F := ⟨_, rfl⟩
  rw [← hP] at he
  subst he
  have E5 : Hid (P5 = rF F) := by show _ = _; rw [hP]
  clear hP
  replace qF := qF.kept b8
  replace qG := qG.kept b8
  replace hbw := stepB hbw b8
  refine hK.out _ _ b8 ?_
  clear hK K
  try simp only [Act.put, List.setIfInBounds_toArray, List.set_cons_zero, List.set_cons_succ]
  refine wpG_do (i := 20) (o := { dst := some 29, op := Op.call { callee := Callee.value (Operand.func 15), args := #[Operand.tmp 28], argTypes := #[22] }, type := 22, pos := "law.go:34", after := #[{ on := 19, ground := Ground.data }, { on := 18, ground := Ground.chain }, { on := 16, ground := Ground.guard }], guard := some (16, true) }) (by kernel_rfl) rfl (by rfl) fun K hK => ?_
  go_simp
  refine (clean11_any _ F HF.out rfl _).mono ?_
  rintro e x9 ⟨he, b9⟩
  obtain ⟨P6, hP⟩ : ∃ P : Nat → FZ, P = rF F := ⟨_, rfl⟩
  rw [← hP] at he
  subst he
  have E6 : Hid (P6 = rF F) := by show _ = _; rw [hP]
  clear hP
  replace qF := qF.kept b9
  replace qG := qG.kept b9
  replace hbw := stepB hbw b9
  refine hK.out _ _ b9 ?_
  clear hK K
  try simp only [Act.put, List.setIfInBounds_toArray, List.set_cons_zero, List.set_cons_succ]
  refine wpG_take (i := 21) (oi := { dst := some 30, op := Op.binOp BinOp.eql 24 (Operand.tmp 27) (Operand.tmp 29) 24, type := 4, pos := "law.go:34", after := #[{ on := 18, ground := Ground.data }, { on := 20, ground := Ground.data }, { on := 16, ground := Ground.guard }], guard := some (16, true) }) (v := ?_) rfl (by kernel_rfl) (by kernel_rfl) (by kernel_rfl) (by rfl) ?_ ?_
  rotate_left
  · intro W hW; have he := eq_poA (f := P5) (g := P6) (fun k hk => by rw [E5.out, E6.out]) W; first | (go_simp; done) | (go_simp; with_reducible rfl)
  try simp only [Act.put, List.setIfInBounds_toArray, List.set_cons_zero, List.set_cons_succ]
  refine wpG_take (i := 22) (oi := { dst := some 31, op := Op.pick (Operand.tmp 25) (Operand.tmp 30) (Operand.const (Value.bool false)), type := 4, pos := "law.go:34", after := #[{ on := 16, ground := Ground.data }, { on := 21, ground := Ground.data }], guard := none }) (v := ?_) rfl (by kernel_rfl) (by kernel_rfl) (by kernel_rfl) (by rfl) ?_ ?_
  rotate_left
  · intro W hW; first | (go_simp; done) | (go_simp; with_reducible rfl)
  try simp only [Act.put, List.setIfInBounds_toArray, List.set_cons_zero, List.set_cons_succ]
  refine wpG_take (i := 23) (oi := { dst := some 4, op := Op.assign (Operand.tmp 31), type := 4, pos := "law.go:34", after := #[{ on := 22, ground := Ground.data }, { on := 20, ground := Ground.chain }, { on := 0, ground := Ground.phase }, { on := 1, ground := Ground.phase }, { on := 2, ground := Ground.phase }, { on := 3, ground := Ground.phase }, { on := 4, ground := Ground.phase }, { on := 5, ground := Ground.phase }, { on := 6, ground := Ground.phase }, { on := 7, ground := Ground.phase }, { on := 8, ground := Ground.phase }, { on := 9, ground := Ground.phase }, { on := 10, ground := Ground.phase }, { on := 11, ground := Ground.phase }, { on := 12, ground := Ground.phase }, { on := 13, ground := Ground.phase }, { on := 14, ground := Ground.phase }, { on := 15, ground := Ground.phase }, { on := 16, ground := Ground.phase }, { on := 17, ground := Ground.phase }, { on := 18, ground := Ground.phase }, { on := 19, ground := Ground.phase }, { on := 20, ground := Ground.phase }, { on := 21, ground := Ground.phase }, { on := 22, ground := Ground.phase }], guard := none }) (v := ?_) rfl (by kernel_rfl) (by kernel_rfl) (by kernel_rfl) (by rfl) ?_ ?_
  rotate_left
  · intro W hW; first | (go_simp; done) | (go_simp; with_reducible rfl)
  try simp only [Act.put, List.setIfInBounds_toArray, List.set_cons_zero, List.set_cons_succ]
  refine wpG_done (by kernel_rfl) ?_
  go_wp2
  go_ret
  exact ⟨rfl, hbw⟩
end Go.Proofs.YtbladcgdbhogcaaDoor
