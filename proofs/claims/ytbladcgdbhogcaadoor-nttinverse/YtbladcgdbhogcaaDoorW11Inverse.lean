/- The polynomial that is so by its factors is the document's, and there and back it is what it was: the walk. -/
import Derived.Test.YtbladcgdbhogcaaDoorN11j
import Derived.Test.YtbladcgdbhogcaaDoorRef11d
namespace Go.Proofs.YtbladcgdbhogcaaDoor
open Go.ChangeShapes Go.WideShapes Go.ChangeAt Go.RowKit
set_option linter.unusedSimpArgs false
set_option linter.unusedVariables false

set_option maxRecDepth 100000 in
set_option maxHeartbeats 4000000 in
theorem inverse_walk (AF : Array Value) (F : Nat → Int) (hF : Po F) (hAF : AF = ((gI F).map (Value.int .i64)).toArray) (w : World) (hT : PwT w) :
    Calls Tryd.prog 5 #[.agg AF] w fun e w' => e = .returned (.bool true) ∧ Below w.heap.size w w' := by
  have HF : Hid (Po F) := hF
  have HT : Hid (PwT w) := hT
  clear hT hF
  go_enter Tryd.func5, Tryd.ntmps5
  go_wp2_with (refine wpList_box_row (k := .i64) rfl 22 _ rfl (gI F) (by rw [← hAF]; rfl) (gI_ne _) (poMax _) ?_)
  intro x1 qF bn sn
  rw [gI_length] at qF
  have hbw := bn
  clear bn sn hAF
  go_wp2_with fail
  refine (awake_any _ (HT.out.kept hbw)).mono ?_
  rintro e x2 ⟨rfl, bn⟩
  replace qF := qF.kept bn
  replace hbw := stepB hbw bn
  clear bn
  go_wp2_with (first | refine wpList_load_row rfl 22 _ rfl rfl qF _ Tryd.underlying22 rfl (poInfo _) ?_)
  refine (ninverse_any _ F HF.out rfl _ (HT.out.kept hbw)).mono ?_
  rintro e x3 ⟨he, bn⟩
  obtain ⟨P1, hP⟩ : ∃ P : Nat → FZ, P = inw (rF F) := ⟨_, rfl⟩
  rw [← hP] at he
  subst he
  have E1 : Hid (P1 = inw (rF F)) := by show _ = _; rw [hP]
  clear hP
  have hb0 := bn
  go_wp2_with (refine wpList_alloc_row (k := .i64) rfl 24 rfl (gI fun _ => 0) (alloc_poA _) (gI_ne _) (poMax _) ?_)
  intro y3 ro bo so
  rw [gI_length] at ro
  replace hb0 := stepB hb0 bo
  clear so bo
  go_wp2_with (refine wpList_store_row rfl 24 _ _ rfl (gI (fzF P1)) rfl rfl ro (by rw [gI_length, gI_length]) (poInfoA _) ?_)
  intro z3 qX hw
  replace hb0 := hw.below _ _ bn.size hb0
  replace qF := qF.kept hb0
  replace hbw := stepB hbw hb0
  clear hb0 hw bn ro
  go_wp2_with (first | refine wpList_load_row rfl 22 _ rfl rfl qF _ Tryd.underlying22 rfl (poInfo _) ?_)
  refine (clean11_any _ F HF.out rfl _).mono ?_
  rintro e x4 ⟨he, bn⟩
  obtain ⟨P2, hP⟩ : ∃ P : Nat → FZ, P = rF F := ⟨_, rfl⟩
  rw [← hP] at he
  subst he
  have E2 : Hid (P2 = rF F) := by show _ = _; rw [hP]
  clear hP
  have hb0 := bn
  go_wp2_with (refine wpList_alloc_row (k := .i64) rfl 22 rfl (gI fun _ => 0) (alloc_po _) (gI_ne _) (poMax _) ?_)
  intro y4 ro bo so
  rw [gI_length] at ro
  replace hb0 := stepB hb0 bo
  clear so bo
  go_wp2_with (refine wpList_store_row rfl 22 _ _ rfl (gI (fzF P2)) rfl rfl ro (by rw [gI_length, gI_length]) (poInfo _) ?_)
  intro z4 qW hw
  replace hb0 := hw.below _ _ bn.size hb0
  replace qF := qF.kept hb0
  replace qX := qX.kept hb0
  replace hbw := stepB hbw hb0
  clear hb0 hw bn ro
  go_wp2_with fail
  replace qF := qF.drew
  replace qX := qX.drew
  replace qW := qW.drew
  replace hbw := hbw.drew
  refine wpG_begin (by kernel_rfl) ?_
  refine wpG_take (i := 0) (oi := { dst := some 13, op := Op.load 24 (Operand.tmp 4), type := 24, pos := "law.go:51", after := #[], guard := none }) (v := ?_) rfl (by kernel_rfl) (by kernel_rfl) (by kernel_rfl) (by rfl) ?_ ?_
  rotate_left
  · intro W hW; refine Eq.trans (exec_load_row' 24 _ (by rfl) (by rfl) qX hW _ Tryd.underlying24 rfl (poInfoA _)) ?_; with_reducible rfl
  try simp only [Act.put, List.setIfInBounds_toArray, List.set_cons_zero, List.set_cons_succ]
  refine wpG_take (i := 1) (oi := { dst := some 14, op := Op.load 22 (Operand.tmp 1), type := 22, pos := "law.go:51", after := #[], guard := none }) (v := ?_) rfl (by kernel_rfl) (by kernel_rfl) (by kernel_rfl) (by rfl) ?_ ?_
  rotate_left
  · intro W hW; refine Eq.trans (exec_load_row' 22 _ (by rfl) (by rfl) qF hW _ Tryd.underlying22 rfl (poInfo _)) ?_; with_reducible rfl
  try simp only [Act.put, List.setIfInBounds_toArray, List.set_cons_zero, List.set_cons_succ]
  refine wpG_do (i := 2) (o := { dst := some 15, op := Op.call { callee := Callee.value (Operand.func 19), args := #[Operand.tmp 14], argTypes := #[22] }, type := 22, pos := "law.go:51", after := #[{ on := 1, ground := Ground.data }], guard := none }) (by kernel_rfl) rfl (by rfl) fun K hK => ?_
  go_simp
  refine (inverse11_any _ F HF.out rfl _).mono ?_
  rintro e x5 ⟨he, b5⟩
  obtain ⟨P3, hP⟩ : ∃ P : Nat → FZ, P = inw (rF F) := ⟨_, rfl⟩
  rw [← hP] at he
  subst he
  have E3 : Hid (P3 = inw (rF F)) := by show _ = _; rw [hP]
  clear hP
  replace qF := qF.kept b5
  replace qX := qX.kept b5
  replace qW := qW.kept b5
  replace hbw := stepB hbw b5
  refine hK.out _ _ b5 ?_
  clear hK K
  try simp only [Act.put, List.setIfInBounds_toArray, List.set_cons_zero, List.set_cons_succ]
  refine wpG_take (i := 3) (oi := { dst := some 16, op := Op.binOp BinOp.eql 24 (Operand.tmp 13) (Operand.tmp 15) 24, type := 4, pos := "law.go:51", after := #[{ on := 0, ground := Ground.data }, { on := 2, ground := Ground.data }], guard := none }) (v := ?_) rfl (by kernel_rfl) (by kernel_rfl) (by kernel_rfl) (by rfl) ?_ ?_
  rotate_left
  · intro W hW; have he := eq_poA (f := P1) (g := P3) (fun k hk => by rw [E1.out, E3.out]) W; first | (go_simp; done) | (go_simp; with_reducible rfl)
  try simp only [Act.put, List.setIfInBounds_toArray, List.set_cons_zero, List.set_cons_succ]
  refine wpG_take (i := 4) (oi := { dst := some 17, op := Op.move (Operand.tmp 16), type := 4, pos := "law.go:51", after := #[{ on := 3, ground := Ground.data }, { on := 2, ground := Ground.chain }], guard := none }) (v := ?_) rfl (by kernel_rfl) (by kernel_rfl) (by kernel_rfl) (by rfl) ?_ ?_
  rotate_left
  · intro W hW; first | (go_simp; done) | (go_simp; with_reducible rfl)
  try simp only [Act.put, List.setIfInBounds_toArray, List.set_cons_zero, List.set_cons_succ]
  refine wpG_take (i := 5) (oi := { dst := some 18, op := Op.load 24 (Operand.tmp 4), type := 24, pos := "law.go:51", after := #[{ on := 4, ground := Ground.guard }], guard := some (4, true) }) (v := ?_) rfl (by kernel_rfl) (by kernel_rfl) (by kernel_rfl) (by rfl) ?_ ?_
  rotate_left
  · intro W hW; refine Eq.trans (exec_load_row' 24 _ (by rfl) (by rfl) qX hW _ Tryd.underlying24 rfl (poInfoA _)) ?_; with_reducible rfl
  try simp only [Act.put, List.setIfInBounds_toArray, List.set_cons_zero, List.set_cons_succ]
  refine wpG_take (i := 7) (oi := { dst := some 20, op := Op.load 22 (Operand.tmp 5), type := 22, pos := "law.go:51", after := #[{ on := 4, ground := Ground.guard }], guard := some (4, true) }) (v := ?_) rfl (by kernel_rfl) (by kernel_rfl) (by kernel_rfl) (by rfl) ?_ ?_
  rotate_left
  · intro W hW; refine Eq.trans (exec_load_row' 22 _ (by rfl) (by rfl) qW hW _ Tryd.underlying22 rfl (poInfo _)) ?_; with_reducible rfl
  try simp only [Act.put, List.setIfInBounds_toArray, List.set_cons_zero, List.set_cons_succ]
  refine wpG_do (i := 6) (o := { dst := some 19, op := Op.call { callee := Callee.value (Operand.func 16), args := #[Operand.tmp 18], argTypes := #[24] }, type := 24, pos := "law.go:51", after := #[{ on := 5, ground := Ground.data }, { on := 4, ground := Ground.chain }, { on := 4, ground := Ground.guard }], guard := some (4, true) }) (by kernel_rfl) rfl (by rfl) fun K hK => ?_
  go_simp
  refine (nforward_any _ (fzF P1) (Po.fz _) rfl _ (HT.out.kept hbw)).mono ?_
  rintro e x6 ⟨he, b6⟩
  obtain ⟨P4, hP⟩ : ∃ P : Nat → FZ, P = fwd (rF (fzF P1)) := ⟨_, rfl⟩
  rw [← hP] at he
  subst he
  have E4 : Hid (P4 = fwd (P1)) := by show _ = _; rw [hP, rF_fz]
  clear hP
  replace qF := qF.kept b6
  replace qX := qX.kept b6
  replace qW := qW.kept b6
  replace hbw := stepB hbw b6
  refine hK.out _ _ b6 ?_
  clear hK K
  try simp only [Act.put, List.setIfInBounds_toArray, List.set_cons_zero, List.set_cons_succ]
  refine wpG_take (i := 8) (oi := { dst := some 21, op := Op.binOp BinOp.eql 24 (Operand.tmp 19) (Operand.tmp 20) 24, type := 4, pos := "law.go:51", after := #[{ on := 6, ground := Ground.data }, { on := 7, ground := Ground.data }, { on := 4, ground := Ground.guard }], guard := some (4, true) }) (v := ?_) rfl (by kernel_rfl) (by kernel_rfl) (by kernel_rfl) (by rfl) ?_ ?_
  rotate_left
  · intro W hW; have he := eq_poA (f := P4) (g := P2) (fun k hk => by rw [E4.out, E1.out, E2.out]; exact fwd_inw _ k hk) W; first | (go_simp; done) | (go_simp; with_reducible rfl)
  try simp only [Act.put, List.setIfInBounds_toArray, List.set_cons_zero, List.set_cons_succ]
  refine wpG_take (i := 9) (oi := { dst := some 22, op := Op.pick (Operand.tmp 17) (Operand.tmp 21) (Operand.const (Value.bool false)), type := 4, pos := "law.go:51", after := #[{ on := 4, ground := Ground.data }, { on := 8, ground := Ground.data }], guard := none }) (v := ?_) rfl (by kernel_rfl) (by kernel_rfl) (by kernel_rfl) (by rfl) ?_ ?_
  rotate_left
  · intro W hW; first | (go_simp; done) | (go_simp; with_reducible rfl)
  try simp only [Act.put, List.setIfInBounds_toArray, List.set_cons_zero, List.set_cons_succ]
  refine wpG_take (i := 10) (oi := { dst := some 23, op := Op.move (Operand.tmp 22), type := 4, pos := "law.go:51", after := #[{ on := 9, ground := Ground.data }, { on := 6, ground := Ground.chain }], guard := none }) (v := ?_) rfl (by kernel_rfl) (by kernel_rfl) (by kernel_rfl) (by rfl) ?_ ?_
  rotate_left
  · intro W hW; first | (go_simp; done) | (go_simp; with_reducible rfl)
  try simp only [Act.put, List.setIfInBounds_toArray, List.set_cons_zero, List.set_cons_succ]
  refine wpG_take (i := 11) (oi := { dst := some 24, op := Op.load 22 (Operand.tmp 1), type := 22, pos := "law.go:51", after := #[{ on := 10, ground := Ground.guard }], guard := some (10, true) }) (v := ?_) rfl (by kernel_rfl) (by kernel_rfl) (by kernel_rfl) (by rfl) ?_ ?_
  rotate_left
  · intro W hW; refine Eq.trans (exec_load_row' 22 _ (by rfl) (by rfl) qF hW _ Tryd.underlying22 rfl (poInfo _)) ?_; with_reducible rfl
  try simp only [Act.put, List.setIfInBounds_toArray, List.set_cons_zero, List.set_cons_succ]
  refine wpG_take (i := 14) (oi := { dst := some 27, op := Op.load 22 (Operand.tmp 5), type := 22, pos := "law.go:51", after := #[{ on := 10, ground := Ground.guard }], guard := some (10, true) }) (v := ?_) rfl (by kernel_rfl) (by kernel_rfl) (by kernel_rfl) (by rfl) ?_ ?_
  rotate_left
  · intro W hW; refine Eq.trans (exec_load_row' 22 _ (by rfl) (by rfl) qW hW _ Tryd.underlying22 rfl (poInfo _)) ?_; with_reducible rfl
  try simp only [Act.put, List.setIfInBounds_toArray, List.set_cons_zero, List.set_cons_succ]
  refine wpG_do (i := 12) (o := { dst := some 25, op := Op.call { callee := Callee.value (Operand.func 16), args := #[Operand.tmp 24], argTypes := #[24] }, type := 24, pos := "law.go:51", after := #[{ on := 11, ground := Ground.data }, { on := 10, ground := Ground.chain }, { on := 10, ground := Ground.guard }], guard := some (10, true) }) (by kernel_rfl) rfl (by rfl) fun K hK => ?_
  go_simp
  refine (nforward_any _ F HF.out rfl _ (HT.out.kept hbw)).mono ?_
  rintro e x7 ⟨he, b7⟩
  obtain ⟨P5, hP⟩ : ∃ P : Nat → FZ, P = fwd (rF F) := ⟨_, rfl⟩
  rw [← hP] at he
  subst he
  have E5 : Hid (P5 = fwd (rF F)) := by show _ = _; rw [hP]
  clear hP
  replace qF := qF.kept b7
  replace qX := qX.kept b7
  replace qW := qW.kept b7
  replace hbw := stepB hbw b7
  refine hK.out _ _ b7 ?_
  clear hK K
  try simp only [Act.put, List.setIfInBounds_toArray, List.set_cons_zero, List.set_cons_succ]
  refine wpG_do (i := 13) (o := { dst := some 26, op := Op.call { callee := Callee.value (Operand.func 18), args := #[Operand.tmp 25], argTypes := #[24] }, type := 24, pos := "law.go:51", after := #[{ on := 12, ground := Ground.data }, { on := 12, ground := Ground.chain }, { on := 10, ground := Ground.guard }], guard := some (10, true) }) (by kernel_rfl) rfl (by rfl) fun K hK => ?_
  go_simp
  refine (ninverse_any _ (fzF P5) (Po.fz _) rfl _ (HT.out.kept hbw)).mono ?_
  rintro e x8 ⟨he, b8⟩
  obtain ⟨P6, hP⟩ : ∃ P : Nat → FZ, P = inw (rF (fzF P5)) := ⟨_, rfl⟩
  rw [← hP] at he
  subst he
  have E6 : Hid (P6 = inw (P5)) := by show _ = _; rw [hP, rF_fz]
  clear hP
  replace qF := qF.kept b8
  replace qX := qX.kept b8
  replace qW := qW.kept b8
  replace hbw := stepB hbw b8
  refine hK.out _ _ b8 ?_
  clear hK K
  try simp only [Act.put, List.setIfInBounds_toArray, List.set_cons_zero, List.set_cons_succ]
  refine wpG_take (i := 15) (oi := { dst := some 28, op := Op.binOp BinOp.eql 24 (Operand.tmp 26) (Operand.tmp 27) 24, type := 4, pos := "law.go:51", after := #[{ on := 13, ground := Ground.data }, { on := 14, ground := Ground.data }, { on := 10, ground := Ground.guard }], guard := some (10, true) }) (v := ?_) rfl (by kernel_rfl) (by kernel_rfl) (by kernel_rfl) (by rfl) ?_ ?_
  rotate_left
  · intro W hW; have he := eq_poA (f := P6) (g := P2) (fun k hk => by rw [E6.out, E5.out, E2.out]; exact inw_fwd _ k hk) W; first | (go_simp; done) | (go_simp; with_reducible rfl)
  try simp only [Act.put, List.setIfInBounds_toArray, List.set_cons_zero, List.set_cons_succ]
  refine wpG_take (i := 16) (oi := { dst := some 29, op := Op.pick (Operand.tmp 23) (Operand.tmp 28) (Operand.const (Value.bool false)), type := 4, pos := "law.go:51", after := #[{ on := 10, ground := Ground.data }, { on := 15, ground := Ground.data }], guard := none }) (v := ?_) rfl (by kernel_rfl) (by kernel_rfl) (by kernel_rfl) (by rfl) ?_ ?_
  rotate_left
  · intro W hW; first | (go_simp; done) | (go_simp; with_reducible rfl)
  try simp only [Act.put, List.setIfInBounds_toArray, List.set_cons_zero, List.set_cons_succ]
  refine wpG_take (i := 17) (oi := { dst := some 2, op := Op.assign (Operand.tmp 29), type := 4, pos := "law.go:51", after := #[{ on := 16, ground := Ground.data }, { on := 13, ground := Ground.chain }, { on := 0, ground := Ground.phase }, { on := 1, ground := Ground.phase }, { on := 2, ground := Ground.phase }, { on := 3, ground := Ground.phase }, { on := 4, ground := Ground.phase }, { on := 5, ground := Ground.phase }, { on := 6, ground := Ground.phase }, { on := 7, ground := Ground.phase }, { on := 8, ground := Ground.phase }, { on := 9, ground := Ground.phase }, { on := 10, ground := Ground.phase }, { on := 11, ground := Ground.phase }, { on := 12, ground := Ground.phase }, { on := 13, ground := Ground.phase }, { on := 14, ground := Ground.phase }, { on := 15, ground := Ground.phase }, { on := 16, ground := Ground.phase }], guard := none }) (v := ?_) rfl (by kernel_rfl) (by kernel_rfl) (by kernel_rfl) (by rfl) ?_ ?_
  rotate_left
  · intro W hW; first | (go_simp; done) | (go_simp; with_reducible rfl)
  try simp only [Act.put, List.setIfInBounds_toArray, List.set_cons_zero, List.set_cons_succ]
  refine wpG_done (by kernel_rfl) ?_
  go_wp2
  go_ret
  exact ⟨rfl, hbw⟩
end Go.Proofs.YtbladcgdbhogcaaDoor
