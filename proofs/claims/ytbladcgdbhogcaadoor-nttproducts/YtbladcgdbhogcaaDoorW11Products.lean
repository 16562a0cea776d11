/- The product of any two polynomials is the document's, and by its factors it is the product of theirs: the walk. -/
import Derived.Test.YtbladcgdbhogcaaDoorN11j
import Derived.Test.YtbladcgdbhogcaaDoorRef11f
namespace Go.Proofs.YtbladcgdbhogcaaDoor
open Go.ChangeShapes Go.WideShapes Go.ChangeAt Go.RowKit
set_option linter.unusedSimpArgs false
set_option linter.unusedVariables false

set_option maxRecDepth 100000 in
set_option maxHeartbeats 4000000 in
theorem products_walk (AF AG : Array Value) (F G : Nat → Int) (hF : Po F) (hG : Po G) (hAF : AF = ((gI F).map (Value.int .i64)).toArray) (hAG : AG = ((gI G).map (Value.int .i64)).toArray) (w : World) (hT : PwT w) :
    Calls Tryd.prog 7 #[.agg AF, .agg AG] w fun e w' => e = .returned (.bool true) ∧ Below w.heap.size w w' := by
  have HF : Hid (Po F) := hF
  have HG : Hid (Po G) := hG
  have HT : Hid (PwT w) := hT
  clear hT hF hG
  go_enter Tryd.func7, Tryd.ntmps7
  go_wp2_with (refine wpList_box_row (k := .i64) rfl 22 _ rfl (gI F) (by rw [← hAF]; rfl) (gI_ne _) (poMax _) ?_)
  intro x1 qF bn sn
  rw [gI_length] at qF
  have hbw := bn
  clear bn sn hAF
  go_wp2_with (refine wpList_box_row (k := .i64) rfl 22 _ rfl (gI G) (by rw [← hAG]; rfl) (gI_ne _) (poMax _) ?_)
  intro x2 qG bn sn
  rw [gI_length] at qG
  replace qF := qF.kept bn
  replace hbw := stepB hbw bn
  clear bn sn hAG
  go_wp2_with fail
  refine (awake_any _ (HT.out.kept hbw)).mono ?_
  rintro e x3 ⟨rfl, bn⟩
  replace qF := qF.kept bn
  replace qG := qG.kept bn
  replace hbw := stepB hbw bn
  clear bn
  go_wp2_with (first | refine wpList_load_row rfl 22 _ rfl rfl qF _ Tryd.underlying22 rfl (poInfo _) ?_ | refine wpList_load_row rfl 22 _ rfl rfl qG _ Tryd.underlying22 rfl (poInfo _) ?_)
  refine (nproduct_any _ _ F G HF.out HG.out rfl rfl _ (HT.out.kept hbw)).mono ?_
  rintro e x4 ⟨he, bn⟩
  obtain ⟨P1, hP⟩ : ∃ P : Nat → FZ, P = pd (rF F) (rF G) := ⟨_, rfl⟩
  rw [← hP] at he
  subst he
  have E1 : Hid (P1 = pd (rF F) (rF G)) := by show _ = _; rw [hP]
  clear hP
  have hb0 := bn
  go_wp2_with (refine wpList_alloc_row (k := .i64) rfl 24 rfl (gI fun _ => 0) (alloc_poA _) (gI_ne _) (poMax _) ?_)
  intro y4 ro bo so
  rw [gI_length] at ro
  replace hb0 := stepB hb0 bo
  clear so bo
  go_wp2_with (refine wpList_store_row rfl 24 _ _ rfl (gI (fzF P1)) rfl rfl ro (by rw [gI_length, gI_length]) (poInfoA _) ?_)
  intro z4 qX hw
  replace hb0 := hw.below _ _ bn.size hb0
  replace qF := qF.kept hb0
  replace qG := qG.kept hb0
  replace hbw := stepB hbw hb0
  clear hb0 hw bn ro
  go_wp2_with fail
  replace qF := qF.drew
  replace qG := qG.drew
  replace qX := qX.drew
  replace hbw := hbw.drew
  refine wpG_begin (by kernel_rfl) ?_
  refine wpG_take (i := 0) (oi := { dst := some 13, op := Op.load 24 (Operand.tmp 6), type := 24, pos := "law.go:67", after := #[], guard := none }) (v := ?_) rfl (by kernel_rfl) (by kernel_rfl) (by kernel_rfl) (by rfl) ?_ ?_
  rotate_left
  · intro W hW; refine Eq.trans (exec_load_row' 24 _ (by rfl) (by rfl) qX hW _ Tryd.underlying24 rfl (poInfoA _)) ?_; with_reducible rfl
  try simp only [Act.put, List.setIfInBounds_toArray, List.set_cons_zero, List.set_cons_succ]
  refine wpG_take (i := 1) (oi := { dst := some 14, op := Op.load 22 (Operand.tmp 2), type := 22, pos := "law.go:67", after := #[], guard := none }) (v := ?_) rfl (by kernel_rfl) (by kernel_rfl) (by kernel_rfl) (by rfl) ?_ ?_
  rotate_left
  · intro W hW; refine Eq.trans (exec_load_row' 22 _ (by rfl) (by rfl) qF hW _ Tryd.underlying22 rfl (poInfo _)) ?_; with_reducible rfl
  try simp only [Act.put, List.setIfInBounds_toArray, List.set_cons_zero, List.set_cons_succ]
  refine wpG_take (i := 2) (oi := { dst := some 15, op := Op.load 22 (Operand.tmp 3), type := 22, pos := "law.go:67", after := #[], guard := none }) (v := ?_) rfl (by kernel_rfl) (by kernel_rfl) (by kernel_rfl) (by rfl) ?_ ?_
  rotate_left
  · intro W hW; refine Eq.trans (exec_load_row' 22 _ (by rfl) (by rfl) qG hW _ Tryd.underlying22 rfl (poInfo _)) ?_; with_reducible rfl
  try simp only [Act.put, List.setIfInBounds_toArray, List.set_cons_zero, List.set_cons_succ]
  refine wpG_do (i := 3) (o := { dst := some 16, op := Op.call { callee := Callee.value (Operand.func 23), args := #[Operand.tmp 14, Operand.tmp 15], argTypes := #[22, 22] }, type := 22, pos := "law.go:67", after := #[{ on := 1, ground := Ground.data }, { on := 2, ground := Ground.data }], guard := none }) (by kernel_rfl) rfl (by rfl) fun K hK => ?_
  go_simp
  refine (product11_any _ _ F G HF.out HG.out rfl rfl _).mono ?_
  rintro e x5 ⟨he, b5⟩
  obtain ⟨P2, hP⟩ : ∃ P : Nat → FZ, P = pd (rF F) (rF G) := ⟨_, rfl⟩
  rw [← hP] at he
  subst he
  have E2 : Hid (P2 = pd (rF F) (rF G)) := by show _ = _; rw [hP]
  clear hP
  replace qF := qF.kept b5
  replace qG := qG.kept b5
  replace qX := qX.kept b5
  replace hbw := stepB hbw b5
  refine hK.out _ _ b5 ?_
  clear hK K
  try simp only [Act.put, List.setIfInBounds_toArray, List.set_cons_zero, List.set_cons_succ]
  refine wpG_take (i := 4) (oi := { dst := some 17, op := Op.binOp BinOp.eql 24 (Operand.tmp 13) (Operand.tmp 16) 24, type := 4, pos := "law.go:67", after := #[{ on := 0, ground := Ground.data }, { on := 3, ground := Ground.data }], guard := none }) (v := ?_) rfl (by kernel_rfl) (by kernel_rfl) (by kernel_rfl) (by rfl) ?_ ?_
  rotate_left
  · intro W hW; have he := eq_poA (f := P1) (g := P2) (fun k hk => by rw [E1.out, E2.out]) W; first | (go_simp; done) | (go_simp; with_reducible rfl)
  try simp only [Act.put, List.setIfInBounds_toArray, List.set_cons_zero, List.set_cons_succ]
  refine wpG_take (i := 5) (oi := { dst := some 18, op := Op.move (Operand.tmp 17), type := 4, pos := "law.go:67", after := #[{ on := 4, ground := Ground.data }, { on := 3, ground := Ground.chain }], guard := none }) (v := ?_) rfl (by kernel_rfl) (by kernel_rfl) (by kernel_rfl) (by rfl) ?_ ?_
  rotate_left
  · intro W hW; first | (go_simp; done) | (go_simp; with_reducible rfl)
  try simp only [Act.put, List.setIfInBounds_toArray, List.set_cons_zero, List.set_cons_succ]
  refine wpG_take (i := 6) (oi := { dst := some 19, op := Op.load 24 (Operand.tmp 6), type := 24, pos := "law.go:67", after := #[{ on := 5, ground := Ground.guard }], guard := some (5, true) }) (v := ?_) rfl (by kernel_rfl) (by kernel_rfl) (by kernel_rfl) (by rfl) ?_ ?_
  rotate_left
  · intro W hW; refine Eq.trans (exec_load_row' 24 _ (by rfl) (by rfl) qX hW _ Tryd.underlying24 rfl (poInfoA _)) ?_; with_reducible rfl
  try simp only [Act.put, List.setIfInBounds_toArray, List.set_cons_zero, List.set_cons_succ]
  refine wpG_take (i := 8) (oi := { dst := some 21, op := Op.load 22 (Operand.tmp 2), type := 22, pos := "law.go:67", after := #[{ on := 5, ground := Ground.guard }], guard := some (5, true) }) (v := ?_) rfl (by kernel_rfl) (by kernel_rfl) (by kernel_rfl) (by rfl) ?_ ?_
  rotate_left
  · intro W hW; refine Eq.trans (exec_load_row' 22 _ (by rfl) (by rfl) qF hW _ Tryd.underlying22 rfl (poInfo _)) ?_; with_reducible rfl
  try simp only [Act.put, List.setIfInBounds_toArray, List.set_cons_zero, List.set_cons_succ]
  refine wpG_take (i := 10) (oi := { dst := some 23, op := Op.load 22 (Operand.tmp 3), type := 22, pos := "law.go:67", after := #[{ on := 5, ground := Ground.guard }], guard := some (5, true) }) (v := ?_) rfl (by kernel_rfl) (by kernel_rfl) (by kernel_rfl) (by rfl) ?_ ?_
  rotate_left
  · intro W hW; refine Eq.trans (exec_load_row' 22 _ (by rfl) (by rfl) qG hW _ Tryd.underlying22 rfl (poInfo _)) ?_; with_reducible rfl
  try simp only [Act.put, List.setIfInBounds_toArray, List.set_cons_zero, List.set_cons_succ]
  refine wpG_do (i := 7) (o := { dst := some 20, op := Op.call { callee := Callee.value (Operand.func 16), args := #[Operand.tmp 19], argTypes := #[24] }, type := 24, pos := "law.go:67", after := #[{ on := 6, ground := Ground.data }, { on := 5, ground := Ground.chain }, { on := 5, ground := Ground.guard }], guard := some (5, true) }) (by kernel_rfl) rfl (by rfl) fun K hK => ?_
  go_simp
  refine (nforward_any _ (fzF P1) (Po.fz _) rfl _ (HT.out.kept hbw)).mono ?_
  rintro e x6 ⟨he, b6⟩
  obtain ⟨P3, hP⟩ : ∃ P : Nat → FZ, P = fwd (rF (fzF P1)) := ⟨_, rfl⟩
  rw [← hP] at he
  subst he
  have E3 : Hid (P3 = fwd (P1)) := by show _ = _; rw [hP, rF_fz]
  clear hP
  replace qF := qF.kept b6
  replace qG := qG.kept b6
  replace qX := qX.kept b6
  replace hbw := stepB hbw b6
  refine hK.out _ _ b6 ?_
  clear hK K
  try simp only [Act.put, List.setIfInBounds_toArray, List.set_cons_zero, List.set_cons_succ]
  refine wpG_do (i := 9) (o := { dst := some 22, op := Op.call { callee := Callee.value (Operand.func 16), args := #[Operand.tmp 21], argTypes := #[24] }, type := 24, pos := "law.go:67", after := #[{ on := 8, ground := Ground.data }, { on := 7, ground := Ground.chain }, { on := 5, ground := Ground.guard }], guard := some (5, true) }) (by kernel_rfl) rfl (by rfl) fun K hK => ?_
  go_simp
  refine (nforward_any _ F HF.out rfl _ (HT.out.kept hbw)).mono ?_
  rintro e x7 ⟨he, b7⟩
  obtain ⟨P4, hP⟩ : ∃ P : Nat → FZ, P = fwd (rF F) := ⟨_, rfl⟩
  rw [← hP] at he
  subst he
  have E4 : Hid (P4 = fwd (rF F)) := by show _ = _; rw [hP]
  clear hP
  replace qF := qF.kept b7
  replace qG := qG.kept b7
  replace qX := qX.kept b7
  replace hbw := stepB hbw b7
  refine hK.out _ _ b7 ?_
  clear hK K
  try simp only [Act.put, List.setIfInBounds_toArray, List.set_cons_zero, List.set_cons_succ]
  refine wpG_do (i := 11) (o := { dst := some 24, op := Op.call { callee := Callee.value (Operand.func 16), args := #[Operand.tmp 23], argTypes := #[24] }, type := 24, pos := "law.go:67", after := #[{ on := 10, ground := Ground.data }, { on := 9, ground := Ground.chain }, { on := 5, ground := Ground.guard }], guard := some (5, true) }) (by kernel_rfl) rfl (by rfl) fun K hK => ?_
  go_simp
  refine (nforward_any _ G HG.out rfl _ (HT.out.kept hbw)).mono ?_
  rintro e x8 ⟨he, b8⟩
  obtain ⟨P5, hP⟩ : ∃ P : Nat → FZ, P = fwd (rF G) := ⟨_, rfl⟩
  rw [← hP] at he
  subst he
  have E5 : Hid (P5 = fwd (rF G)) := by show _ = _; rw [hP]
  clear hP
  replace qF := qF.kept b8
  replace qG := qG.kept b8
  replace qX := qX.kept b8
  replace hbw := stepB hbw b8
  refine hK.out _ _ b8 ?_
  clear hK K
  try simp only [Act.put, List.setIfInBounds_toArray, List.set_cons_zero, List.set_cons_succ]
  refine wpG_do (i := 12) (o := { dst := some 25, op := Op.call { callee := Callee.value (Operand.func 20), args := #[Operand.tmp 22, Operand.tmp 24], argTypes := #[24, 24] }, type := 24, pos := "law.go:67", after := #[{ on := 9, ground := Ground.data }, { on := 11, ground := Ground.data }, { on := 11, ground := Ground.chain }, { on := 5, ground := Ground.guard }], guard := some (5, true) }) (by kernel_rfl) rfl (by rfl) fun K hK => ?_
  go_simp
  refine (ntimes_any _ _ (fzF P4) (fzF P5) (Po.fz _) (Po.fz _) rfl rfl _ (HT.out.kept hbw)).mono ?_
  rintro e x9 ⟨he, b9⟩
  obtain ⟨P6, hP⟩ : ∃ P : Nat → FZ, P = tm (rF (fzF P4)) (rF (fzF P5)) := ⟨_, rfl⟩
  rw [← hP] at he
  subst he
  have E6 : Hid (P6 = tm (P4) (P5)) := by show _ = _; rw [hP, rF_fz, rF_fz]
  clear hP
  replace qF := qF.kept b9
  replace qG := qG.kept b9
  replace qX := qX.kept b9
  replace hbw := stepB hbw b9
  refine hK.out _ _ b9 ?_
  clear hK K
  try simp only [Act.put, List.setIfInBounds_toArray, List.set_cons_zero, List.set_cons_succ]
  refine wpG_take (i := 13) (oi := { dst := some 26, op := Op.binOp BinOp.eql 24 (Operand.tmp 20) (Operand.tmp 25) 24, type := 4, pos := "law.go:67", after := #[{ on := 7, ground := Ground.data }, { on := 12, ground := Ground.data }, { on := 5, ground := Ground.guard }], guard := some (5, true) }) (v := ?_) rfl (by kernel_rfl) (by kernel_rfl) (by kernel_rfl) (by rfl) ?_ ?_
  rotate_left
  · intro W hW; have he := eq_poA (f := P3) (g := P6) (fun k hk => by rw [E3.out, E1.out, E6.out, E4.out, E5.out]; exact fwd_pd _ _ k hk) W; first | (go_simp; done) | (go_simp; with_reducible rfl)
  try simp only [Act.put, List.setIfInBounds_toArray, List.set_cons_zero, List.set_cons_succ]
  refine wpG_take (i := 14) (oi := { dst := some 27, op := Op.pick (Operand.tmp 18) (Operand.tmp 26) (Operand.const (Value.bool false)), type := 4, pos := "law.go:67", after := #[{ on := 5, ground := Ground.data }, { on := 13, ground := Ground.data }], guard := none }) (v := ?_) rfl (by kernel_rfl) (by kernel_rfl) (by kernel_rfl) (by rfl) ?_ ?_
  rotate_left
  · intro W hW; first | (go_simp; done) | (go_simp; with_reducible rfl)
  try simp only [Act.put, List.setIfInBounds_toArray, List.set_cons_zero, List.set_cons_succ]
  refine wpG_take (i := 15) (oi := { dst := some 4, op := Op.assign (Operand.tmp 27), type := 4, pos := "law.go:67", after := #[{ on := 14, ground := Ground.data }, { on := 12, ground := Ground.chain }, { on := 0, ground := Ground.phase }, { on := 1, ground := Ground.phase }, { on := 2, ground := Ground.phase }, { on := 3, ground := Ground.phase }, { on := 4, ground := Ground.phase }, { on := 5, ground := Ground.phase }, { on := 6, ground := Ground.phase }, { on := 7, ground := Ground.phase }, { on := 8, ground := Ground.phase }, { on := 9, ground := Ground.phase }, { on := 10, ground := Ground.phase }, { on := 11, ground := Ground.phase }, { on := 12, ground := Ground.phase }, { on := 13, ground := Ground.phase }, { on := 14, ground := Ground.phase }], guard := none }) (v := ?_) rfl (by kernel_rfl) (by kernel_rfl) (by kernel_rfl) (by rfl) ?_ ?_
  rotate_left
  · intro W hW; first | (go_simp; done) | (go_simp; with_reducible rfl)
  try simp only [Act.put, List.setIfInBounds_toArray, List.set_cons_zero, List.set_cons_succ]
  refine wpG_done (by kernel_rfl) ?_
  go_wp2
  go_ret
  exact ⟨rfl, hbw⟩
end Go.Proofs.YtbladcgdbhogcaaDoor
