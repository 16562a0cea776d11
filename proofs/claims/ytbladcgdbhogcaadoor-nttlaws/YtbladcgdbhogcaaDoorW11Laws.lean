/- What a sum is by its factors is the sum of theirs; products can be turned and grouped: the walk. -/
import Derived.Test.YtbladcgdbhogcaaDoorN11j
namespace Go.Proofs.YtbladcgdbhogcaaDoor
open Go.ChangeShapes Go.WideShapes Go.ChangeAt Go.RowKit
set_option linter.unusedSimpArgs false
set_option linter.unusedVariables false

set_option maxRecDepth 100000 in
set_option maxHeartbeats 4000000 in
theorem laws_walk (AF AG AH : Array Value) (F G H : Nat → Int) (hF : Po F) (hG : Po G) (hH : Po H) (hAF : AF = ((gI F).map (Value.int .i64)).toArray) (hAG : AG = ((gI G).map (Value.int .i64)).toArray) (hAH : AH = ((gI H).map (Value.int .i64)).toArray) (w : World) (hT : PwT w) :
    Calls Tryd.prog 8 #[.agg AF, .agg AG, .agg AH] w fun e w' => e = .returned (.bool true) ∧ Below w.heap.size w w' := by
  have HF : Hid (Po F) := hF
  have HG : Hid (Po G) := hG
  have HH : Hid (Po H) := hH
  have HT : Hid (PwT w) := hT
  clear hT hF hG hH
  go_enter Tryd.func8, Tryd.ntmps8
  go_wp2_with (refine wpList_box_row (k := .i64) rfl 22 _ rfl (gI F) (by rw [← hAF]; rfl) (gI_ne _) (poMax _) ?_)
  intro x1 qF bn sn
  rw [gI_length] at qF
  have hbw := bn
  clear bn sn hAF
  go_wp2_with (refine wpList_box_row (k := .i64) rfl 22 _ rfl (gI G) (by rw [← hAG]; rfl) (gI_ne _) (poMax _) ?_)
  intro x2 qG bn sn
  rw [gI_length] at qG
  replace qF := qF.kept bn
  replace hbw := stepB hbw bn
  clear bn sn hAG
  go_wp2_with (refine wpList_box_row (k := .i64) rfl 22 _ rfl (gI H) (by rw [← hAH]; rfl) (gI_ne _) (poMax _) ?_)
  intro x3 qH bn sn
  rw [gI_length] at qH
  replace qF := qF.kept bn
  replace qG := qG.kept bn
  replace hbw := stepB hbw bn
  clear bn sn hAH
  go_wp2_with fail
  refine (awake_any _ (HT.out.kept hbw)).mono ?_
  rintro e x4 ⟨rfl, bn⟩
  replace qF := qF.kept bn
  replace qG := qG.kept bn
  replace qH := qH.kept bn
  replace hbw := stepB hbw bn
  clear bn
  go_wp2_with fail
  replace qF := qF.drew
  replace qG := qG.drew
  replace qH := qH.drew
  replace hbw := hbw.drew
  refine wpG_begin (by kernel_rfl) ?_
  refine wpG_take (i := 0) (oi := { dst := some 15, op := Op.load 22 (Operand.tmp 3), type := 22, pos := "law.go:76", after := #[], guard := none }) (v := ?_) rfl (by kernel_rfl) (by kernel_rfl) (by kernel_rfl) (by rfl) ?_ ?_
  rotate_left
  · intro W hW; refine Eq.trans (exec_load_row' 22 _ (by rfl) (by rfl) qF hW _ Tryd.underlying22 rfl (poInfo _)) ?_; with_reducible rfl
  try simp only [Act.put, List.setIfInBounds_toArray, List.set_cons_zero, List.set_cons_succ]
  refine wpG_take (i := 1) (oi := { dst := some 16, op := Op.load 22 (Operand.tmp 4), type := 22, pos := "law.go:76", after := #[], guard := none }) (v := ?_) rfl (by kernel_rfl) (by kernel_rfl) (by kernel_rfl) (by rfl) ?_ ?_
  rotate_left
  · intro W hW; refine Eq.trans (exec_load_row' 22 _ (by rfl) (by rfl) qG hW _ Tryd.underlying22 rfl (poInfo _)) ?_; with_reducible rfl
  try simp only [Act.put, List.setIfInBounds_toArray, List.set_cons_zero, List.set_cons_succ]
  refine wpG_take (i := 4) (oi := { dst := some 19, op := Op.load 22 (Operand.tmp 3), type := 22, pos := "law.go:76", after := #[], guard := none }) (v := ?_) rfl (by kernel_rfl) (by kernel_rfl) (by kernel_rfl) (by rfl) ?_ ?_
  rotate_left
  · intro W hW; refine Eq.trans (exec_load_row' 22 _ (by rfl) (by rfl) qF hW _ Tryd.underlying22 rfl (poInfo _)) ?_; with_reducible rfl
  try simp only [Act.put, List.setIfInBounds_toArray, List.set_cons_zero, List.set_cons_succ]
  refine wpG_take (i := 6) (oi := { dst := some 21, op := Op.load 22 (Operand.tmp 4), type := 22, pos := "law.go:76", after := #[], guard := none }) (v := ?_) rfl (by kernel_rfl) (by kernel_rfl) (by kernel_rfl) (by rfl) ?_ ?_
  rotate_left
  · intro W hW; refine Eq.trans (exec_load_row' 22 _ (by rfl) (by rfl) qG hW _ Tryd.underlying22 rfl (poInfo _)) ?_; with_reducible rfl
  try simp only [Act.put, List.setIfInBounds_toArray, List.set_cons_zero, List.set_cons_succ]
  refine wpG_do (i := 2) (o := { dst := some 17, op := Op.call { callee := Callee.value (Operand.func 10), args := #[Operand.tmp 15, Operand.tmp 16], argTypes := #[24, 24] }, type := 24, pos := "law.go:76", after := #[{ on := 0, ground := Ground.data }, { on := 1, ground := Ground.data }], guard := none }) (by kernel_rfl) rfl (by rfl) fun K hK => ?_
  go_simp
  refine (nplus_any _ _ F G HF.out HG.out rfl rfl _).mono ?_
  rintro e x5 ⟨he, b5⟩
  obtain ⟨P1, hP⟩ : ∃ P : Nat → FZ, P = fun k => rF F k + rF G k := ⟨_, rfl⟩
  rw [← hP] at he
  subst he
  have E1 : Hid (P1 = fun k => rF F k + rF G k) := by show _ = _; rw [hP]
  clear hP
  replace qF := qF.kept b5
  replace qG := qG.kept b5
  replace qH := qH.kept b5
  replace hbw := stepB hbw b5
  refine hK.out _ _ b5 ?_
  clear hK K
  try simp only [Act.put, List.setIfInBounds_toArray, List.set_cons_zero, List.set_cons_succ]
  refine wpG_do (i := 3) (o := { dst := some 18, op := Op.call { callee := Callee.value (Operand.func 16), args := #[Operand.tmp 17], argTypes := #[24] }, type := 24, pos := "law.go:76", after := #[{ on := 2, ground := Ground.data }, { on := 2, ground := Ground.chain }], guard := none }) (by kernel_rfl) rfl (by rfl) fun K hK => ?_
  go_simp
  refine (nforward_any _ (fzF P1) (Po.fz _) rfl _ (HT.out.kept hbw)).mono ?_
  rintro e x6 ⟨he, b6⟩
  obtain ⟨P2, hP⟩ : ∃ P : Nat → FZ, P = fwd (rF (fzF P1)) := ⟨_, rfl⟩
  rw [← hP] at he
  subst he
  have E2 : Hid (P2 = fwd (P1)) := by show _ = _; rw [hP, rF_fz]
  clear hP
  replace qF := qF.kept b6
  replace qG := qG.kept b6
  replace qH := qH.kept b6
  replace hbw := stepB hbw b6
  refine hK.out _ _ b6 ?_
  clear hK K
  try simp only [Act.put, List.setIfInBounds_toArray, List.set_cons_zero, List.set_cons_succ]
  refine wpG_do (i := 5) (o := { dst := some 20, op := Op.call { callee := Callee.value (Operand.func 16), args := #[Operand.tmp 19], argTypes := #[24] }, type := 24, pos := "law.go:76", after := #[{ on := 4, ground := Ground.data }, { on := 3, ground := Ground.chain }], guard := none }) (by kernel_rfl) rfl (by rfl) fun K hK => ?_
  go_simp
  refine (nforward_any _ F HF.out rfl _ (HT.out.kept hbw)).mono ?_
  rintro e x7 ⟨he, b7⟩
  obtain ⟨P3, hP⟩ : ∃ P : Nat → FZ, P = fwd (rF F) := ⟨_, rfl⟩
  rw [← hP] at he
  subst he
  have E3 : Hid (P3 = fwd (rF F)) := by show _ = _; rw [hP]
  clear hP
  replace qF := qF.kept b7
  replace qG := qG.kept b7
  replace qH := qH.kept b7
  replace hbw := stepB hbw b7
  refine hK.out _ _ b7 ?_
  clear hK K
  try simp only [Act.put, List.setIfInBounds_toArray, List.set_cons_zero, List.set_cons_succ]
  refine wpG_do (i := 7) (o := { dst := some 22, op := Op.call { callee := Callee.value (Operand.func 16), args := #[Operand.tmp 21], argTypes := #[24] }, type := 24, pos := "law.go:76", after := #[{ on := 6, ground := Ground.data }, { on := 5, ground := Ground.chain }], guard := none }) (by kernel_rfl) rfl (by rfl) fun K hK => ?_
  go_simp
  refine (nforward_any _ G HG.out rfl _ (HT.out.kept hbw)).mono ?_
  rintro e x8 ⟨he, b8⟩
  obtain ⟨P4, hP⟩ : ∃ P : Nat → FZ, P = fwd (rF G) := ⟨_, rfl⟩
  rw [← hP] at he
  subst he
  have E4 : Hid (P4 = fwd (rF G)) := by show _ = _; rw [hP]
  clear hP
  replace qF := qF.kept b8
  replace qG := qG.kept b8
  replace qH := qH.kept b8
  replace hbw := stepB hbw b8
  refine hK.out _ _ b8 ?_
  clear hK K
  try simp only [Act.put, List.setIfInBounds_toArray, List.set_cons_zero, List.set_cons_succ]
  refine wpG_do (i := 8) (o := { dst := some 23, op := Op.call { callee := Callee.value (Operand.func 10), args := #[Operand.tmp 20, Operand.tmp 22], argTypes := #[24, 24] }, type := 24, pos := "law.go:76", after := #[{ on := 5, ground := Ground.data }, { on := 7, ground := Ground.data }, { on := 7, ground := Ground.chain }], guard := none }) (by kernel_rfl) rfl (by rfl) fun K hK => ?_
  go_simp
  refine (nplus_any _ _ (fzF P3) (fzF P4) (Po.fz _) (Po.fz _) rfl rfl _).mono ?_
  rintro e x9 ⟨he, b9⟩
  obtain ⟨P5, hP⟩ : ∃ P : Nat → FZ, P = fun k => rF (fzF P3) k + rF (fzF P4) k := ⟨_, rfl⟩
  rw [← hP] at he
  subst he
  have E5 : Hid (P5 = fun k => P3 k + P4 k) := by show _ = _; rw [hP, rF_fz, rF_fz]
  clear hP
  replace qF := qF.kept b9
  replace qG := qG.kept b9
  replace qH := qH.kept b9
  replace hbw := stepB hbw b9
  refine hK.out _ _ b9 ?_
  clear hK K
  try simp only [Act.put, List.setIfInBounds_toArray, List.set_cons_zero, List.set_cons_succ]
  refine wpG_take (i := 9) (oi := { dst := some 24, op := Op.binOp BinOp.eql 24 (Operand.tmp 18) (Operand.tmp 23) 24, type := 4, pos := "law.go:76", after := #[{ on := 3, ground := Ground.data }, { on := 8, ground := Ground.data }], guard := none }) (v := ?_) rfl (by kernel_rfl) (by kernel_rfl) (by kernel_rfl) (by rfl) ?_ ?_
  rotate_left
  · intro W hW; have he := eq_poA (f := P2) (g := P5) (fun k hk => by rw [E2.out, E1.out, E5.out, E3.out, E4.out]; exact fwd_add _ _ k) W; first | (go_simp; done) | (go_simp; with_reducible rfl)
  try simp only [Act.put, List.setIfInBounds_toArray, List.set_cons_zero, List.set_cons_succ]
  refine wpG_take (i := 10) (oi := { dst := some 8, op := Op.assign (Operand.tmp 24), type := 4, pos := "law.go:76", after := #[{ on := 9, ground := Ground.data }, { on := 8, ground := Ground.chain }, { on := 0, ground := Ground.phase }, { on := 1, ground := Ground.phase }, { on := 2, ground := Ground.phase }, { on := 3, ground := Ground.phase }, { on := 4, ground := Ground.phase }, { on := 5, ground := Ground.phase }, { on := 6, ground := Ground.phase }, { on := 7, ground := Ground.phase }, { on := 8, ground := Ground.phase }, { on := 9, ground := Ground.phase }], guard := none }) (v := ?_) rfl (by kernel_rfl) (by kernel_rfl) (by kernel_rfl) (by rfl) ?_ ?_
  rotate_left
  · intro W hW; first | (go_simp; done) | (go_simp; with_reducible rfl)
  try simp only [Act.put, List.setIfInBounds_toArray, List.set_cons_zero, List.set_cons_succ]
  refine wpG_done (by kernel_rfl) ?_
  go_wp2_with fail
  replace qF := qF.drew
  replace qG := qG.drew
  replace qH := qH.drew
  replace hbw := hbw.drew
  refine wpG_begin (by kernel_rfl) ?_
  refine wpG_take (i := 0) (oi := { dst := some 25, op := Op.load 22 (Operand.tmp 3), type := 22, pos := "law.go:77", after := #[], guard := none }) (v := ?_) rfl (by kernel_rfl) (by kernel_rfl) (by kernel_rfl) (by rfl) ?_ ?_
  rotate_left
  · intro W hW; refine Eq.trans (exec_load_row' 22 _ (by rfl) (by rfl) qF hW _ Tryd.underlying22 rfl (poInfo _)) ?_; with_reducible rfl
  try simp only [Act.put, List.setIfInBounds_toArray, List.set_cons_zero, List.set_cons_succ]
  refine wpG_take (i := 1) (oi := { dst := some 26, op := Op.load 22 (Operand.tmp 4), type := 22, pos := "law.go:77", after := #[], guard := none }) (v := ?_) rfl (by kernel_rfl) (by kernel_rfl) (by kernel_rfl) (by rfl) ?_ ?_
  rotate_left
  · intro W hW; refine Eq.trans (exec_load_row' 22 _ (by rfl) (by rfl) qG hW _ Tryd.underlying22 rfl (poInfo _)) ?_; with_reducible rfl
  try simp only [Act.put, List.setIfInBounds_toArray, List.set_cons_zero, List.set_cons_succ]
  refine wpG_take (i := 3) (oi := { dst := some 28, op := Op.load 22 (Operand.tmp 4), type := 22, pos := "law.go:77", after := #[], guard := none }) (v := ?_) rfl (by kernel_rfl) (by kernel_rfl) (by kernel_rfl) (by rfl) ?_ ?_
  rotate_left
  · intro W hW; refine Eq.trans (exec_load_row' 22 _ (by rfl) (by rfl) qG hW _ Tryd.underlying22 rfl (poInfo _)) ?_; with_reducible rfl
  try simp only [Act.put, List.setIfInBounds_toArray, List.set_cons_zero, List.set_cons_succ]
  refine wpG_take (i := 4) (oi := { dst := some 29, op := Op.load 22 (Operand.tmp 3), type := 22, pos := "law.go:77", after := #[], guard := none }) (v := ?_) rfl (by kernel_rfl) (by kernel_rfl) (by kernel_rfl) (by rfl) ?_ ?_
  rotate_left
  · intro W hW; refine Eq.trans (exec_load_row' 22 _ (by rfl) (by rfl) qF hW _ Tryd.underlying22 rfl (poInfo _)) ?_; with_reducible rfl
  try simp only [Act.put, List.setIfInBounds_toArray, List.set_cons_zero, List.set_cons_succ]
  refine wpG_do (i := 2) (o := { dst := some 27, op := Op.call { callee := Callee.value (Operand.func 22), args := #[Operand.tmp 25, Operand.tmp 26], argTypes := #[24, 24] }, type := 24, pos := "law.go:77", after := #[{ on := 0, ground := Ground.data }, { on := 1, ground := Ground.data }], guard := none }) (by kernel_rfl) rfl (by rfl) fun K hK => ?_
  go_simp
  refine (nproduct_any _ _ F G HF.out HG.out rfl rfl _ (HT.out.kept hbw)).mono ?_
  rintro e x10 ⟨he, b10⟩
  obtain ⟨P6, hP⟩ : ∃ P : Nat → FZ, P = pd (rF F) (rF G) := ⟨_, rfl⟩
  rw [← hP] at he
  subst he
  have E6 : Hid (P6 = pd (rF F) (rF G)) := by show _ = _; rw [hP]
  clear hP
  replace qF := qF.kept b10
  replace qG := qG.kept b10
  replace qH := qH.kept b10
  replace hbw := stepB hbw b10
  refine hK.out _ _ b10 ?_
  clear hK K
  try simp only [Act.put, List.setIfInBounds_toArray, List.set_cons_zero, List.set_cons_succ]
  refine wpG_do (i := 5) (o := { dst := some 30, op := Op.call { callee := Callee.value (Operand.func 22), args := #[Operand.tmp 28, Operand.tmp 29], argTypes := #[24, 24] }, type := 24, pos := "law.go:77", after := #[{ on := 3, ground := Ground.data }, { on := 4, ground := Ground.data }, { on := 2, ground := Ground.chain }], guard := none }) (by kernel_rfl) rfl (by rfl) fun K hK => ?_
  go_simp
  refine (nproduct_any _ _ G F HG.out HF.out rfl rfl _ (HT.out.kept hbw)).mono ?_
  rintro e x11 ⟨he, b11⟩
  obtain ⟨P7, hP⟩ : ∃ P : Nat → FZ, P = pd (rF G) (rF F) := ⟨_, rfl⟩
  rw [← hP] at he
  subst he
  have E7 : Hid (P7 = pd (rF G) (rF F)) := by show _ = _; rw [hP]
  clear hP
  replace qF := qF.kept b11
  replace qG := qG.kept b11
  replace qH := qH.kept b11
  replace hbw := stepB hbw b11
  refine hK.out _ _ b11 ?_
  clear hK K
  try simp only [Act.put, List.setIfInBounds_toArray, List.set_cons_zero, List.set_cons_succ]
  refine wpG_take (i := 6) (oi := { dst := some 31, op := Op.binOp BinOp.eql 24 (Operand.tmp 27) (Operand.tmp 30) 24, type := 4, pos := "law.go:77", after := #[{ on := 2, ground := Ground.data }, { on := 5, ground := Ground.data }], guard := none }) (v := ?_) rfl (by kernel_rfl) (by kernel_rfl) (by kernel_rfl) (by rfl) ?_ ?_
  rotate_left
  · intro W hW; have he := eq_poA (f := P6) (g := P7) (fun k hk => by rw [E6.out, E7.out]; exact pd_comm _ _ k hk) W; first | (go_simp; done) | (go_simp; with_reducible rfl)
  try simp only [Act.put, List.setIfInBounds_toArray, List.set_cons_zero, List.set_cons_succ]
  refine wpG_take (i := 7) (oi := { dst := some 9, op := Op.assign (Operand.tmp 31), type := 4, pos := "law.go:77", after := #[{ on := 6, ground := Ground.data }, { on := 5, ground := Ground.chain }, { on := 0, ground := Ground.phase }, { on := 1, ground := Ground.phase }, { on := 2, ground := Ground.phase }, { on := 3, ground := Ground.phase }, { on := 4, ground := Ground.phase }, { on := 5, ground := Ground.phase }, { on := 6, ground := Ground.phase }], guard := none }) (v := ?_) rfl (by kernel_rfl) (by kernel_rfl) (by kernel_rfl) (by rfl) ?_ ?_
  rotate_left
  · intro W hW; first | (go_simp; done) | (go_simp; with_reducible rfl)
  try simp only [Act.put, List.setIfInBounds_toArray, List.set_cons_zero, List.set_cons_succ]
  refine wpG_done (by kernel_rfl) ?_
  go_wp2_with fail
  replace qF := qF.drew
  replace qG := qG.drew
  replace qH := qH.drew
  replace hbw := hbw.drew
  refine wpG_begin (by kernel_rfl) ?_
  refine wpG_take (i := 0) (oi := { dst := some 32, op := Op.load 22 (Operand.tmp 3), type := 22, pos := "law.go:78", after := #[], guard := none }) (v := ?_) rfl (by kernel_rfl) (by kernel_rfl) (by kernel_rfl) (by rfl) ?_ ?_
  rotate_left
  · intro W hW; refine Eq.trans (exec_load_row' 22 _ (by rfl) (by rfl) qF hW _ Tryd.underlying22 rfl (poInfo _)) ?_; with_reducible rfl
  try simp only [Act.put, List.setIfInBounds_toArray, List.set_cons_zero, List.set_cons_succ]
  refine wpG_take (i := 1) (oi := { dst := some 33, op := Op.load 22 (Operand.tmp 4), type := 22, pos := "law.go:78", after := #[], guard := none }) (v := ?_) rfl (by kernel_rfl) (by kernel_rfl) (by kernel_rfl) (by rfl) ?_ ?_
  rotate_left
  · intro W hW; refine Eq.trans (exec_load_row' 22 _ (by rfl) (by rfl) qG hW _ Tryd.underlying22 rfl (poInfo _)) ?_; with_reducible rfl
  try simp only [Act.put, List.setIfInBounds_toArray, List.set_cons_zero, List.set_cons_succ]
  refine wpG_take (i := 3) (oi := { dst := some 35, op := Op.load 22 (Operand.tmp 5), type := 22, pos := "law.go:78", after := #[], guard := none }) (v := ?_) rfl (by kernel_rfl) (by kernel_rfl) (by kernel_rfl) (by rfl) ?_ ?_
  rotate_left
  · intro W hW; refine Eq.trans (exec_load_row' 22 _ (by rfl) (by rfl) qH hW _ Tryd.underlying22 rfl (poInfo _)) ?_; with_reducible rfl
  try simp only [Act.put, List.setIfInBounds_toArray, List.set_cons_zero, List.set_cons_succ]
  refine wpG_take (i := 5) (oi := { dst := some 37, op := Op.load 22 (Operand.tmp 3), type := 22, pos := "law.go:78", after := #[], guard := none }) (v := ?_) rfl (by kernel_rfl) (by kernel_rfl) (by kernel_rfl) (by rfl) ?_ ?_
  rotate_left
  · intro W hW; refine Eq.trans (exec_load_row' 22 _ (by rfl) (by rfl) qF hW _ Tryd.underlying22 rfl (poInfo _)) ?_; with_reducible rfl
  try simp only [Act.put, List.setIfInBounds_toArray, List.set_cons_zero, List.set_cons_succ]
  refine wpG_take (i := 6) (oi := { dst := some 38, op := Op.load 22 (Operand.tmp 4), type := 22, pos := "law.go:78", after := #[], guard := none }) (v := ?_) rfl (by kernel_rfl) (by kernel_rfl) (by kernel_rfl) (by rfl) ?_ ?_
  rotate_left
  · intro W hW; refine Eq.trans (exec_load_row' 22 _ (by rfl) (by rfl) qG hW _ Tryd.underlying22 rfl (poInfo _)) ?_; with_reducible rfl
  try simp only [Act.put, List.setIfInBounds_toArray, List.set_cons_zero, List.set_cons_succ]
  refine wpG_take (i := 7) (oi := { dst := some 39, op := Op.load 22 (Operand.tmp 5), type := 22, pos := "law.go:78", after := #[], guard := none }) (v := ?_) rfl (by kernel_rfl) (by kernel_rfl) (by kernel_rfl) (by rfl) ?_ ?_
  rotate_left
  · intro W hW; refine Eq.trans (exec_load_row' 22 _ (by rfl) (by rfl) qH hW _ Tryd.underlying22 rfl (poInfo _)) ?_; with_reducible rfl
  try simp only [Act.put, List.setIfInBounds_toArray, List.set_cons_zero, List.set_cons_succ]
  refine wpG_do (i := 2) (o := { dst := some 34, op := Op.call { callee := Callee.value (Operand.func 22), args := #[Operand.tmp 32, Operand.tmp 33], argTypes := #[24, 24] }, type := 24, pos := "law.go:78", after := #[{ on := 0, ground := Ground.data }, { on := 1, ground := Ground.data }], guard := none }) (by kernel_rfl) rfl (by rfl) fun K hK => ?_
  go_simp
  refine (nproduct_any _ _ F G HF.out HG.out rfl rfl _ (HT.out.kept hbw)).mono ?_
  rintro e x12 ⟨he, b12⟩
  obtain ⟨P8, hP⟩ : ∃ P : Nat → FZ, P = pd (rF F) (rF G) := ⟨_, rfl⟩
  rw [← hP] at he
  subst he
  have E8 : Hid (P8 = pd (rF F) (rF G)) := by show _ = _; rw [hP]
  clear hP
  replace qF := qF.kept b12
  replace qG := qG.kept b12
  replace qH := qH.kept b12
  replace hbw := stepB hbw b12
  refine hK.out _ _ b12 ?_
  clear hK K
  try simp only [Act.put, List.setIfInBounds_toArray, List.set_cons_zero, List.set_cons_succ]
  refine wpG_do (i := 4) (o := { dst := some 36, op := Op.call { callee := Callee.value (Operand.func 22), args := #[Operand.tmp 34, Operand.tmp 35], argTypes := #[24, 24] }, type := 24, pos := "law.go:78", after := #[{ on := 2, ground := Ground.data }, { on := 3, ground := Ground.data }, { on := 2, ground := Ground.chain }], guard := none }) (by kernel_rfl) rfl (by rfl) fun K hK => ?_
  go_simp
  refine (nproduct_any _ _ (fzF P8) H (Po.fz _) HH.out rfl rfl _ (HT.out.kept hbw)).mono ?_
  rintro e x13 ⟨he, b13⟩
  obtain ⟨P9, hP⟩ : ∃ P : Nat → FZ, P = pd (rF (fzF P8)) (rF H) := ⟨_, rfl⟩
  rw [← hP] at he
  subst he
  have E9 : Hid (P9 = pd (P8) (rF H)) := by show _ = _; rw [hP, rF_fz]
  clear hP
  replace qF := qF.kept b13
  replace qG := qG.kept b13
  replace qH := qH.kept b13
  replace hbw := stepB hbw b13
  refine hK.out _ _ b13 ?_
  clear hK K
  try simp only [Act.put, List.setIfInBounds_toArray, List.set_cons_zero, List.set_cons_succ]
  refine wpG_do (i := 8) (o := { dst := some 40, op := Op.call { callee := Callee.value (Operand.func 22), args := #[Operand.tmp 38, Operand.tmp 39], argTypes := #[24, 24] }, type := 24, pos := "law.go:78", after := #[{ on := 6, ground := Ground.data }, { on := 7, ground := Ground.data }, { on := 4, ground := Ground.chain }], guard := none }) (by kernel_rfl) rfl (by rfl) fun K hK => ?_
  go_simp
  refine (nproduct_any _ _ G H HG.out HH.out rfl rfl _ (HT.out.kept hbw)).mono ?_
  rintro e x14 ⟨he, b14⟩
  obtain ⟨P10, hP⟩ : ∃ P : Nat → FZ, P = pd (rF G) (rF H) := ⟨_, rfl⟩
  rw [← hP] at he
  subst he
  have E10 : Hid (P10 = pd (rF G) (rF H)) := by show _ = _; rw [hP]
  clear hP
  replace qF := qF.kept b14
  replace qG := qG.kept b14
  replace qH := qH.kept b14
  replace hbw := stepB hbw b14
  refine hK.out _ _ b14 ?_
  clear hK K
  try simp only [Act.put, List.setIfInBounds_toArray, List.set_cons_zero, List.set_cons_succ]
  refine wpG_do (i := 9) (o := { dst := some 41, op := Op.call { callee := Callee.value (Operand.func 22), args := #[Operand.tmp 37, Operand.tmp 40], argTypes := #[24, 24] }, type := 24, pos := "law.go:78", after := #[{ on := 5, ground := Ground.data }, { on := 8, ground := Ground.data }, { on := 8, ground := Ground.chain }], guard := none }) (by kernel_rfl) rfl (by rfl) fun K hK => ?_
  go_simp
  refine (nproduct_any _ _ F (fzF P10) HF.out (Po.fz _) rfl rfl _ (HT.out.kept hbw)).mono ?_
  rintro e x15 ⟨he, b15⟩
  obtain ⟨P11, hP⟩ : ∃ P : Nat → FZ, P = pd (rF F) (rF (fzF P10)) := ⟨_, rfl⟩
  rw [← hP] at he
  subst he
  have E11 : Hid (P11 = pd (rF F) (P10)) := by show _ = _; rw [hP, rF_fz]
  clear hP
  replace qF := qF.kept b15
  replace qG := qG.kept b15
  replace qH := qH.kept b15
  replace hbw := stepB hbw b15
  refine hK.out _ _ b15 ?_
  clear hK K
  try simp only [Act.put, List.setIfInBounds_toArray, List.set_cons_zero, List.set_cons_succ]
  refine wpG_take (i := 10) (oi := { dst := some 42, op := Op.binOp BinOp.eql 24 (Operand.tmp 36) (Operand.tmp 41) 24, type := 4, pos := "law.go:78", after := #[{ on := 4, ground := Ground.data }, { on := 9, ground := Ground.data }], guard := none }) (v := ?_) rfl (by kernel_rfl) (by kernel_rfl) (by kernel_rfl) (by rfl) ?_ ?_
  rotate_left
  · intro W hW; have he := eq_poA (f := P9) (g := P11) (fun k hk => by rw [E9.out, E8.out, E11.out, E10.out]; exact pd_assoc _ _ _ k hk) W; first | (go_simp; done) | (go_simp; with_reducible rfl)
  try simp only [Act.put, List.setIfInBounds_toArray, List.set_cons_zero, List.set_cons_succ]
  refine wpG_take (i := 11) (oi := { dst := some 10, op := Op.assign (Operand.tmp 42), type := 4, pos := "law.go:78", after := #[{ on := 10, ground := Ground.data }, { on := 9, ground := Ground.chain }, { on := 0, ground := Ground.phase }, { on := 1, ground := Ground.phase }, { on := 2, ground := Ground.phase }, { on := 3, ground := Ground.phase }, { on := 4, ground := Ground.phase }, { on := 5, ground := Ground.phase }, { on := 6, ground := Ground.phase }, { on := 7, ground := Ground.phase }, { on := 8, ground := Ground.phase }, { on := 9, ground := Ground.phase }, { on := 10, ground := Ground.phase }], guard := none }) (v := ?_) rfl (by kernel_rfl) (by kernel_rfl) (by kernel_rfl) (by rfl) ?_ ?_
  rotate_left
  · intro W hW; first | (go_simp; done) | (go_simp; with_reducible rfl)
  try simp only [Act.put, List.setIfInBounds_toArray, List.set_cons_zero, List.set_cons_succ]
  refine wpG_done (by kernel_rfl) ?_
  go_wp2_with fail
  replace qF := qF.drew
  replace qG := qG.drew
  replace qH := qH.drew
  replace hbw := hbw.drew
  refine wpG_begin (by kernel_rfl) ?_
  refine wpG_take (i := 0) (oi := { dst := some 43, op := Op.load 22 (Operand.tmp 3), type := 22, pos := "law.go:79", after := #[], guard := none }) (v := ?_) rfl (by kernel_rfl) (by kernel_rfl) (by kernel_rfl) (by rfl) ?_ ?_
  rotate_left
  · intro W hW; refine Eq.trans (exec_load_row' 22 _ (by rfl) (by rfl) qF hW _ Tryd.underlying22 rfl (poInfo _)) ?_; with_reducible rfl
  try simp only [Act.put, List.setIfInBounds_toArray, List.set_cons_zero, List.set_cons_succ]
  refine wpG_take (i := 1) (oi := { dst := some 44, op := Op.load 22 (Operand.tmp 4), type := 22, pos := "law.go:79", after := #[], guard := none }) (v := ?_) rfl (by kernel_rfl) (by kernel_rfl) (by kernel_rfl) (by rfl) ?_ ?_
  rotate_left
  · intro W hW; refine Eq.trans (exec_load_row' 22 _ (by rfl) (by rfl) qG hW _ Tryd.underlying22 rfl (poInfo _)) ?_; with_reducible rfl
  try simp only [Act.put, List.setIfInBounds_toArray, List.set_cons_zero, List.set_cons_succ]
  refine wpG_take (i := 2) (oi := { dst := some 45, op := Op.load 22 (Operand.tmp 5), type := 22, pos := "law.go:79", after := #[], guard := none }) (v := ?_) rfl (by kernel_rfl) (by kernel_rfl) (by kernel_rfl) (by rfl) ?_ ?_
  rotate_left
  · intro W hW; refine Eq.trans (exec_load_row' 22 _ (by rfl) (by rfl) qH hW _ Tryd.underlying22 rfl (poInfo _)) ?_; with_reducible rfl
  try simp only [Act.put, List.setIfInBounds_toArray, List.set_cons_zero, List.set_cons_succ]
  refine wpG_take (i := 5) (oi := { dst := some 48, op := Op.load 22 (Operand.tmp 3), type := 22, pos := "law.go:79", after := #[], guard := none }) (v := ?_) rfl (by kernel_rfl) (by kernel_rfl) (by kernel_rfl) (by rfl) ?_ ?_
  rotate_left
  · intro W hW; refine Eq.trans (exec_load_row' 22 _ (by rfl) (by rfl) qF hW _ Tryd.underlying22 rfl (poInfo _)) ?_; with_reducible rfl
  try simp only [Act.put, List.setIfInBounds_toArray, List.set_cons_zero, List.set_cons_succ]
  refine wpG_take (i := 6) (oi := { dst := some 49, op := Op.load 22 (Operand.tmp 4), type := 22, pos := "law.go:79", after := #[], guard := none }) (v := ?_) rfl (by kernel_rfl) (by kernel_rfl) (by kernel_rfl) (by rfl) ?_ ?_
  rotate_left
  · intro W hW; refine Eq.trans (exec_load_row' 22 _ (by rfl) (by rfl) qG hW _ Tryd.underlying22 rfl (poInfo _)) ?_; with_reducible rfl
  try simp only [Act.put, List.setIfInBounds_toArray, List.set_cons_zero, List.set_cons_succ]
  refine wpG_take (i := 8) (oi := { dst := some 51, op := Op.load 22 (Operand.tmp 3), type := 22, pos := "law.go:79", after := #[], guard := none }) (v := ?_) rfl (by kernel_rfl) (by kernel_rfl) (by kernel_rfl) (by rfl) ?_ ?_
  rotate_left
  · intro W hW; refine Eq.trans (exec_load_row' 22 _ (by rfl) (by rfl) qF hW _ Tryd.underlying22 rfl (poInfo _)) ?_; with_reducible rfl
  try simp only [Act.put, List.setIfInBounds_toArray, List.set_cons_zero, List.set_cons_succ]
  refine wpG_take (i := 9) (oi := { dst := some 52, op := Op.load 22 (Operand.tmp 5), type := 22, pos := "law.go:79", after := #[], guard := none }) (v := ?_) rfl (by kernel_rfl) (by kernel_rfl) (by kernel_rfl) (by rfl) ?_ ?_
  rotate_left
  · intro W hW; refine Eq.trans (exec_load_row' 22 _ (by rfl) (by rfl) qH hW _ Tryd.underlying22 rfl (poInfo _)) ?_; with_reducible rfl
  try simp only [Act.put, List.setIfInBounds_toArray, List.set_cons_zero, List.set_cons_succ]
  refine wpG_do (i := 3) (o := { dst := some 46, op := Op.call { callee := Callee.value (Operand.func 10), args := #[Operand.tmp 44, Operand.tmp 45], argTypes := #[24, 24] }, type := 24, pos := "law.go:79", after := #[{ on := 1, ground := Ground.data }, { on := 2, ground := Ground.data }], guard := none }) (by kernel_rfl) rfl (by rfl) fun K hK => ?_
  go_simp
  refine (nplus_any _ _ G H HG.out HH.out rfl rfl _).mono ?_
  rintro e x16 ⟨he, b16⟩
  obtain ⟨P12, hP⟩ : ∃ P : Nat → FZ, P = fun k => rF G k + rF H k := ⟨_, rfl⟩
  rw [← hP] at he
  subst he
  have E12 : Hid (P12 = fun k => rF G k + rF H k) := by show _ = _; rw [hP]
  clear hP
  replace qF := qF.kept b16
  replace qG := qG.kept b16
  replace qH := qH.kept b16
  replace hbw := stepB hbw b16
  refine hK.out _ _ b16 ?_
  clear hK K
  try simp only [Act.put, List.setIfInBounds_toArray, List.set_cons_zero, List.set_cons_succ]
  refine wpG_do (i := 4) (o := { dst := some 47, op := Op.call { callee := Callee.value (Operand.func 22), args := #[Operand.tmp 43, Operand.tmp 46], argTypes := #[24, 24] }, type := 24, pos := "law.go:79", after := #[{ on := 0, ground := Ground.data }, { on := 3, ground := Ground.data }, { on := 3, ground := Ground.chain }], guard := none }) (by kernel_rfl) rfl (by rfl) fun K hK => ?_
  go_simp
  refine (nproduct_any _ _ F (fzF P12) HF.out (Po.fz _) rfl rfl _ (HT.out.kept hbw)).mono ?_
  rintro e x17 ⟨he, b17⟩
  obtain ⟨P13, hP⟩ : ∃ P : Nat → FZ, P = pd (rF F) (rF (fzF P12)) := ⟨_, rfl⟩
  rw [← hP] at he
  subst he
  have E13 : Hid (P13 = pd (rF F) (P12)) := by show _ = _; rw [hP, rF_fz]
  clear hP
  replace qF := qF.kept b17
  replace qG := qG.kept b17
  replace qH := qH.kept b17
  replace hbw := stepB hbw b17
  refine hK.out _ _ b17 ?_
  clear hK K
  try simp only [Act.put, List.setIfInBounds_toArray, List.set_cons_zero, List.set_cons_succ]
  refine wpG_do (i := 7) (o := { dst := some 50, op := Op.call { callee := Callee.value (Operand.func 22), args := #[Operand.tmp 48, Operand.tmp 49], argTypes := #[24, 24] }, type := 24, pos := "law.go:79", after := #[{ on := 5, ground := Ground.data }, { on := 6, ground := Ground.data }, { on := 4, ground := Ground.chain }], guard := none }) (by kernel_rfl) rfl (by rfl) fun K hK => ?_
  go_simp
  refine (nproduct_any _ _ F G HF.out HG.out rfl rfl _ (HT.out.kept hbw)).mono ?_
  rintro e x18 ⟨he, b18⟩
  obtain ⟨P14, hP⟩ : ∃ P : Nat → FZ, P = pd (rF F) (rF G) := ⟨_, rfl⟩
  rw [← hP] at he
  subst he
  have E14 : Hid (P14 = pd (rF F) (rF G)) := by show _ = _; rw [hP]
  clear hP
  replace qF := qF.kept b18
  replace qG := qG.kept b18
  replace qH := qH.kept b18
  replace hbw := stepB hbw b18
  refine hK.out _ _ b18 ?_
  clear hK K
  try simp only [Act.put, List.setIfInBounds_toArray, List.set_cons_zero, List.set_cons_succ]
  refine wpG_do (i := 10) (o := { dst := some 53, op := Op.call { callee := Callee.value (Operand.func 22), args := #[Operand.tmp 51, Operand.tmp 52], argTypes := #[24, 24] }, type := 24, pos := "law.go:79", after := #[{ on := 8, ground := Ground.data }, { on := 9, ground := Ground.data }, { on := 7, ground := Ground.chain }], guard := none }) (by kernel_rfl) rfl (by rfl) fun K hK => ?_
  go_simp
  refine (nproduct_any _ _ F H HF.out HH.out rfl rfl _ (HT.out.kept hbw)).mono ?_
  rintro e x19 ⟨he, b19⟩
  obtain ⟨P15, hP⟩ : ∃ P : Nat → FZ, P = pd (rF F) (rF H) := ⟨_, rfl⟩
  rw [← hP] at he
  subst he
  have E15 : Hid (P15 = pd (rF F) (rF H)) := by show _ = _; rw [hP]
  clear hP
  replace qF := qF.kept b19
  replace qG := qG.kept b19
  replace qH := qH.kept b19
  replace hbw := stepB hbw b19
  refine hK.out _ _ b19 ?_
  clear hK K
  try simp only [Act.put, List.setIfInBounds_toArray, List.set_cons_zero, List.set_cons_succ]
  refine wpG_do (i := 11) (o := { dst := some 54, op := Op.call { callee := Callee.value (Operand.func 10), args := #[Operand.tmp 50, Operand.tmp 53], argTypes := #[24, 24] }, type := 24, pos := "law.go:79", after := #[{ on := 7, ground := Ground.data }, { on := 10, ground := Ground.data }, { on := 10, ground := Ground.chain }], guard := none }) (by kernel_rfl) rfl (by rfl) fun K hK => ?_
  go_simp
  refine (nplus_any _ _ (fzF P14) (fzF P15) (Po.fz _) (Po.fz _) rfl rfl _).mono ?_
  rintro e x20 ⟨he, b20⟩
  obtain ⟨P16, hP⟩ : ∃ P : Nat → FZ, P = fun k => rF (fzF P14) k + rF (fzF P15) k := ⟨_, rfl⟩
  rw [← hP] at he
  subst he
  have E16 : Hid (P16 = fun k => P14 k + P15 k) := by show _ = _; rw [hP, rF_fz, rF_fz]
  clear hP
  replace qF := qF.kept b20
  replace qG := qG.kept b20
  replace qH := qH.kept b20
  replace hbw := stepB hbw b20
  refine hK.out _ _ b20 ?_
  clear hK K
  try simp only [Act.put, List.setIfInBounds_toArray, List.set_cons_zero, List.set_cons_succ]
  refine wpG_take (i := 12) (oi := { dst := some 55, op := Op.binOp BinOp.eql 24 (Operand.tmp 47) (Operand.tmp 54) 24, type := 4, pos := "law.go:79", after := #[{ on := 4, ground := Ground.data }, { on := 11, ground := Ground.data }], guard := none }) (v := ?_) rfl (by kernel_rfl) (by kernel_rfl) (by kernel_rfl) (by rfl) ?_ ?_
  rotate_left
  · intro W hW; have he := eq_poA (f := P13) (g := P16) (fun k hk => by rw [E13.out, E12.out, E16.out, E14.out, E15.out]; exact pd_add _ _ _ k hk) W; first | (go_simp; done) | (go_simp; with_reducible rfl)
  try simp only [Act.put, List.setIfInBounds_toArray, List.set_cons_zero, List.set_cons_succ]
  refine wpG_take (i := 13) (oi := { dst := some 11, op := Op.assign (Operand.tmp 55), type := 4, pos := "law.go:79", after := #[{ on := 12, ground := Ground.data }, { on := 11, ground := Ground.chain }, { on := 0, ground := Ground.phase }, { on := 1, ground := Ground.phase }, { on := 2, ground := Ground.phase }, { on := 3, ground := Ground.phase }, { on := 4, ground := Ground.phase }, { on := 5, ground := Ground.phase }, { on := 6, ground := Ground.phase }, { on := 7, ground := Ground.phase }, { on := 8, ground := Ground.phase }, { on := 9, ground := Ground.phase }, { on := 10, ground := Ground.phase }, { on := 11, ground := Ground.phase }, { on := 12, ground := Ground.phase }], guard := none }) (v := ?_) rfl (by kernel_rfl) (by kernel_rfl) (by kernel_rfl) (by rfl) ?_ ?_
  rotate_left
  · intro W hW; first | (go_simp; done) | (go_simp; with_reducible rfl)
  try simp only [Act.put, List.setIfInBounds_toArray, List.set_cons_zero, List.set_cons_succ]
  refine wpG_done (by kernel_rfl) ?_
  go_wp2_with fail
  replace qF := qF.drew
  replace qG := qG.drew
  replace qH := qH.drew
  replace hbw := hbw.drew
  refine wpG_begin (by kernel_rfl) ?_
  refine wpG_take (i := 0) (oi := { dst := some 56, op := Op.move (Operand.tmp 8), type := 4, pos := "law.go:80", after := #[], guard := none }) (v := ?_) rfl (by kernel_rfl) (by kernel_rfl) (by kernel_rfl) (by rfl) ?_ ?_
  rotate_left
  · intro W hW; first | (go_simp; done) | (go_simp; with_reducible rfl)
  try simp only [Act.put, List.setIfInBounds_toArray, List.set_cons_zero, List.set_cons_succ]
  refine wpG_take (i := 1) (oi := { dst := some 57, op := Op.move (Operand.tmp 56), type := 4, pos := "law.go:80", after := #[{ on := 0, ground := Ground.data }], guard := none }) (v := ?_) rfl (by kernel_rfl) (by kernel_rfl) (by kernel_rfl) (by rfl) ?_ ?_
  rotate_left
  · intro W hW; first | (go_simp; done) | (go_simp; with_reducible rfl)
  try simp only [Act.put, List.setIfInBounds_toArray, List.set_cons_zero, List.set_cons_succ]
  refine wpG_take (i := 2) (oi := { dst := some 58, op := Op.move (Operand.tmp 9), type := 4, pos := "law.go:80", after := #[{ on := 1, ground := Ground.guard }], guard := some (1, true) }) (v := ?_) rfl (by kernel_rfl) (by kernel_rfl) (by kernel_rfl) (by rfl) ?_ ?_
  rotate_left
  · intro W hW; first | (go_simp; done) | (go_simp; with_reducible rfl)
  try simp only [Act.put, List.setIfInBounds_toArray, List.set_cons_zero, List.set_cons_succ]
  refine wpG_take (i := 3) (oi := { dst := some 59, op := Op.pick (Operand.tmp 57) (Operand.tmp 58) (Operand.const (Value.bool false)), type := 4, pos := "law.go:80", after := #[{ on := 1, ground := Ground.data }, { on := 2, ground := Ground.data }], guard := none }) (v := ?_) rfl (by kernel_rfl) (by kernel_rfl) (by kernel_rfl) (by rfl) ?_ ?_
  rotate_left
  · intro W hW; first | (go_simp; done) | (go_simp; with_reducible rfl)
  try simp only [Act.put, List.setIfInBounds_toArray, List.set_cons_zero, List.set_cons_succ]
  refine wpG_take (i := 4) (oi := { dst := some 60, op := Op.move (Operand.tmp 59), type := 4, pos := "law.go:80", after := #[{ on := 3, ground := Ground.data }, { on := 1, ground := Ground.chain }], guard := none }) (v := ?_) rfl (by kernel_rfl) (by kernel_rfl) (by kernel_rfl) (by rfl) ?_ ?_
  rotate_left
  · intro W hW; first | (go_simp; done) | (go_simp; with_reducible rfl)
  try simp only [Act.put, List.setIfInBounds_toArray, List.set_cons_zero, List.set_cons_succ]
  refine wpG_take (i := 5) (oi := { dst := some 61, op := Op.move (Operand.tmp 10), type := 4, pos := "law.go:80", after := #[{ on := 4, ground := Ground.guard }], guard := some (4, true) }) (v := ?_) rfl (by kernel_rfl) (by kernel_rfl) (by kernel_rfl) (by rfl) ?_ ?_
  rotate_left
  · intro W hW; first | (go_simp; done) | (go_simp; with_reducible rfl)
  try simp only [Act.put, List.setIfInBounds_toArray, List.set_cons_zero, List.set_cons_succ]
  refine wpG_take (i := 6) (oi := { dst := some 62, op := Op.pick (Operand.tmp 60) (Operand.tmp 61) (Operand.const (Value.bool false)), type := 4, pos := "law.go:80", after := #[{ on := 4, ground := Ground.data }, { on := 5, ground := Ground.data }], guard := none }) (v := ?_) rfl (by kernel_rfl) (by kernel_rfl) (by kernel_rfl) (by rfl) ?_ ?_
  rotate_left
  · intro W hW; first | (go_simp; done) | (go_simp; with_reducible rfl)
  try simp only [Act.put, List.setIfInBounds_toArray, List.set_cons_zero, List.set_cons_succ]
  refine wpG_take (i := 7) (oi := { dst := some 63, op := Op.move (Operand.tmp 62), type := 4, pos := "law.go:80", after := #[{ on := 6, ground := Ground.data }, { on := 4, ground := Ground.chain }], guard := none }) (v := ?_) rfl (by kernel_rfl) (by kernel_rfl) (by kernel_rfl) (by rfl) ?_ ?_
  rotate_left
  · intro W hW; first | (go_simp; done) | (go_simp; with_reducible rfl)
  try simp only [Act.put, List.setIfInBounds_toArray, List.set_cons_zero, List.set_cons_succ]
  refine wpG_take (i := 8) (oi := { dst := some 64, op := Op.move (Operand.tmp 11), type := 4, pos := "law.go:80", after := #[{ on := 7, ground := Ground.guard }], guard := some (7, true) }) (v := ?_) rfl (by kernel_rfl) (by kernel_rfl) (by kernel_rfl) (by rfl) ?_ ?_
  rotate_left
  · intro W hW; first | (go_simp; done) | (go_simp; with_reducible rfl)
  try simp only [Act.put, List.setIfInBounds_toArray, List.set_cons_zero, List.set_cons_succ]
  refine wpG_take (i := 9) (oi := { dst := some 65, op := Op.pick (Operand.tmp 63) (Operand.tmp 64) (Operand.const (Value.bool false)), type := 4, pos := "law.go:80", after := #[{ on := 7, ground := Ground.data }, { on := 8, ground := Ground.data }], guard := none }) (v := ?_) rfl (by kernel_rfl) (by kernel_rfl) (by kernel_rfl) (by rfl) ?_ ?_
  rotate_left
  · intro W hW; first | (go_simp; done) | (go_simp; with_reducible rfl)
  try simp only [Act.put, List.setIfInBounds_toArray, List.set_cons_zero, List.set_cons_succ]
  refine wpG_take (i := 10) (oi := { dst := some 66, op := Op.move (Operand.tmp 65), type := 4, pos := "law.go:80", after := #[{ on := 9, ground := Ground.data }, { on := 7, ground := Ground.chain }], guard := none }) (v := ?_) rfl (by kernel_rfl) (by kernel_rfl) (by kernel_rfl) (by rfl) ?_ ?_
  rotate_left
  · intro W hW; first | (go_simp; done) | (go_simp; with_reducible rfl)
  try simp only [Act.put, List.setIfInBounds_toArray, List.set_cons_zero, List.set_cons_succ]
  refine wpG_take (i := 11) (oi := { dst := some 67, op := Op.load 22 (Operand.tmp 3), type := 22, pos := "law.go:80", after := #[{ on := 10, ground := Ground.guard }], guard := some (10, true) }) (v := ?_) rfl (by kernel_rfl) (by kernel_rfl) (by kernel_rfl) (by rfl) ?_ ?_
  rotate_left
  · intro W hW; refine Eq.trans (exec_load_row' 22 _ (by rfl) (by rfl) qF hW _ Tryd.underlying22 rfl (poInfo _)) ?_; with_reducible rfl
  try simp only [Act.put, List.setIfInBounds_toArray, List.set_cons_zero, List.set_cons_succ]
  refine wpG_take (i := 12) (oi := { dst := some 68, op := Op.load 22 (Operand.tmp 4), type := 22, pos := "law.go:80", after := #[{ on := 10, ground := Ground.guard }], guard := some (10, true) }) (v := ?_) rfl (by kernel_rfl) (by kernel_rfl) (by kernel_rfl) (by rfl) ?_ ?_
  rotate_left
  · intro W hW; refine Eq.trans (exec_load_row' 22 _ (by rfl) (by rfl) qG hW _ Tryd.underlying22 rfl (poInfo _)) ?_; with_reducible rfl
  try simp only [Act.put, List.setIfInBounds_toArray, List.set_cons_zero, List.set_cons_succ]
  refine wpG_take (i := 14) (oi := { dst := some 70, op := Op.load 22 (Operand.tmp 4), type := 22, pos := "law.go:80", after := #[{ on := 10, ground := Ground.guard }], guard := some (10, true) }) (v := ?_) rfl (by kernel_rfl) (by kernel_rfl) (by kernel_rfl) (by rfl) ?_ ?_
  rotate_left
  · intro W hW; refine Eq.trans (exec_load_row' 22 _ (by rfl) (by rfl) qG hW _ Tryd.underlying22 rfl (poInfo _)) ?_; with_reducible rfl
  try simp only [Act.put, List.setIfInBounds_toArray, List.set_cons_zero, List.set_cons_succ]
  refine wpG_take (i := 16) (oi := { dst := some 72, op := Op.load 22 (Operand.tmp 3), type := 22, pos := "law.go:80", after := #[{ on := 10, ground := Ground.guard }], guard := some (10, true) }) (v := ?_) rfl (by kernel_rfl) (by kernel_rfl) (by kernel_rfl) (by rfl) ?_ ?_
  rotate_left
  · intro W hW; refine Eq.trans (exec_load_row' 22 _ (by rfl) (by rfl) qF hW _ Tryd.underlying22 rfl (poInfo _)) ?_; with_reducible rfl
  try simp only [Act.put, List.setIfInBounds_toArray, List.set_cons_zero, List.set_cons_succ]
  refine wpG_do (i := 13) (o := { dst := some 69, op := Op.call { callee := Callee.value (Operand.func 10), args := #[Operand.tmp 67, Operand.tmp 68], argTypes := #[24, 24] }, type := 24, pos := "law.go:80", after := #[{ on := 11, ground := Ground.data }, { on := 12, ground := Ground.data }, { on := 10, ground := Ground.chain }, { on := 10, ground := Ground.guard }], guard := some (10, true) }) (by kernel_rfl) rfl (by rfl) fun K hK => ?_
  go_simp
  refine (nplus_any _ _ F G HF.out HG.out rfl rfl _).mono ?_
  rintro e x21 ⟨he, b21⟩
  obtain ⟨P17, hP⟩ : ∃ P : Nat → FZ, P = fun k => rF F k + rF G k := ⟨_, rfl⟩
  rw [← hP] at he
  subst he
  have E17 : Hid (P17 = fun k => rF F k + rF G k) := by show _ = _; rw [hP]
  clear hP
  replace qF := qF.kept b21
  replace qG := qG.kept b21
  replace qH := qH.kept b21
  replace hbw := stepB hbw b21
  refine hK.out _ _ b21 ?_
  clear hK K
  try simp only [Act.put, List.setIfInBounds_toArray, List.set_cons_zero, List.set_cons_succ]
  refine wpG_do (i := 15) (o := { dst := some 71, op := Op.call { callee := Callee.value (Operand.func 12), args := #[Operand.tmp 69, Operand.tmp 70], argTypes := #[24, 24] }, type := 24, pos := "law.go:80", after := #[{ on := 13, ground := Ground.data }, { on := 14, ground := Ground.data }, { on := 13, ground := Ground.chain }, { on := 10, ground := Ground.guard }], guard := some (10, true) }) (by kernel_rfl) rfl (by rfl) fun K hK => ?_
  go_simp
  refine (nminus_any _ _ (fzF P17) G (Po.fz _) HG.out rfl rfl _).mono ?_
  rintro e x22 ⟨he, b22⟩
  obtain ⟨P18, hP⟩ : ∃ P : Nat → FZ, P = fun k => rF (fzF P17) k - rF G k := ⟨_, rfl⟩
  rw [← hP] at he
  subst he
  have E18 : Hid (P18 = fun k => P17 k - rF G k) := by show _ = _; rw [hP, rF_fz]
  clear hP
  replace qF := qF.kept b22
  replace qG := qG.kept b22
  replace qH := qH.kept b22
  replace hbw := stepB hbw b22
  refine hK.out _ _ b22 ?_
  clear hK K
  try simp only [Act.put, List.setIfInBounds_toArray, List.set_cons_zero, List.set_cons_succ]
  refine wpG_do (i := 17) (o := { dst := some 73, op := Op.call { callee := Callee.value (Operand.func 14), args := #[Operand.tmp 72], argTypes := #[24] }, type := 24, pos := "law.go:80", after := #[{ on := 16, ground := Ground.data }, { on := 15, ground := Ground.chain }, { on := 10, ground := Ground.guard }], guard := some (10, true) }) (by kernel_rfl) rfl (by rfl) fun K hK => ?_
  go_simp
  refine (ncleaned_any _ F HF.out rfl _).mono ?_
  rintro e x23 ⟨he, b23⟩
  obtain ⟨P19, hP⟩ : ∃ P : Nat → FZ, P = rF F := ⟨_, rfl⟩
  rw [← hP] at he
  subst he
  have E19 : Hid (P19 = rF F) := by show _ = _; rw [hP]
  clear hP
  replace qF := qF.kept b23
  replace qG := qG.kept b23
  replace qH := qH.kept b23
  replace hbw := stepB hbw b23
  refine hK.out _ _ b23 ?_
  clear hK K
  try simp only [Act.put, List.setIfInBounds_toArray, List.set_cons_zero, List.set_cons_succ]
  refine wpG_take (i := 18) (oi := { dst := some 74, op := Op.binOp BinOp.eql 24 (Operand.tmp 71) (Operand.tmp 73) 24, type := 4, pos := "law.go:80", after := #[{ on := 15, ground := Ground.data }, { on := 17, ground := Ground.data }, { on := 10, ground := Ground.guard }], guard := some (10, true) }) (v := ?_) rfl (by kernel_rfl) (by kernel_rfl) (by kernel_rfl) (by rfl) ?_ ?_
  rotate_left
  · intro W hW; have he := eq_poA (f := P18) (g := P19) (fun k hk => by rw [E18.out, E17.out, E19.out]; show rF F k + rF G k - rF G k = rF F k; grind -lia) W; first | (go_simp; done) | (go_simp; with_reducible rfl)
  try simp only [Act.put, List.setIfInBounds_toArray, List.set_cons_zero, List.set_cons_succ]
  refine wpG_take (i := 19) (oi := { dst := some 75, op := Op.pick (Operand.tmp 66) (Operand.tmp 74) (Operand.const (Value.bool false)), type := 4, pos := "law.go:80", after := #[{ on := 10, ground := Ground.data }, { on := 18, ground := Ground.data }], guard := none }) (v := ?_) rfl (by kernel_rfl) (by kernel_rfl) (by kernel_rfl) (by rfl) ?_ ?_
  rotate_left
  · intro W hW; first | (go_simp; done) | (go_simp; with_reducible rfl)
  try simp only [Act.put, List.setIfInBounds_toArray, List.set_cons_zero, List.set_cons_succ]
  refine wpG_take (i := 20) (oi := { dst := some 6, op := Op.assign (Operand.tmp 75), type := 4, pos := "law.go:80", after := #[{ on := 19, ground := Ground.data }, { on := 17, ground := Ground.chain }, { on := 0, ground := Ground.phase }, { on := 1, ground := Ground.phase }, { on := 2, ground := Ground.phase }, { on := 3, ground := Ground.phase }, { on := 4, ground := Ground.phase }, { on := 5, ground := Ground.phase }, { on := 6, ground := Ground.phase }, { on := 7, ground := Ground.phase }, { on := 8, ground := Ground.phase }, { on := 9, ground := Ground.phase }, { on := 10, ground := Ground.phase }, { on := 11, ground := Ground.phase }, { on := 12, ground := Ground.phase }, { on := 13, ground := Ground.phase }, { on := 14, ground := Ground.phase }, { on := 15, ground := Ground.phase }, { on := 16, ground := Ground.phase }, { on := 17, ground := Ground.phase }, { on := 18, ground := Ground.phase }, { on := 19, ground := Ground.phase }], guard := none }) (v := ?_) rfl (by kernel_rfl) (by kernel_rfl) (by kernel_rfl) (by rfl) ?_ ?_
  rotate_left
  · intro W hW; first | (go_simp; done) | (go_simp; with_reducible rfl)
  try simp only [Act.put, List.setIfInBounds_toArray, List.set_cons_zero, List.set_cons_succ]
  refine wpG_done (by kernel_rfl) ?_
  go_wp2
  go_ret
  exact ⟨rfl, hbw⟩
end Go.Proofs.YtbladcgdbhogcaaDoor
