/- The walk of the law SampleRounds. -/
import Derived.Test.YtlcnepnappfjeaaDoorL12h
import Derived.Test.YtlcnepnappfjeaaDoorL12i
import Derived.Test.YtlcnepnappfjeaaDoorRef12h
import Derived.Test.YtlcnepnappfjeaaDoorL12d
namespace Go.Proofs.YtlcnepnappfjeaaDoor
open Go.ChangeShapes Go.WideShapes Go.ChangeAt Go.RowKit
set_option linter.unusedSimpArgs false
set_option linter.unusedVariables false

set_option maxRecDepth 100000 in
set_option maxHeartbeats 8000000 in
theorem rounds_walk (D : Int) (A : Array Value) (F : Nat → Int) (hF : Po F) (hA : A = ((gI F).map (Value.int .i64)).toArray) (w : World) (hT : Tabs w) :
    Calls Tryd.prog 6 #[.int .i64 D, .agg A] w fun e w' => e = .returned (.bool true) ∧ Below w.heap.size w w' := by
  have HF : Hid (Po F) := hF
  clear hF
  go_enter Tryd.func6, Tryd.ntmps6
  go_wp2_with (refine wpList_box_row (k := .i64) rfl 24 _ rfl (gI F) (by rw [← hA]; rfl) (gI_ne _) (poMax _) ?_)
  intro x1 qF bn sn
  rw [gI_length] at qF
  have hbw := bn
  replace hT := hT.kept bn
  clear bn sn hA
  go_wp2_with fail
  refine (awake_any _ hT).mono ?_
  rintro e w1 ⟨rfl, bn⟩
  replace qF := qF.kept bn
  replace hbw := stepB hbw bn
  clear bn hT
  go_wp2_with fail
  replace qF := qF.drew
  replace hbw := hbw.drew
  refine wpG_begin (by kernel_rfl) ?_
  refine wpG_take (i := 0) (oi := { dst := some 9, op := Op.move (Operand.tmp 0), type := 3, pos := "law.go:73", after := #[], guard := none }) (v := ?_) rfl (by kernel_rfl) (by kernel_rfl) (by kernel_rfl) (by rfl) ?_ ?_
  rotate_left
  · intro W hW; first | (go_simp; done) | (go_simp; with_reducible rfl)
  try simp only [Act.put, List.setIfInBounds_toArray, List.set_cons_zero, List.set_cons_succ]
  refine wpG_take (i := 1) (oi := { dst := some 10, op := Op.load 24 (Operand.tmp 3), type := 24, pos := "law.go:73", after := #[], guard := none }) (v := ?_) rfl (by kernel_rfl) (by kernel_rfl) (by kernel_rfl) (by rfl) ?_ ?_
  rotate_left
  · intro W hW; refine Eq.trans (exec_load_row' 24 _ (by rfl) (by rfl) qF hW _ Tryd.underlying24 rfl (poInfo _)) ?_; with_reducible rfl
  try simp only [Act.put, List.setIfInBounds_toArray, List.set_cons_zero, List.set_cons_succ]
  refine wpG_take (i := 3) (oi := { dst := some 12, op := Op.move (Operand.tmp 0), type := 3, pos := "law.go:73", after := #[], guard := none }) (v := ?_) rfl (by kernel_rfl) (by kernel_rfl) (by kernel_rfl) (by rfl) ?_ ?_
  rotate_left
  · intro W hW; first | (go_simp; done) | (go_simp; with_reducible rfl)
  try simp only [Act.put, List.setIfInBounds_toArray, List.set_cons_zero, List.set_cons_succ]
  refine wpG_take (i := 4) (oi := { dst := some 13, op := Op.load 24 (Operand.tmp 3), type := 24, pos := "law.go:73", after := #[], guard := none }) (v := ?_) rfl (by kernel_rfl) (by kernel_rfl) (by kernel_rfl) (by rfl) ?_ ?_
  rotate_left
  · intro W hW; refine Eq.trans (exec_load_row' 24 _ (by rfl) (by rfl) qF hW _ Tryd.underlying24 rfl (poInfo _)) ?_; with_reducible rfl
  try simp only [Act.put, List.setIfInBounds_toArray, List.set_cons_zero, List.set_cons_succ]
  refine wpG_do (i := 2) (o := { dst := some 11, op := Op.call { callee := Callee.value (Operand.func 20), args := #[Operand.tmp 9, Operand.tmp 10], argTypes := #[3, 25] }, type := 25, pos := "law.go:73", after := #[{ on := 0, ground := Ground.data }, { on := 1, ground := Ground.data }], guard := none }) (by kernel_rfl) rfl (by rfl) fun K hK => ?_
  go_simp
  refine (ssqueeze_any D _ F HF.out rfl _).mono ?_
  rintro e y0 ⟨he, b0⟩
  obtain ⟨G1, hG1⟩ : ∃ G : Nat → Int, G = fun k => ((cpA D (F k) : Nat) : Int) := ⟨_, rfl⟩
  rw [← hG1] at he
  have HG1 : Hid _ := hG1
  clear hG1
  subst he
  replace qF := qF.kept b0
  replace hbw := stepB hbw b0
  refine hK.out _ _ b0 ?_
  clear hK K
  try simp only [Act.put, List.setIfInBounds_toArray, List.set_cons_zero, List.set_cons_succ]
  refine wpG_do (i := 5) (o := { dst := some 14, op := Op.call { callee := Callee.value (Operand.func 21), args := #[Operand.tmp 12, Operand.tmp 13], argTypes := #[3, 24] }, type := 24, pos := "law.go:73", after := #[{ on := 3, ground := Ground.data }, { on := 4, ground := Ground.data }, { on := 2, ground := Ground.chain }], guard := none }) (by kernel_rfl) rfl (by rfl) fun K hK => ?_
  go_simp
  refine (squeeze12_any D _ F HF.out rfl _).mono ?_
  rintro e y1 ⟨he, b1⟩
  rw [← HG1.out] at he
  subst he
  replace qF := qF.kept b1
  replace hbw := stepB hbw b1
  refine hK.out _ _ b1 ?_
  clear hK K
  try simp only [Act.put, List.setIfInBounds_toArray, List.set_cons_zero, List.set_cons_succ]
  refine wpG_take (i := 6) (oi := { dst := some 15, op := Op.binOp BinOp.eql 25 (Operand.tmp 11) (Operand.tmp 14) 25, type := 4, pos := "law.go:73", after := #[{ on := 2, ground := Ground.data }, { on := 5, ground := Ground.data }], guard := none }) (v := ?_) rfl (by kernel_rfl) (by kernel_rfl) (by kernel_rfl) (by rfl) ?_ ?_
  rotate_left
  · intro W hW; have he := eq_gIS (F := G1) (G := G1) rfl W; first | (go_simp; done) | (go_simp; with_reducible rfl)
  try simp only [Act.put, List.setIfInBounds_toArray, List.set_cons_zero, List.set_cons_succ]
  refine wpG_take (i := 7) (oi := { dst := some 16, op := Op.move (Operand.tmp 15), type := 4, pos := "law.go:73", after := #[{ on := 6, ground := Ground.data }, { on := 5, ground := Ground.chain }], guard := none }) (v := ?_) rfl (by kernel_rfl) (by kernel_rfl) (by kernel_rfl) (by rfl) ?_ ?_
  rotate_left
  · intro W hW; first | (go_simp; done) | (go_simp; with_reducible rfl)
  try simp only [Act.put, List.setIfInBounds_toArray, List.set_cons_zero, List.set_cons_succ]
  refine wpG_take (i := 8) (oi := { dst := some 17, op := Op.move (Operand.tmp 0), type := 3, pos := "law.go:73", after := #[{ on := 7, ground := Ground.guard }], guard := some (7, true) }) (v := ?_) rfl (by kernel_rfl) (by kernel_rfl) (by kernel_rfl) (by rfl) ?_ ?_
  rotate_left
  · intro W hW; first | (go_simp; done) | (go_simp; with_reducible rfl)
  try simp only [Act.put, List.setIfInBounds_toArray, List.set_cons_zero, List.set_cons_succ]
  refine wpG_take (i := 9) (oi := { dst := some 18, op := Op.load 24 (Operand.tmp 3), type := 24, pos := "law.go:73", after := #[{ on := 7, ground := Ground.guard }], guard := some (7, true) }) (v := ?_) rfl (by kernel_rfl) (by kernel_rfl) (by kernel_rfl) (by rfl) ?_ ?_
  rotate_left
  · intro W hW; refine Eq.trans (exec_load_row' 24 _ (by rfl) (by rfl) qF hW _ Tryd.underlying24 rfl (poInfo _)) ?_; with_reducible rfl
  try simp only [Act.put, List.setIfInBounds_toArray, List.set_cons_zero, List.set_cons_succ]
  refine wpG_take (i := 11) (oi := { dst := some 20, op := Op.move (Operand.tmp 0), type := 3, pos := "law.go:73", after := #[{ on := 7, ground := Ground.guard }], guard := some (7, true) }) (v := ?_) rfl (by kernel_rfl) (by kernel_rfl) (by kernel_rfl) (by rfl) ?_ ?_
  rotate_left
  · intro W hW; first | (go_simp; done) | (go_simp; with_reducible rfl)
  try simp only [Act.put, List.setIfInBounds_toArray, List.set_cons_zero, List.set_cons_succ]
  refine wpG_take (i := 12) (oi := { dst := some 21, op := Op.load 24 (Operand.tmp 3), type := 24, pos := "law.go:73", after := #[{ on := 7, ground := Ground.guard }], guard := some (7, true) }) (v := ?_) rfl (by kernel_rfl) (by kernel_rfl) (by kernel_rfl) (by rfl) ?_ ?_
  rotate_left
  · intro W hW; refine Eq.trans (exec_load_row' 24 _ (by rfl) (by rfl) qF hW _ Tryd.underlying24 rfl (poInfo _)) ?_; with_reducible rfl
  try simp only [Act.put, List.setIfInBounds_toArray, List.set_cons_zero, List.set_cons_succ]
  refine wpG_do (i := 10) (o := { dst := some 19, op := Op.call { callee := Callee.value (Operand.func 22), args := #[Operand.tmp 17, Operand.tmp 18], argTypes := #[3, 25] }, type := 25, pos := "law.go:73", after := #[{ on := 8, ground := Ground.data }, { on := 9, ground := Ground.data }, { on := 7, ground := Ground.chain }, { on := 7, ground := Ground.guard }], guard := some (7, true) }) (by kernel_rfl) rfl (by rfl) fun K hK => ?_
  go_simp
  refine (sspread_any D _ F HF.out rfl _).mono ?_
  rintro e y2 ⟨he, b2⟩
  obtain ⟨G2, hG2⟩ : ∃ G : Nat → Int, G = fun k => ((dcA D (F k) : Nat) : Int) := ⟨_, rfl⟩
  rw [← hG2] at he
  have HG2 : Hid _ := hG2
  clear hG2
  subst he
  replace qF := qF.kept b2
  replace hbw := stepB hbw b2
  refine hK.out _ _ b2 ?_
  clear hK K
  try simp only [Act.put, List.setIfInBounds_toArray, List.set_cons_zero, List.set_cons_succ]
  refine wpG_do (i := 13) (o := { dst := some 22, op := Op.call { callee := Callee.value (Operand.func 23), args := #[Operand.tmp 20, Operand.tmp 21], argTypes := #[3, 24] }, type := 24, pos := "law.go:73", after := #[{ on := 11, ground := Ground.data }, { on := 12, ground := Ground.data }, { on := 10, ground := Ground.chain }, { on := 7, ground := Ground.guard }], guard := some (7, true) }) (by kernel_rfl) rfl (by rfl) fun K hK => ?_
  go_simp
  refine (spread12_any D _ F HF.out rfl _).mono ?_
  rintro e y3 ⟨he, b3⟩
  rw [← HG2.out] at he
  subst he
  replace qF := qF.kept b3
  replace hbw := stepB hbw b3
  refine hK.out _ _ b3 ?_
  clear hK K
  try simp only [Act.put, List.setIfInBounds_toArray, List.set_cons_zero, List.set_cons_succ]
  refine wpG_take (i := 14) (oi := { dst := some 23, op := Op.binOp BinOp.eql 25 (Operand.tmp 19) (Operand.tmp 22) 25, type := 4, pos := "law.go:73", after := #[{ on := 10, ground := Ground.data }, { on := 13, ground := Ground.data }, { on := 7, ground := Ground.guard }], guard := some (7, true) }) (v := ?_) rfl (by kernel_rfl) (by kernel_rfl) (by kernel_rfl) (by rfl) ?_ ?_
  rotate_left
  · intro W hW; have he := eq_gIS (F := G2) (G := G2) rfl W; first | (go_simp; done) | (go_simp; with_reducible rfl)
  try simp only [Act.put, List.setIfInBounds_toArray, List.set_cons_zero, List.set_cons_succ]
  refine wpG_take (i := 15) (oi := { dst := some 24, op := Op.pick (Operand.tmp 16) (Operand.tmp 23) (Operand.const (Value.bool false)), type := 4, pos := "law.go:73", after := #[{ on := 7, ground := Ground.data }, { on := 14, ground := Ground.data }], guard := none }) (v := ?_) rfl (by kernel_rfl) (by kernel_rfl) (by kernel_rfl) (by rfl) ?_ ?_
  rotate_left
  · intro W hW; first | (go_simp; done) | (go_simp; with_reducible rfl)
  try simp only [Act.put, List.setIfInBounds_toArray, List.set_cons_zero, List.set_cons_succ]
  refine wpG_take (i := 16) (oi := { dst := some 4, op := Op.assign (Operand.tmp 24), type := 4, pos := "law.go:73", after := #[{ on := 15, ground := Ground.data }, { on := 13, ground := Ground.chain }, { on := 0, ground := Ground.phase }, { on := 1, ground := Ground.phase }, { on := 2, ground := Ground.phase }, { on := 3, ground := Ground.phase }, { on := 4, ground := Ground.phase }, { on := 5, ground := Ground.phase }, { on := 6, ground := Ground.phase }, { on := 7, ground := Ground.phase }, { on := 8, ground := Ground.phase }, { on := 9, ground := Ground.phase }, { on := 10, ground := Ground.phase }, { on := 11, ground := Ground.phase }, { on := 12, ground := Ground.phase }, { on := 13, ground := Ground.phase }, { on := 14, ground := Ground.phase }, { on := 15, ground := Ground.phase }], guard := none }) (v := ?_) rfl (by kernel_rfl) (by kernel_rfl) (by kernel_rfl) (by rfl) ?_ ?_
  rotate_left
  · intro W hW; first | (go_simp; done) | (go_simp; with_reducible rfl)
  try simp only [Act.put, List.setIfInBounds_toArray, List.set_cons_zero, List.set_cons_succ]
  refine wpG_done (by kernel_rfl) ?_
  go_wp2
  go_ret
  exact ⟨rfl, hbw⟩
end Go.Proofs.YtlcnepnappfjeaaDoor
