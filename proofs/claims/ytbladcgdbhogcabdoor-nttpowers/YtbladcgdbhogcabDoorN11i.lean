/- Products factor by factor, and products: contracts of package ntt, last part. -/
import Derived.Test.YtbladcgdbhogcabDoorN11h
namespace Go.Proofs.YtbladcgdbhogcabDoor
open Go.ChangeShapes Go.WideShapes Go.ChangeAt Go.RowKit
set_option linter.unusedSimpArgs false
set_option linter.unusedVariables false

set_option maxRecDepth 100000 in
set_option maxHeartbeats 2000000 in
theorem ntimes_any (A B : Array Value) (F G : Nat → Int) (hF : Po F) (hG : Po G) (hA : A = ((gI F).map (Value.int .i64)).toArray) (hB : B = ((gI G).map (Value.int .i64)).toArray) (w : World) (hT : PwT w) :
    Calls Tryd.prog 11 #[.agg A, .agg B] w fun e w' => e = .returned (poV (tm (rF F) (rF G))) ∧ Below w.heap.size w w' := by
  have HF : Hid (Po F) := hF
  have HG : Hid (Po G) := hG
  have hmf : ∀ (fn : Fn) (first cap : Array Value) (w : World), (Instr.makeFunc fn first cap).run Tryd.prog w = .ok (.func fn first cap) w := fun _ _ _ _ => rfl
  have HT : Hid (PwT w) := hT
  clear hF hG hT
  go_enter Tryd.func11, Tryd.ntmps11
  go_wp2_with (refine wpList_box_row (k := .i64) rfl 24 _ rfl (gI F) (by rw [← hA]; rfl) (gI_ne _) (poMax _) ?_)
  intro w1 ra b1 s1
  rw [gI_length] at ra
  have hbw := b1
  have n1 : w.heap.size < w1.heap.size := by have := s1.out; omega
  clear b1 s1 hA
  go_wp2_with (refine wpList_box_row (k := .i64) rfl 24 _ rfl (gI G) (by rw [← hB]; rfl) (gI_ne _) (poMax _) ?_)
  intro w2 rb b2 s2
  rw [gI_length] at rb
  replace ra := ra.kept b2
  replace hbw := stepB hbw b2
  have n2 : w1.heap.size < w2.heap.size := by have := s2.out; omega
  clear b2 s2 hB
  go_wp2_with (refine wpList_alloc_row (k := .i64) rfl 24 rfl (gI fun _ => 0) (alloc_poA _) (gI_ne _) (poMax _) ?_)
  intro w3 rz b3 s3
  rw [gI_length] at rz
  replace ra := ra.kept b3
  replace rb := rb.kept b3
  replace hbw := stepB hbw b3
  clear b3 s3
  go_wp2_with fail
  refine (placed_any 27 _ (tm (rF F) (rF G)) _ (enters_by Tryd.func27 (by kernel_rfl) rfl) fun i hi W hW => by rw [app2]; exact ctimes_any F G HF.out HG.out _ _ i hi W ((HT.out.kept hbw).kept hW) (ra.kept hW) (rb.kept hW)).mono ?_
  rintro e w4 ⟨rfl, b4⟩
  replace rz := rz.kept b4
  replace hbw := stepB hbw b4
  clear b4 ra rb
  go_wp2_with (refine wpList_store_row rfl 24 _ _ rfl (gI (fzF (tm (rF F) (rF G)))) rfl rfl rz (by rw [gI_length, gI_length]) (poInfoA _) ?_; intro w7 r7 hw7)
  refine bodyPost_row (k := .i64) rfl rfl rfl r7 Tryd.underlying24 rfl (poInfoA _) ?_
  exact ⟨rfl, hw7.below _ _ (by omega) hbw⟩

set_option maxRecDepth 100000 in
set_option maxHeartbeats 2000000 in
theorem nproduct_any (A B : Array Value) (F G : Nat → Int) (hF : Po F) (hG : Po G) (hA : A = ((gI F).map (Value.int .i64)).toArray) (hB : B = ((gI G).map (Value.int .i64)).toArray) (w : World) (hT : PwT w) :
    Calls Tryd.prog 5 #[.agg A, .agg B] w fun e w' => e = .returned (poV (pd (rF F) (rF G))) ∧ Below w.heap.size w w' := by
  have HF : Hid (Po F) := hF
  have HG : Hid (Po G) := hG
  have HT : Hid (PwT w) := hT
  clear hF hG hT
  go_enter Tryd.func5, Tryd.ntmps5
  go_wp2_with (refine wpList_box_row (k := .i64) rfl 24 _ rfl (gI F) (by rw [← hA]; rfl) (gI_ne _) (poMax _) ?_)
  intro w1 ra b1 s1
  rw [gI_length] at ra
  have hbw := b1
  have n1 : w.heap.size < w1.heap.size := by have := s1.out; omega
  clear b1 s1 hA
  go_wp2_with (refine wpList_box_row (k := .i64) rfl 24 _ rfl (gI G) (by rw [← hB]; rfl) (gI_ne _) (poMax _) ?_)
  intro w2 rb b2 s2
  rw [gI_length] at rb
  replace ra := ra.kept b2
  replace hbw := stepB hbw b2
  have n2 : w1.heap.size < w2.heap.size := by have := s2.out; omega
  clear b2 s2 hB
  go_wp2_with (refine wpList_alloc_row (k := .i64) rfl 24 rfl (gI fun _ => 0) (alloc_poA _) (gI_ne _) (poMax _) ?_)
  intro w3 rz b3 s3
  rw [gI_length] at rz
  replace ra := ra.kept b3
  replace rb := rb.kept b3
  replace hbw := stepB hbw b3
  have n3 : w2.heap.size < w3.heap.size := by have := s3.out; omega
  clear b3 s3
  have HP : Hid (inw (rF (fzF (tm (rF (fzF (fwd (rF F)))) (rF (fzF (fwd (rF G))))))) = pd (rF F) (rF G)) := by
    show _ = _
    rw [rF_fz, rF_fz, rF_fz]
    rfl
  go_wp2_with fail
  have hS : RowAt .i64 24 w.heap.size 256 (gI F) w3.drew ∧ RowAt .i64 24 w1.heap.size 256 (gI G) w3.drew := ⟨ra.drew, rb.drew⟩
  replace rz := rz.drew
  replace hbw := hbw.drew
  clear ra rb
  refine wpS_begin (fun W => RowAt .i64 24 w.heap.size 256 (gI F) W ∧ RowAt .i64 24 w1.heap.size 256 (gI G) W) (by kernel_rfl) ?_
  refine wpS_take (hS := hS) (i := 0) (oi := { dst := some 5, op := Op.load 24 (Operand.tmp 2), type := 24, pos := "ntt.go:111", after := #[], guard := none }) (v := ?_) rfl (by kernel_rfl) (by kernel_rfl) (by kernel_rfl) (by rfl) ?_ ?_
  rotate_left
  · intro W hW; refine Eq.trans (exec_load_row' 24 _ (by rfl) (by rfl) hW.1 (Below.refl _ _) _ Tryd.underlying24 rfl (poInfoA F)) ?_; with_reducible rfl
  try simp only [Act.put, List.setIfInBounds_toArray, List.set_cons_zero, List.set_cons_succ]
  refine wpS_take (hS := hS) (i := 2) (oi := { dst := some 7, op := Op.load 24 (Operand.tmp 3), type := 24, pos := "ntt.go:111", after := #[], guard := none }) (v := ?_) rfl (by kernel_rfl) (by kernel_rfl) (by kernel_rfl) (by rfl) ?_ ?_
  rotate_left
  · intro W hW; refine Eq.trans (exec_load_row' 24 _ (by rfl) (by rfl) hW.2 (Below.refl _ _) _ Tryd.underlying24 rfl (poInfoA G)) ?_; with_reducible rfl
  try simp only [Act.put, List.setIfInBounds_toArray, List.set_cons_zero, List.set_cons_succ]
  refine wpS_do (i := 1) (o := { dst := some 6, op := Op.call { callee := Callee.value (Operand.func 8), args := #[Operand.tmp 5], argTypes := #[24] }, type := 24, pos := "ntt.go:111", after := #[{ on := 0, ground := Ground.data }], guard := none }) (by kernel_rfl) rfl (by rfl) fun K hK => ?_
  go_simp
  refine (nforward_any _ F HF.out rfl _ (HT.out.kept hbw)).mono ?_
  rintro e w4 ⟨rfl, b4⟩
  replace hS := And.intro (hS.1.kept b4) (hS.2.kept b4)
  replace rz := rz.kept b4
  replace hbw := stepB hbw b4
  refine hK.out _ _ hS ?_
  clear hK K
  try simp only [Act.put, List.setIfInBounds_toArray, List.set_cons_zero, List.set_cons_succ]
  refine wpS_do (i := 3) (o := { dst := some 8, op := Op.call { callee := Callee.value (Operand.func 8), args := #[Operand.tmp 7], argTypes := #[24] }, type := 24, pos := "ntt.go:111", after := #[{ on := 2, ground := Ground.data }, { on := 1, ground := Ground.chain }], guard := none }) (by kernel_rfl) rfl (by rfl) fun K hK => ?_
  go_simp
  refine (nforward_any _ G HG.out rfl _ (HT.out.kept hbw)).mono ?_
  rintro e w5 ⟨rfl, b5⟩
  replace hS := And.intro (hS.1.kept b5) (hS.2.kept b5)
  replace rz := rz.kept b5
  replace hbw := stepB hbw b5
  refine hK.out _ _ hS ?_
  clear hK K
  try simp only [Act.put, List.setIfInBounds_toArray, List.set_cons_zero, List.set_cons_succ]
  refine wpS_do (i := 4) (o := { dst := some 9, op := Op.call { callee := Callee.value (Operand.func 11), args := #[Operand.tmp 6, Operand.tmp 8], argTypes := #[24, 24] }, type := 24, pos := "ntt.go:111", after := #[{ on := 1, ground := Ground.data }, { on := 3, ground := Ground.data }, { on := 3, ground := Ground.chain }], guard := none }) (by kernel_rfl) rfl (by rfl) fun K hK => ?_
  go_simp
  refine (ntimes_any _ _ (fzF (fwd (rF F))) (fzF (fwd (rF G))) (Po.fz _) (Po.fz _) rfl rfl _ (HT.out.kept hbw)).mono ?_
  rintro e w6 ⟨rfl, b6⟩
  replace hS := And.intro (hS.1.kept b6) (hS.2.kept b6)
  replace rz := rz.kept b6
  replace hbw := stepB hbw b6
  refine hK.out _ _ hS ?_
  clear hK K
  try simp only [Act.put, List.setIfInBounds_toArray, List.set_cons_zero, List.set_cons_succ]
  refine wpS_do (i := 5) (o := { dst := some 10, op := Op.call { callee := Callee.value (Operand.func 10), args := #[Operand.tmp 9], argTypes := #[24] }, type := 24, pos := "ntt.go:111", after := #[{ on := 4, ground := Ground.data }, { on := 4, ground := Ground.chain }], guard := none }) (by kernel_rfl) rfl (by rfl) fun K hK => ?_
  go_simp
  refine (ninverse_any _ (fzF (tm (rF (fzF (fwd (rF F)))) (rF (fzF (fwd (rF G)))))) (Po.fz _) rfl _ (HT.out.kept hbw)).mono ?_
  rintro e w7 ⟨rfl, b7⟩
  replace hS := And.intro (hS.1.kept b7) (hS.2.kept b7)
  replace rz := rz.kept b7
  replace hbw := stepB hbw b7
  refine hK.out _ _ hS ?_
  clear hK K
  try simp only [Act.put, List.setIfInBounds_toArray, List.set_cons_zero, List.set_cons_succ]
  refine wpS_do (i := 6) (o := { dst := none, op := Op.store 24 (Operand.tmp 4) (Operand.tmp 10), type := 0, pos := "ntt.go:111", after := #[{ on := 5, ground := Ground.data }, { on := 5, ground := Ground.chain }, { on := 0, ground := Ground.phase }, { on := 1, ground := Ground.phase }, { on := 2, ground := Ground.phase }, { on := 3, ground := Ground.phase }, { on := 4, ground := Ground.phase }, { on := 5, ground := Ground.phase }], guard := none }) (by kernel_rfl) rfl (by rfl) fun K hK => ?_
  rw [HP.out]
  refine wp_store_row 24 _ _ rfl (gI (fzF (pd (rF F) (rF G)))) rfl rfl rz (by rw [gI_length, gI_length]) (poInfoA _) ?_
  intro w8 r8 hw8
  replace hS := And.intro (hS.1.wrote hw8 (by omega)) (hS.2.wrote hw8 (by omega))
  replace hbw := hw8.below _ _ (by omega) hbw
  refine hK.out _ _ hS ?_
  clear hK K
  try simp only [Act.put, List.setIfInBounds_toArray, List.set_cons_zero, List.set_cons_succ]
  refine wpS_done (by kernel_rfl) ?_
  go_wp2_with fail
  refine bodyPost_row (k := .i64) rfl rfl rfl r8 Tryd.underlying24 rfl (poInfoA _) ?_
  exact ⟨rfl, hbw⟩
end Go.Proofs.YtbladcgdbhogcabDoor
