/- Rests, sums and differences of polynomials: contracts of package ntt, third part. -/
import Derived.Test.YtbladcgdbhogcabDoorN11b
namespace Go.Proofs.YtbladcgdbhogcabDoor
open Go.ChangeShapes Go.WideShapes Go.ChangeAt Go.RowKit
set_option linter.unusedSimpArgs false
set_option linter.unusedVariables false

set_option maxRecDepth 100000 in
set_option maxHeartbeats 2000000 in
theorem ncleaned_any (A : Array Value) (F : Nat → Int) (hF : Po F) (hA : A = ((gI F).map (Value.int .i64)).toArray) (w : World) :
    Calls Tryd.prog 14 #[.agg A] w fun e w' => e = .returned (poV (rF F)) ∧ Below w.heap.size w w' := by
  have HF : Hid (Po F) := hF
  have hmf : ∀ (fn : Fn) (first cap : Array Value) (w : World), (Instr.makeFunc fn first cap).run Tryd.prog w = .ok (.func fn first cap) w := fun _ _ _ _ => rfl
  clear hF
  go_enter Tryd.func14, Tryd.ntmps14
  go_wp2_with (refine wpList_box_row (k := .i64) rfl 24 _ rfl (gI F) (by rw [← hA]; rfl) (gI_ne _) (poMax _) ?_)
  intro w1 ra b1 s1
  rw [gI_length] at ra
  have hbw := b1
  have n1 : w.heap.size < w1.heap.size := by have := s1.out; omega
  clear b1 s1 hA
  go_wp2_with (refine wpList_alloc_row (k := .i64) rfl 24 rfl (gI fun _ => 0) (alloc_poA _) (gI_ne _) (poMax _) ?_)
  intro w2 rz b2 s2
  rw [gI_length] at rz
  replace ra := ra.kept b2
  replace hbw := stepB hbw b2
  clear b2 s2
  go_wp2_with fail
  refine (placed_any 32 _ (rF F) _ (enters_by Tryd.func32 (by kernel_rfl) rfl) fun i hi W hW => by rw [app1]; exact cclean_any F HF.out _ i hi W (ra.kept hW)).mono ?_
  rintro e w3 ⟨rfl, b3⟩
  replace rz := rz.kept b3
  replace hbw := stepB hbw b3
  clear b3 ra
  go_wp2_with (refine wpList_store_row rfl 24 _ _ rfl (gI (fzF (rF F))) rfl rfl rz (by rw [gI_length, gI_length]) (poInfoA _) ?_; intro w7 r7 hw7)
  refine bodyPost_row (k := .i64) rfl rfl rfl r7 Tryd.underlying24 rfl (poInfoA _) ?_
  exact ⟨rfl, hw7.below _ _ (by omega) hbw⟩

set_option maxRecDepth 100000 in
set_option maxHeartbeats 2000000 in
theorem nplus_any (A B : Array Value) (F G : Nat → Int) (hF : Po F) (hG : Po G) (hA : A = ((gI F).map (Value.int .i64)).toArray) (hB : B = ((gI G).map (Value.int .i64)).toArray) (w : World) :
    Calls Tryd.prog 12 #[.agg A, .agg B] w fun e w' => e = .returned (poV (fun k => rF F k + rF G k)) ∧ Below w.heap.size w w' := by
  have HF : Hid (Po F) := hF
  have HG : Hid (Po G) := hG
  have hmf : ∀ (fn : Fn) (first cap : Array Value) (w : World), (Instr.makeFunc fn first cap).run Tryd.prog w = .ok (.func fn first cap) w := fun _ _ _ _ => rfl
  clear hF hG
  go_enter Tryd.func12, Tryd.ntmps12
  go_wp2_with (refine wpList_box_row (k := .i64) rfl 24 _ rfl (gI F) (by rw [← hA]; rfl) (gI_ne _) (poMax _) ?_)
  intro w1 ra b1 s1
  rw [gI_length] at ra
  have hbw := b1
  have n1 : w.heap.size < w1.heap.size := by have := s1.out; omega
  clear b1 s1 hA
  go_wp2_with (refine wpList_box_row (k := .i64) rfl 24 _ rfl (gI G) (by rw [← hB]; rfl) (gI_ne _) (poMax _) ?_)
  intro w2 rb b2 s2
  rw [gI_length] at rb
  replace ra := ra.kept b2
  replace hbw := stepB hbw b2
  have n2 : w1.heap.size < w2.heap.size := by have := s2.out; omega
  clear b2 s2 hB
  go_wp2_with (refine wpList_alloc_row (k := .i64) rfl 24 rfl (gI fun _ => 0) (alloc_poA _) (gI_ne _) (poMax _) ?_)
  intro w3 rz b3 s3
  rw [gI_length] at rz
  replace ra := ra.kept b3
  replace rb := rb.kept b3
  replace hbw := stepB hbw b3
  clear b3 s3
  go_wp2_with fail
  refine (placed_any 30 _ (fun k => rF F k + rF G k) _ (enters_by Tryd.func30 (by kernel_rfl) rfl) fun i hi W hW => by rw [app2]; exact cplus_any F G HF.out HG.out _ _ i hi W (ra.kept hW) (rb.kept hW)).mono ?_
  rintro e w4 ⟨rfl, b4⟩
  replace rz := rz.kept b4
  replace hbw := stepB hbw b4
  clear b4 ra rb
  go_wp2_with (refine wpList_store_row rfl 24 _ _ rfl (gI (fzF (fun k => rF F k + rF G k))) rfl rfl rz (by rw [gI_length, gI_length]) (poInfoA _) ?_; intro w7 r7 hw7)
  refine bodyPost_row (k := .i64) rfl rfl rfl r7 Tryd.underlying24 rfl (poInfoA _) ?_
  exact ⟨rfl, hw7.below _ _ (by omega) hbw⟩

set_option maxRecDepth 100000 in
set_option maxHeartbeats 2000000 in
theorem nminus_any (A B : Array Value) (F G : Nat → Int) (hF : Po F) (hG : Po G) (hA : A = ((gI F).map (Value.int .i64)).toArray) (hB : B = ((gI G).map (Value.int .i64)).toArray) (w : World) :
    Calls Tryd.prog 13 #[.agg A, .agg B] w fun e w' => e = .returned (poV (fun k => rF F k - rF G k)) ∧ Below w.heap.size w w' := by
  have HF : Hid (Po F) := hF
  have HG : Hid (Po G) := hG
  have hmf : ∀ (fn : Fn) (first cap : Array Value) (w : World), (Instr.makeFunc fn first cap).run Tryd.prog w = .ok (.func fn first cap) w := fun _ _ _ _ => rfl
  clear hF hG
  go_enter Tryd.func13, Tryd.ntmps13
  go_wp2_with (refine wpList_box_row (k := .i64) rfl 24 _ rfl (gI F) (by rw [← hA]; rfl) (gI_ne _) (poMax _) ?_)
  intro w1 ra b1 s1
  rw [gI_length] at ra
  have hbw := b1
  have n1 : w.heap.size < w1.heap.size := by have := s1.out; omega
  clear b1 s1 hA
  go_wp2_with (refine wpList_box_row (k := .i64) rfl 24 _ rfl (gI G) (by rw [← hB]; rfl) (gI_ne _) (poMax _) ?_)
  intro w2 rb b2 s2
  rw [gI_length] at rb
  replace ra := ra.kept b2
  replace hbw := stepB hbw b2
  have n2 : w1.heap.size < w2.heap.size := by have := s2.out; omega
  clear b2 s2 hB
  go_wp2_with (refine wpList_alloc_row (k := .i64) rfl 24 rfl (gI fun _ => 0) (alloc_poA _) (gI_ne _) (poMax _) ?_)
  intro w3 rz b3 s3
  rw [gI_length] at rz
  replace ra := ra.kept b3
  replace rb := rb.kept b3
  replace hbw := stepB hbw b3
  clear b3 s3
  go_wp2_with fail
  refine (placed_any 31 _ (fun k => rF F k - rF G k) _ (enters_by Tryd.func31 (by kernel_rfl) rfl) fun i hi W hW => by rw [app2]; exact cminus_any F G HF.out HG.out _ _ i hi W (ra.kept hW) (rb.kept hW)).mono ?_
  rintro e w4 ⟨rfl, b4⟩
  replace rz := rz.kept b4
  replace hbw := stepB hbw b4
  clear b4 ra rb
  go_wp2_with (refine wpList_store_row rfl 24 _ _ rfl (gI (fzF (fun k => rF F k - rF G k))) rfl rfl rz (by rw [gI_length, gI_length]) (poInfoA _) ?_; intro w7 r7 hw7)
  refine bodyPost_row (k := .i64) rfl rfl rfl r7 Tryd.underlying24 rfl (poInfoA _) ?_
  exact ⟨rfl, hw7.below _ _ (by omega) hbw⟩
end Go.Proofs.YtbladcgdbhogcabDoor
