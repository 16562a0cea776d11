/- A row with each polynomial changed, sums of rows, the product of two rows: contracts of package kpke, fourth part. -/
import Derived.Test.YtmhbjaampobcbaaGreatDoorX13c
namespace Go.Proofs.YtmhbjaampobcbaaGreatDoor
open Go.ChangeShapes Go.WideShapes Go.ChangeAt Go.RowKit
set_option linter.unusedSimpArgs false
set_option linter.unusedVariables false

set_option maxRecDepth 100000 in
set_option maxHeartbeats 2000000 in
theorem each_any (K : FuncId) (caps A : Array Value) (g h : Nat → Nat → FZ) (hA : A = (rwC g).toArray) (w : World) (hE : ∀ (args : Array Value) (w : World), (callFunc K args).run Tryz.prog w = .ok (.enter K args) w)
  (hK : ∀ i, i < 3 → ∀ W, Below w.heap.size w W → Calls Tryz.prog K (#[poV (g i)] ++ caps) W fun e w' => e = .returned (poV (h i)) ∧ Below W.heap.size W w') :
  Calls Tryz.prog 42 #[.agg A, .func (.func K) #[] caps] w fun e w' => e = .returned (rwV h) ∧ Below w.heap.size w w' := by
 have hmf := mkf13
 have HK : Hid _ := hK
 have HE : Hid _ := hE
 clear hK
 go_enter Tryz.func42, Tryz.ntmps42
 go_wp2_with (refine wpList_box_blk rfl 60 _ rfl (rwC g) (by rw [← hA]; rfl) ?_)
 intro w1 rr b1 s1
 go_wp2_with (refine wpList_box_val rfl 63 _ rfl (.func (.func K) #[] caps) rfl (boxF13 _ _ _ _) ?_)
 intro w2 rc b2 s2
 go_wp2_with (refine wpList_alloc_blk rfl 60 rfl (rwC fun _ _ => 0) (allocW13 _) ?_)
 intro w3 rz b3 s3
 replace rr := (rr.kept b2).kept b3
 replace rc := rc.kept b3
 have hbw := stepB (stepB b1 b2) b3
 have n1 : w.heap.size < w1.heap.size := by have := s1.out; omega
 have n2 : w1.heap.size < w2.heap.size := by have := s2.out; omega
 clear b1 b2 b3 s1 s2 s3 hA
 go_wp2_with fail
 refine (rowOf_any 81 _ h _ (enters_by Tryz.func81 (by kernel_rfl) rfl) fun i hi W hW => by rw [app2]; exact ceach_any K caps g h _ _ i hi W (rc.kept hW) (rr.kept hW) HE.out (fun W2 h2 => HK.out i hi W2 (stepB (stepB hbw hW) h2))).mono ?_
 rintro e w4 ⟨rfl, b4⟩
 replace rz := rz.kept b4
 replace hbw := stepB hbw b4
 clear b4 rr rc
 go_wp2_with (refine wpList_store_part rfl 60 _ _ rfl rfl (rwC h) rfl [] (rwC fun _ _ => 0) [] (rwC h) rz (whole13 _) (whole13 _) rfl (by rw [prC13_length, prC13_length]) (infoW13 _) (rwC_all _) ?_; intro w7 r7 hw7)
 refine bodyPost_blk rfl rfl rfl r7 Tryz.underlying60 rfl (infoW13 _) ?_
 exact ⟨rfl, hw7.below _ _ (by omega) hbw⟩

set_option maxRecDepth 100000 in
set_option maxHeartbeats 2000000 in
theorem crplus_any (f g : Nat → Nat → FZ) (ga gb : Nat) (i : Nat) (hi : i < 3) (w : World) (ra : BlkAt ga 60 (rwC f) w) (rb : BlkAt gb 60 (rwC g) w) :
  Calls Tryz.prog 91 #[.int .i64 (i : Int), .pointer (some ⟨ga, 0, none⟩), .pointer (some ⟨gb, 0, none⟩)] w fun e w' => e = .returned (poV fun k => f i k + g i k) ∧ Below w.heap.size w w' := by
 obtain ⟨pa, hpa⟩ := prC13_split f i 3 hi
 obtain ⟨pb, hpb⟩ := prC13_split g i 3 hi
 have HA : Hid _ := hpa
 have HB : Hid _ := hpb
 have hiI : (i : Int) < 3 := by omega
 clear hpa hpb
 go_enter Tryz.func91, Tryz.ntmps91
 go_wp2_with (refine wpList_alloc_blk rfl 58 rfl (poC fun _ => 0) (allocP13 _) ?_)
 intro w1 rz b1 s1
 replace ra := ra.kept b1
 replace rb := rb.kept b1
 have hbw := b1
 clear b1 s1
 go_wp2_with fail
 refine wpE_begin 7 (by kernel_rfl) ?_
 refine wpE_t (i := 0) (oi := ⟨some 5, .move (.tmp 0), 3, "kpke.go:75", #[], none⟩) (v := ?_) ?_ ?_
 rotate_left
 ·intro W hW; go_simp <;> with_reducible rfl
 try simp only [Act.put, putA, putB, putC]
 refine wpE_t (i := 1) (oi := ⟨some 6, .indexAddr 60 (.tmp 1) (.tmp 5), 0, "kpke.go:75", #[⟨0, .data⟩], none⟩) (v := ?_) ?_ ?_
 rotate_left
 ·intro W hW; go_simp <;> with_reducible rfl
 try simp only [Act.put, putA, putB, putC]
 refine wpE_t (i := 2) (oi := ⟨some 7, .load 58 (.tmp 6), 58, "kpke.go:75", #[⟨1, .data⟩], none⟩) (v := ?_) ?_ ?_
 rotate_left
 ·intro W hW; refine Eq.trans (exec_load_part 58 _ (by rfl) (by rfl) (prC13 f i) (poC (f i)) pa ra.drew hW HA.out (by rw [prC13_length]; omega) Tryz.underlying58 rfl (infoP13 _)) ?_; with_reducible rfl
 try simp only [Act.put, putA, putB, putC]
 refine wpE_t (i := 3) (oi := ⟨some 8, .move (.tmp 0), 3, "kpke.go:75", #[], none⟩) (v := ?_) ?_ ?_
 rotate_left
 ·intro W hW; go_simp <;> with_reducible rfl
 try simp only [Act.put, putA, putB, putC]
 refine wpE_t (i := 4) (oi := ⟨some 9, .indexAddr 60 (.tmp 2) (.tmp 8), 0, "kpke.go:75", #[⟨3, .data⟩], none⟩) (v := ?_) ?_ ?_
 rotate_left
 ·intro W hW; go_simp <;> with_reducible rfl
 try simp only [Act.put, putA, putB, putC]
 refine wpE_t (i := 5) (oi := ⟨some 10, .load 58 (.tmp 9), 58, "kpke.go:75", #[⟨4, .data⟩], none⟩) (v := ?_) ?_ ?_
 rotate_left
 ·intro W hW; refine Eq.trans (exec_load_part 58 _ (by rfl) (by rfl) (prC13 g i) (poC (g i)) pb rb.drew hW HB.out (by rw [prC13_length]; omega) Tryz.underlying58 rfl (infoP13 _)) ?_; with_reducible rfl
 try simp only [Act.put, putA, putB, putC]
 refine wpE_do (i := 6) (o := ⟨some 11, .call { callee := .value (.func 92), args := #[.tmp 7, .tmp 10], argTypes := #[58, 58] }, 58, "kpke.go:75", #[⟨2, .data⟩, ⟨5, .data⟩], none⟩) (by kernel_rfl) rfl (by rfl) fun K hK => ?_
 go_simp
 refine (nplusQ (f i) (g i) _).mono ?_
 rintro e wq ⟨rfl, bq⟩
 refine hK.out _ _ bq ?_
 clear hK K
 try simp only [Act.put, putA, putB, putC]
 refine wpE_last (o := ⟨none, .store 58 (.tmp 4) (.tmp 11), 0, "kpke.go:75", #[⟨6, .data⟩, ⟨6, .chain⟩, ⟨0, .phase⟩, ⟨1, .phase⟩, ⟨2, .phase⟩, ⟨3, .phase⟩, ⟨4, .phase⟩, ⟨5, .phase⟩, ⟨6, .phase⟩], none⟩) (by kernel_rfl) (by kernel_rfl) rfl (by rfl) fun K hK => ?_
 refine wp_store_part 58 _ _ rfl rfl (poC fun k => f i k + g i k) rfl [] (poC fun _ => 0) [] (poC fun k => f i k + g i k) (rz.drew.kept bq) (whole13 _) (whole13 _) rfl (by rw [poC_length, poC_length]) (infoP13 _) (poC_all _) ?_
 intro wS rS hwS
 refine hK.out _ _ ?_
 clear hK K
 try simp only [Act.put, putA, putB, putC]
 go_wp2_with fail
 refine bodyPost_blk rfl rfl rfl rS Tryz.underlying58 rfl (infoP13 _) ?_
 exact ⟨rfl, hwS.below _ _ (Nat.le_refl _) (stepB hbw.drew bq)⟩

set_option maxRecDepth 100000 in
set_option maxHeartbeats 2000000 in
theorem rplus_any (A B : Array Value) (f g : Nat → Nat → FZ) (hA : A = (rwC f).toArray) (hB : B = (rwC g).toArray) (w : World) :
  Calls Tryz.prog 46 #[.agg A, .agg B] w fun e w' => e = .returned (rwV fun i k => f i k + g i k) ∧ Below w.heap.size w w' := by
 have hmf := mkf13
 go_enter Tryz.func46, Tryz.ntmps46
 go_wp2_with (refine wpList_box_blk rfl 60 _ rfl (rwC f) (by rw [← hA]; rfl) ?_)
 intro w1 ra b1 s1
 clear hA
 go_wp2_with (refine wpList_box_blk rfl 60 _ rfl (rwC g) (by rw [← hB]; rfl) ?_)
 intro w2 rb b2 s2
 go_wp2_with (refine wpList_alloc_blk rfl 60 rfl (rwC fun _ _ => 0) (allocW13 _) ?_)
 intro w3 rz b3 s3
 replace ra := (ra.kept b2).kept b3
 replace rb := rb.kept b3
 have hbw := stepB (stepB b1 b2) b3
 have n1 : w.heap.size < w1.heap.size := by have := s1.out; omega
 have n2 : w1.heap.size < w2.heap.size := by have := s2.out; omega
 clear b1 b2 b3 s1 s2 s3 hB
 go_wp2_with fail
 refine (rowOf_any 91 _ (fun i k => f i k + g i k) _ (enters_by Tryz.func91 (by kernel_rfl) rfl) fun i hi W hW => by rw [app2]; exact crplus_any f g _ _ i hi W (ra.kept hW) (rb.kept hW)).mono ?_
 rintro e w4 ⟨rfl, b4⟩
 replace rz := rz.kept b4
 replace hbw := stepB hbw b4
 clear b4 ra rb
 go_wp2_with (refine wpList_store_part rfl 60 _ _ rfl rfl (rwC fun i k => f i k + g i k) rfl [] (rwC fun _ _ => 0) [] (rwC fun i k => f i k + g i k) rz (whole13 _) (whole13 _) rfl (by rw [prC13_length, prC13_length]) (infoW13 _) (rwC_all _) ?_; intro w7 r7 hw7)
 refine bodyPost_blk rfl rfl rfl r7 Tryz.underlying60 rfl (infoW13 _) ?_
 exact ⟨rfl, hw7.below _ _ (by omega) hbw⟩

set_option maxRecDepth 100000 in
set_option maxHeartbeats 4000000 in
theorem rtimes_any (A B : Array Value) (f g : Nat → Nat → FZ) (hA : A = (rwC f).toArray) (hB : B = (rwC g).toArray) (w : World) (hT : PwT w) :
  Calls Tryz.prog 72 #[.agg A, .agg B] w fun e w' => e = .returned (poV (acF (fun _ => 0) (fun j => tm (f j) (g j)) 3)) ∧ Below w.heap.size w w' := by
 go_enter Tryz.func72, Tryz.ntmps72
 go_wp2_with (refine wpList_box_blk rfl 60 _ rfl (rwC f) (by rw [← hA]; rfl) ?_)
 intro w1 ra b1 s1
 clear hA
 go_wp2_with (refine wpList_box_blk rfl 60 _ rfl (rwC g) (by rw [← hB]; rfl) ?_)
 intro w2 rb b2 s2
 go_wp2_with (refine wpList_alloc_blk rfl 58 rfl (poC fun _ => 0) (allocP13 _) ?_)
 intro w3 rz b3 s3
 go_wp2_with (refine wpList_alloc_blk rfl 58 rfl (poC fun _ => 0) (allocP13 _) ?_)
 intro w4 rs b4 s4
 replace ra := ((ra.kept b2).kept b3).kept b4
 replace rb := (rb.kept b3).kept b4
 replace rz := rz.kept b4
 have hbw := stepB (stepB (stepB b1 b2) b3) b4
 have n1 : w.heap.size < w1.heap.size := by have := s1.out; omega
 have n2 : w1.heap.size < w2.heap.size := by have := s2.out; omega
 have n3 : w2.heap.size < w3.heap.size := by have := s3.out; omega
 have r0 : BlkAt w3.heap.size 58 (poC (acF (fun _ => 0) (fun j => tm (f j) (g j)) 0)) w4 := rs
 clear b1 b2 b3 b4 s1 s2 s3 s4 hB rs
 go_wp2
 go_loopw [7] (fun iv wx => ∃ i : Nat, i ≤ 3 ∧ iv = .int .i64 (i : Int) ∧ BlkAt w.heap.size 60 (rwC f) wx ∧ BlkAt w1.heap.size 60 (rwC g) wx ∧ BlkAt w2.heap.size 58 (poC fun _ => 0) wx ∧ BlkAt w3.heap.size 58 (poC (acF (fun _ => 0) (fun j => tm (f j) (g j)) i)) wx ∧ Below w.heap.size w wx) (fun iv _ => 3 - (intOf iv).toNat)
 case atStart => exact ⟨0, by omega, rfl, ra, rb, rz, r0, hbw⟩
 case round =>
  obtain ⟨i, hi, rfl, ra', rb', rz', rs', hbx⟩ := hrel
  clear ra rb rz r0 hbw
  by_cases hlt : i < 3
  ·have hd : decide ((i : Int) < 3) = true := decide_eq_true (by omega)
   have hiI : (i : Int) < 3 := by omega
   obtain ⟨pa, hpa⟩ := prC13_split f i 3 hlt
   obtain ⟨pb, hpb⟩ := prC13_split g i 3 hlt
   have HA : Hid _ := hpa
   have HB : Hid _ := hpb
   have HNx : Hid (∀ x y : Nat → FZ, x = acF (fun _ => 0) (fun j => tm (f j) (g j)) i → y = tm (f i) (g i) → (fun k => x k + y k) = acF (fun _ => 0) (fun j => tm (f j) (g j)) (i + 1)) := by
    intro x y hx hy
    rw [hx, hy]
    rfl
   obtain ⟨f0, hf0⟩ : ∃ x : Nat → FZ, x = acF (fun _ => 0) (fun j => tm (f j) (g j)) i := ⟨_, rfl⟩
   rw [← hf0] at rs'
   have HF0 : Hid _ := hf0
   have HT : Hid (PwT wr) := hT.kept hbx
   clear hpa hpb hf0
   go_wp2_with fail
   refine wpE_begin 9 (by kernel_rfl) ?_
   refine wpE_t (i := 0) (oi := ⟨some 10, .load 58 (.tmp 5), 58, "kpke.go:82", #[], none⟩) (v := ?_) ?_ ?_
   rotate_left
   ·intro W hW; refine Eq.trans (exec_load_part 58 _ (by rfl) (by rfl) [] (poC f0) [] rs'.drew hW (whole13 _) rfl Tryz.underlying58 rfl (infoP13 _)) ?_; with_reducible rfl
   try simp only [Act.put, putA, putB, putC]
   refine wpE_t (i := 1) (oi := ⟨some 11, .move (.tmp 6), 3, "kpke.go:82", #[], none⟩) (v := ?_) ?_ ?_
   rotate_left
   ·intro W hW; go_simp <;> with_reducible rfl
   try simp only [Act.put, putA, putB, putC]
   refine wpE_t (i := 2) (oi := ⟨some 12, .indexAddr 60 (.tmp 2) (.tmp 11), 0, "kpke.go:82", #[⟨1, .data⟩], none⟩) (v := ?_) ?_ ?_
   rotate_left
   ·intro W hW; go_simp <;> with_reducible rfl
   try simp only [Act.put, putA, putB, putC]
   refine wpE_t (i := 3) (oi := ⟨some 13, .load 58 (.tmp 12), 58, "kpke.go:82", #[⟨2, .data⟩], none⟩) (v := ?_) ?_ ?_
   rotate_left
   ·intro W hW; refine Eq.trans (exec_load_part 58 _ (by rfl) (by rfl) (prC13 f i) (poC (f i)) pa ra'.drew hW HA.out (by rw [prC13_length]; omega) Tryz.underlying58 rfl (infoP13 _)) ?_; with_reducible rfl
   try simp only [Act.put, putA, putB, putC]
   refine wpE_t (i := 4) (oi := ⟨some 14, .move (.tmp 6), 3, "kpke.go:82", #[], none⟩) (v := ?_) ?_ ?_
   rotate_left
   ·intro W hW; go_simp <;> with_reducible rfl
   try simp only [Act.put, putA, putB, putC]
   refine wpE_t (i := 5) (oi := ⟨some 15, .indexAddr 60 (.tmp 3) (.tmp 14), 0, "kpke.go:82", #[⟨4, .data⟩], none⟩) (v := ?_) ?_ ?_
   rotate_left
   ·intro W hW; go_simp <;> with_reducible rfl
   try simp only [Act.put, putA, putB, putC]
   refine wpE_t (i := 6) (oi := ⟨some 16, .load 58 (.tmp 15), 58, "kpke.go:82", #[⟨5, .data⟩], none⟩) (v := ?_) ?_ ?_
   rotate_left
   ·intro W hW; refine Eq.trans (exec_load_part 58 _ (by rfl) (by rfl) (prC13 g i) (poC (g i)) pb rb'.drew hW HB.out (by rw [prC13_length]; omega) Tryz.underlying58 rfl (infoP13 _)) ?_; with_reducible rfl
   try simp only [Act.put, putA, putB, putC]
   refine wpE_do (i := 7) (o := ⟨some 17, .call { callee := .value (.func 123), args := #[.tmp 13, .tmp 16], argTypes := #[58, 58] }, 58, "kpke.go:82", #[⟨3, .data⟩, ⟨6, .data⟩], none⟩) (by kernel_rfl) rfl (by rfl) fun K hK => ?_
   go_simp
   refine (ntimesQ (f i) (g i) _ (HT.out.kept (Below.refl _ _).drew)).mono ?_
   rintro e wq ⟨rfl, bq⟩
   refine hK.out _ _ bq ?_
   clear hK K
   try simp only [Act.put, putA, putB, putC]
   refine wpE_do (i := 8) (o := ⟨some 18, .call { callee := .value (.func 92), args := #[.tmp 10, .tmp 17], argTypes := #[58, 58] }, 58, "kpke.go:82", #[⟨0, .data⟩, ⟨7, .data⟩, ⟨7, .chain⟩], none⟩) (by kernel_rfl) rfl (by rfl) fun K hK => ?_
   go_simp
   refine (nplusQ f0 (tm (f i) (g i)) _).mono ?_
   rintro e wm ⟨rfl, bm⟩
   rw [HNx.out f0 (tm (f i) (g i)) HF0.out rfl]
   refine hK.out _ _ bm ?_
   clear hK K
   try simp only [Act.put, putA, putB, putC]
   refine wpE_last (o := ⟨none, .store 58 (.tmp 5) (.tmp 18), 0, "kpke.go:82", #[⟨8, .data⟩, ⟨8, .chain⟩, ⟨0, .phase⟩, ⟨1, .phase⟩, ⟨2, .phase⟩, ⟨3, .phase⟩, ⟨4, .phase⟩, ⟨5, .phase⟩, ⟨6, .phase⟩, ⟨7, .phase⟩, ⟨8, .phase⟩], none⟩) (by kernel_rfl) (by kernel_rfl) rfl (by rfl) fun K hK => ?_
   refine wp_store_part 58 _ _ rfl rfl (poC (acF (fun _ => 0) (fun j => tm (f j) (g j)) (i + 1))) rfl [] (poC f0) [] (poC (acF (fun _ => 0) (fun j => tm (f j) (g j)) (i + 1))) ((rs'.drew.kept bq).kept bm) (whole13 _) (whole13 _) rfl (by rw [poC_length, poC_length]) (infoP13 _) (poC_all _) ?_
   intro wS rS hwS
   refine hK.out _ _ ?_
   clear hK K
   try simp only [Act.put, putA, putB, putC]
   have hbn := hwS.below _ _ (by omega) (stepB (stepB hbx.drew bq) bm)
   have ran := ((ra'.drew.kept bq).kept bm).wrote hwS (by omega)
   have rbn := ((rb'.drew.kept bq).kept bm).wrote hwS (by omega)
   have rzn := ((rz'.drew.kept bq).kept bm).wrote hwS (by omega)
   clear ra' rb' rz' rs' hbx bq bm hwS HNx HF0 HT
   go_wp2
   go_roundw
   case rel => exact ⟨i + 1, by omega, by go_num, ran, rbn, rzn, rS, hbn⟩
   case measure => simp [intOf] <;> omega
  ·have hie : i = 3 := by omega
   have hd : decide ((i : Int) < 3) = false := decide_eq_false (by omega)
   have hiI : (3 : Int) ≤ (i : Int) := by omega
   rw [hie] at rs'
   obtain ⟨f0, hf0⟩ : ∃ x : Nat → FZ, x = acF (fun _ => 0) (fun j => tm (f j) (g j)) 3 := ⟨_, rfl⟩
   rw [← hf0] at rs'
   have HF0 : Hid _ := hf0
   clear hie hf0
   go_wp2_with (first | refine wpList_load_part rfl 58 _ rfl rfl [] (poC f0) [] rs' (whole13 _) rfl Tryz.underlying58 rfl (infoP13 _) ?_ | (refine wpList_store_part rfl 58 _ _ rfl rfl (poC f0) rfl [] (poC fun _ => 0) [] (poC f0) rz' (whole13 _) (whole13 _) rfl (by rw [poC_length, poC_length]) (infoP13 _) (poC_all _) ?_; intro w7 r7 hw7))
   refine bodyPost_blk rfl rfl rfl r7 Tryz.underlying58 rfl (infoP13 _) ?_
   exact ⟨by rw [HF0.out], hw7.below _ _ (by omega) hbx⟩
end Go.Proofs.YtmhbjaampobcbaaGreatDoor
