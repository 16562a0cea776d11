/- Rows of three polynomials, told place by place by a closure: contracts of package kpke, first part. -/
import Derived.Test.YtmhbjaampobcbaaGreatDoorNt
import Derived.Test.YtmhbjaampobcbaaGreatDoorJm
namespace Go.Proofs.YtmhbjaampobcbaaGreatDoor
open Go.ChangeShapes Go.WideShapes Go.ChangeAt Go.RowKit
set_option linter.unusedSimpArgs false
set_option linter.unusedVariables false

theorem infoP13 (f : Nat → FZ) : (Tryz.prog.info? 58).map (·.size) = some (poC f).length := by rw [poC_length]; kernel_rfl
theorem infoW13 (g : Nat → Nat → FZ) : (Tryz.prog.info? 60).map (·.size) = some (rwC g).length := by rw [prC13_length]; kernel_rfl
theorem allocP13 (w : World) : (Instr.alloc 58 true (.tuple #[])).run Tryz.prog w = .ok (.pointer (some ⟨w.heap.size, 0, none⟩)) (w.alloc (.cells (poC fun _ => 0).toArray 58)) := by kernel_rfl
theorem allocW13 (w : World) : (Instr.alloc 60 true (.tuple #[])).run Tryz.prog w = .ok (.pointer (some ⟨w.heap.size, 0, none⟩)) (w.alloc (.cells (rwC fun _ _ => 0).toArray 60)) := by kernel_rfl
theorem whole13 (l : List Value) : l = [] ++ l ++ [] := by simp

set_option maxRecDepth 100000 in
set_option maxHeartbeats 2000000 in
theorem rowOf_any (K : FuncId) (caps : Array Value) (g : Nat → Nat → FZ) (w : World) (hE : ∀ (args : Array Value) (w : World), (callFunc K args).run Tryz.prog w = .ok (.enter K args) w)
  (hK : ∀ i : Nat, i < 3 → ∀ W, Below w.heap.size w W → Calls Tryz.prog K (#[Value.int .i64 (i : Int)] ++ caps) W fun e w' => e = .returned (poV (g i)) ∧ Below W.heap.size W w') :
  Calls Tryz.prog 78 #[.func (.func K) #[] caps] w fun e w' => e = .returned (rwV g) ∧ Below w.heap.size w w' := by
 have HK : Hid _ := hK
 clear hK
 go_enter Tryz.func78, Tryz.ntmps78
 go_wp2_with (refine wpList_alloc_blk rfl 60 rfl (rwC fun _ _ => 0) (allocW13 _) ?_)
 intro w1 rz b1 s1
 go_wp2_with (refine wpList_alloc_blk rfl 60 rfl (rwC fun _ _ => 0) (allocW13 _) ?_)
 intro w2 ro b2 s2
 replace rz := rz.kept b2
 have hbw := stepB b1 b2
 have n1 : w.heap.size < w1.heap.size := by have := s1.out; omega
 rw [← ftR_zero g] at ro
 clear b1 b2 s1 s2
 go_wp2
 go_loopw [5] (fun iv wx => ∃ i : Nat, i ≤ 3 ∧ iv = .int .i64 (i : Int) ∧ BlkAt w.heap.size 60 (rwC fun _ _ => 0) wx ∧ BlkAt w1.heap.size 60 (rwC (ftR g i)) wx ∧ Below w.heap.size w wx) (fun iv _ => 3 - (intOf iv).toNat)
 case atStart => exact ⟨0, by omega, rfl, rz, ro, hbw⟩
 case round =>
  obtain ⟨i, hi, rfl, rx, ra, hbx⟩ := hrel
  clear rz ro hbw
  by_cases hlt : i < 3
  ·have hd : decide ((i : Int) < 3) = true := decide_eq_true (by omega)
   have hiI : (i : Int) < 3 := by omega
   obtain ⟨post, hp0, hp1⟩ := ftR_step g i hlt
   have HP1 : Hid _ := hp1
   have HP0 : Hid _ := hp0
   clear hp0 hp1
   go_wp2_with fail
   refine (HK.out i hlt _ hbx).mono ?_
   rintro e w3 ⟨rfl, b3⟩
   replace ra := ra.kept b3
   replace rx := rx.kept b3
   replace hbx := stepB hbx b3
   clear b3
   go_wp2_with (refine wpList_store_part rfl 58 _ _ rfl rfl (poC (g i)) rfl (prC13 g i) (poC fun _ => 0) post _ ra HP0.out HP1.out (by rw [prC13_length]; omega) (by rw [poC_length, poC_length]) (infoP13 _) (poC_all _) ?_)
   intro w4 r4 hw4
   replace rx := rx.wrote hw4 (by omega)
   replace hbx := hw4.below _ _ (by omega) hbx
   clear ra hw4
   go_wp2
   go_roundw
   case rel => exact ⟨i + 1, by omega, by go_num, rx, r4, hbx⟩
   case measure => simp [intOf] <;> omega
  ·have hie : i = 3 := by omega
   have hd : decide ((i : Int) < 3) = false := decide_eq_false (by omega)
   have hiI : (3 : Int) ≤ (i : Int) := by omega
   rw [hie, ftR_end] at ra
   clear hie
   go_wp2_with (first | refine wpList_load_part rfl 60 _ rfl rfl [] (rwC g) [] ra (whole13 _) rfl Tryz.underlying60 rfl (infoW13 _) ?_ | (refine wpList_store_part rfl 60 _ _ rfl rfl (rwC g) rfl [] (rwC fun _ _ => 0) [] (rwC g) rx (whole13 _) (whole13 _) rfl (by rw [prC13_length, prC13_length]) (infoW13 _) (rwC_all _) ?_; intro w7 r7 hw7))
   refine bodyPost_blk rfl rfl rfl r7 Tryz.underlying60 rfl (infoW13 _) ?_
   exact ⟨rfl, hw7.below _ _ (Nat.le_refl _) hbx⟩
end Go.Proofs.YtmhbjaampobcbaaGreatDoor
