/- Rows of small and of unpacked polynomials; a row with each changed; sums: contracts of package kpke, third part. -/
import Derived.Test.YtmhbjaampobcbaaGreatDoorX13b
namespace Go.Proofs.YtmhbjaampobcbaaGreatDoor
open Go.ChangeShapes Go.WideShapes Go.ChangeAt Go.RowKit
set_option linter.unusedSimpArgs false
set_option linter.unusedVariables false

theorem app3 (v c d e : Value) : #[v] ++ #[c, d, e] = #[v, c, d, e] := rfl
theorem mkf13 (fn : Fn) (first cap : Array Value) (w : World) : (Instr.makeFunc fn first cap).run Tryz.prog w = .ok (.func fn first cap) w := rfl
theorem boxI13 (x : Int) (w : World) : (Instr.box 3 (.int .i64 x)).run Tryz.prog w = .ok (.pointer (some ⟨w.heap.size, 0, none⟩)) (w.alloc (.cells #[.int .i64 x] 3)) := rfl
theorem boxS13 (a : Option Addr) (n c : Nat) (w : World) : (Instr.box 22 (.slice a n c)).run Tryz.prog w = .ok (.pointer (some ⟨w.heap.size, 0, none⟩)) (w.alloc (.cells #[.slice a n c] 22)) := rfl
theorem boxF13 (f : Fn) (a c : Array Value) (w : World) : (Instr.box 63 (.func f a c)).run Tryz.prog w = .ok (.pointer (some ⟨w.heap.size, 0, none⟩)) (w.alloc (.cells #[.func f a c] 63)) := rfl
theorem boxM13 (f : Fn) (a c : Array Value) (w : World) : (Instr.box 65 (.func f a c)).run Tryz.prog w = .ok (.pointer (some ⟨w.heap.size, 0, none⟩)) (w.alloc (.cells #[.func f a c] 65)) := rfl

set_option maxRecDepth 100000 in
set_option maxHeartbeats 2000000 in
theorem csmall_any (v : Value) (l : List UInt8) (first i gs gf : Nat) (hf : first ≤ 100) (hi : i < 3) (hl : l.length = 32) (w : World) (hs : BlkAt gs 22 [v] w) (hn : BlkAt gf 3 [.int .i64 (first : Int)] w) (hr : Rd w v l) (hT : Tabs w) :
  Calls Tryz.prog 79 #[.int .i64 (i : Int), .pointer (some ⟨gs, 0, none⟩), .pointer (some ⟨gf, 0, none⟩)] w fun e w' => e = .returned (poV (slF l (first + i))) ∧ Below w.heap.size w w' := by
 have HR : Hid (Rd w v l) := hr
 have HL : Hid (l.length = 32) := hl
 have hsum : IntKind.i64.wrap ((first : Int) + (i : Int)) = ((first + i : Nat) : Int) := by rw [IntWalk.i64_in _ (by omega)]; omega
 obtain ⟨n, hn0⟩ : ∃ n : Nat, n = first + i := ⟨_, rfl⟩
 rw [← hn0] at hsum ⊢
 clear hr hl hn0
 go_enter Tryz.func79, Tryz.ntmps79
 go_wp2_with (refine wpList_alloc_blk rfl 58 rfl (poC fun _ => 0) (allocP13 _) ?_)
 intro w1 rz b1 s1
 have hcs := (hs.kept b1).one
 have hcn := (hn.kept b1).one
 have HR1 : Hid (Rd w1 v l) := Rd.kept HR.out b1
 replace hT := hT.kept b1
 have hbw := b1
 clear b1 s1 hs hn
 go_wp2_with fail
 refine (small_any _ l n _ rfl HL.out _ HR1.out hT).mono ?_
 rintro e w2 ⟨rfl, b2⟩
 replace rz := rz.kept b2
 replace hbw := stepB hbw b2
 clear b2 hT hcs hcn
 obtain ⟨f, hf⟩ : ∃ f : Nat → FZ, f = slF l n := ⟨_, rfl⟩
 rw [← hf]
 have HF : Hid _ := hf
 clear hf
 go_wp2_with (refine wpList_store_part rfl 58 _ _ rfl rfl (poC f) rfl [] (poC fun _ => 0) [] (poC f) rz (whole13 _) (whole13 _) rfl (by rw [poC_length, poC_length]) (infoP13 _) (poC_all _) ?_; intro w7 r7 hw7)
 refine bodyPost_blk rfl rfl rfl r7 Tryz.underlying58 rfl (infoP13 _) ?_
 exact ⟨by rw [HF.out], hw7.below _ _ (Nat.le_refl _) hbw⟩

set_option maxRecDepth 100000 in
set_option maxHeartbeats 2000000 in
theorem smallRow_any (v : Value) (l : List UInt8) (first : Nat) (N : Int) (hN : N = (first : Int)) (hf : first ≤ 100) (hl : l.length = 32) (w : World) (hr : Rd w v l) (hT : Tabs w) :
  Calls Tryz.prog 41 #[v, .int .i64 N] w fun e w' => e = .returned (rwV fun i => slF l (first + i)) ∧ Below w.heap.size w w' := by
 subst hN
 have hmf := mkf13
 have HR : Hid (Rd w v l) := hr
 have HL : Hid (l.length = 32) := hl
 obtain ⟨av, cv, rfl, -, -, -, -⟩ := id hr
 clear hr hl
 go_enter Tryz.func41, Tryz.ntmps41
 go_wp2_with (refine wpList_box_val rfl 22 _ rfl (.slice av l.length cv) rfl (boxS13 _ _ _ _) ?_)
 intro w1 rs b1 s1
 go_wp2_with (refine wpList_box_val rfl 3 _ rfl (.int .i64 (first : Int)) rfl (boxI13 _ _) ?_)
 intro w2 rn b2 s2
 go_wp2_with (refine wpList_alloc_blk rfl 60 rfl (rwC fun _ _ => 0) (allocW13 _) ?_)
 intro w3 rz b3 s3
 replace rs := (rs.kept b2).kept b3
 replace rn := rn.kept b3
 have hbw := stepB (stepB b1 b2) b3
 have HR3 : Hid (Rd w3 (.slice av l.length cv) l) := Rd.kept HR.out hbw
 replace hT := hT.kept hbw
 have n1 : w.heap.size < w1.heap.size := by have := s1.out; omega
 have n2 : w1.heap.size < w2.heap.size := by have := s2.out; omega
 clear b1 b2 b3 s1 s2 s3
 go_wp2_with fail
 refine (rowOf_any 79 _ (fun i => slF l (first + i)) _ (enters_by Tryz.func79 (by kernel_rfl) rfl) fun i hi W hW => by rw [app2]; exact csmall_any _ l first i _ _ hf hi HL.out W (rs.kept hW) (rn.kept hW) (Rd.kept HR3.out hW) (hT.kept hW)).mono ?_
 rintro e w4 ⟨rfl, b4⟩
 replace rz := rz.kept b4
 replace hbw := stepB hbw b4
 obtain ⟨g, hg⟩ : ∃ g : Nat → Nat → FZ, g = fun i => slF l (first + i) := ⟨_, rfl⟩
 rw [← hg]
 have HG : Hid _ := hg
 clear hg b4 rs rn hT
 go_wp2_with (refine wpList_store_part rfl 60 _ _ rfl rfl (rwC g) rfl [] (rwC fun _ _ => 0) [] (rwC g) rz (whole13 _) (whole13 _) rfl (by rw [prC13_length, prC13_length]) (infoW13 _) (rwC_all _) ?_; intro w7 r7 hw7)
 refine bodyPost_blk rfl rfl rfl r7 Tryz.underlying60 rfl (infoW13 _) ?_
 exact ⟨by rw [HG.out], hw7.below _ _ (by omega) hbw⟩

set_option maxRecDepth 100000 in
set_option maxHeartbeats 2000000 in
theorem ceach_any (K : FuncId) (caps : Array Value) (g h : Nat → Nat → FZ) (gc gr : Nat) (i : Nat) (hi : i < 3) (w : World) (hc : BlkAt gc 63 [.func (.func K) #[] caps] w) (hr : BlkAt gr 60 (rwC g) w)
  (hE : ∀ (args : Array Value) (w : World), (callFunc K args).run Tryz.prog w = .ok (.enter K args) w)
  (hK : ∀ W, Below w.heap.size w W → Calls Tryz.prog K (#[poV (g i)] ++ caps) W fun e w' => e = .returned (poV (h i)) ∧ Below W.heap.size W w') :
  Calls Tryz.prog 81 #[.int .i64 (i : Int), .pointer (some ⟨gc, 0, none⟩), .pointer (some ⟨gr, 0, none⟩)] w fun e w' => e = .returned (poV (h i)) ∧ Below w.heap.size w w' := by
 have HK : Hid _ := hK
 obtain ⟨post, hp⟩ := prC13_split g i 3 hi
 have HP : Hid _ := hp
 have hiI : (i : Int) < 3 := by omega
 clear hK hp
 go_enter Tryz.func81, Tryz.ntmps81
 go_wp2_with (refine wpList_alloc_blk rfl 58 rfl (poC fun _ => 0) (allocP13 _) ?_)
 intro w1 rz b1 s1
 have hcc := (hc.kept b1).one
 have hr1 := hr.kept b1
 have hbw := b1
 clear b1 s1 hc hr
 go_wp2_with fail
 refine wpE_begin 5 (by kernel_rfl) ?_
 refine wpE_t (i := 0) (oi := ⟨some 5, .load 63 (.tmp 1), 63, "kpke.go:70", #[], none⟩) (v := ?_) ?_ ?_
 rotate_left
 ·intro W hW; have hcW := cellD11 hcc hW; go_simp <;> with_reducible rfl
 try simp only [Act.put, putA, putB, putC]
 refine wpE_t (i := 1) (oi := ⟨some 6, .move (.tmp 0), 3, "kpke.go:70", #[], none⟩) (v := ?_) ?_ ?_
 rotate_left
 ·intro W hW; go_simp <;> with_reducible rfl
 try simp only [Act.put, putA, putB, putC]
 refine wpE_t (i := 2) (oi := ⟨some 7, .indexAddr 60 (.tmp 2) (.tmp 6), 0, "kpke.go:70", #[⟨1, .data⟩], none⟩) (v := ?_) ?_ ?_
 rotate_left
 ·intro W hW; go_simp <;> with_reducible rfl
 try simp only [Act.put, putA, putB, putC]
 refine wpE_t (i := 3) (oi := ⟨some 8, .load 58 (.tmp 7), 58, "kpke.go:70", #[⟨2, .data⟩], none⟩) (v := ?_) ?_ ?_
 rotate_left
 ·intro W hW; refine Eq.trans (exec_load_part 58 _ (by rfl) (by rfl) (prC13 g i) (poC (g i)) post hr1.drew hW HP.out (by rw [prC13_length]; omega) Tryz.underlying58 rfl (infoP13 _)) ?_; with_reducible rfl
 try simp only [Act.put, putA, putB, putC]
 refine wpE_do (i := 4) (o := ⟨some 9, .call { callee := .value (.tmp 5), args := #[.tmp 8], argTypes := #[58] }, 58, "kpke.go:70", #[⟨0, .data⟩, ⟨3, .data⟩], none⟩) (by kernel_rfl) rfl (by rfl) fun K hK => ?_
 go_simp
 refine (HK.out _ hbw.drew).mono ?_
 rintro e wq ⟨rfl, bq⟩
 refine hK.out _ _ bq ?_
 clear hK K
 try simp only [Act.put, putA, putB, putC]
 refine wpE_last (o := ⟨none, .store 58 (.tmp 4) (.tmp 9), 0, "kpke.go:70", #[⟨4, .data⟩, ⟨4, .chain⟩, ⟨0, .phase⟩, ⟨1, .phase⟩, ⟨2, .phase⟩, ⟨3, .phase⟩, ⟨4, .phase⟩], none⟩) (by kernel_rfl) (by kernel_rfl) rfl (by rfl) fun K hK => ?_
 refine wp_store_part 58 _ _ rfl rfl (poC (h i)) rfl [] (poC fun _ => 0) [] (poC (h i)) (rz.drew.kept bq) (whole13 _) (whole13 _) rfl (by rw [poC_length, poC_length]) (infoP13 _) (poC_all _) ?_
 intro wS rS hwS
 refine hK.out _ _ ?_
 clear hK K
 try simp only [Act.put, putA, putB, putC]
 go_wp2_with fail
 refine bodyPost_blk rfl rfl rfl rS Tryz.underlying58 rfl (infoP13 _) ?_
 exact ⟨rfl, hwS.below _ _ (Nat.le_refl _) (stepB hbw.drew bq)⟩
end Go.Proofs.YtmhbjaampobcbaaGreatDoor
