/- Rows unpacked and packed, rounded and spread: contracts of package kpke, sixth part. -/
import Derived.Test.YtmhbjaampobcbaaGreatDoorX13d
namespace Go.Proofs.YtmhbjaampobcbaaGreatDoor
open Go.ChangeShapes Go.WideShapes Go.ChangeAt Go.RowKit
set_option linter.unusedSimpArgs false
set_option linter.unusedVariables false

theorem info513 : (Tryz.prog.info? 5).map (fun i => (i.zero, i.size, i.bytes)) = some (some (.int .u8 0), 1, 1) := by kernel_rfl
theorem allocI13 (w : World) : (Instr.alloc 3 true (.tuple #[])).run Tryz.prog w = .ok (.pointer (some ⟨w.heap.size, 0, none⟩)) (w.alloc (.cells ([.int .i64 0] : List Value).toArray 3)) := by kernel_rfl

set_option maxRecDepth 100000 in
set_option maxHeartbeats 4000000 in
theorem cunp_any (d i : Nat) (h1 : 1 ≤ d) (h12 : d ≤ 12) (hi : i < 3) (v : Value) (b : List UInt8) (hb : 96 * d ≤ b.length) (hbl : b.length ≤ 900000) (gd gb gs d32 : Nat) (hd32 : d32 = 32 * d) (w : World)
  (rd : BlkAt gd 3 [.int .i64 (d : Int)] w) (rb : BlkAt gb 22 [v] w) (rs : BlkAt gs 3 [.int .i64 (d32 : Int)] w) (hr : Rd w v b) :
  Calls Tryz.prog 113 #[.int .i64 (i : Int), .pointer (some ⟨gd, 0, none⟩), .pointer (some ⟨gb, 0, none⟩), .pointer (some ⟨gs, 0, none⟩)] w fun e w' => e = .returned (poV (ptF d b i)) ∧ Below w.heap.size w w' := by
 obtain ⟨a0, ck, ev, hck, hmk, -, h5⟩ := id hr
 rcases h5 with h5 | ⟨bb, ob, rfl, -⟩
 ·rw [h5] at hb
  simp at hb
  omega
 subst ev
 obtain ⟨L, hL⟩ : ∃ L : Nat, L = b.length := ⟨_, rfl⟩
 rw [← hL] at hr hb hbl hck rb
 obtain ⟨o, ho⟩ : ∃ x : Nat, x = i * d32 := ⟨_, rfl⟩
 obtain ⟨j, hj⟩ : ∃ x : Nat, x = i + 1 := ⟨_, rfl⟩
 obtain ⟨p, hp⟩ : ∃ x : Nat, x = j * d32 := ⟨_, rfl⟩
 have hpp : p = o + d32 := by rw [hp, ho, hj, Nat.add_mul, Nat.one_mul]
 have hpl : p ≤ 3 * d32 := by rw [hp]; exact Nat.mul_le_mul_right _ (by omega)
 have hs := hr.sub o p (by omega) (by omega)
 have hpo : p - o = d32 := by omega
 rw [hpo] at hs
 have HF : Hid (upF d ((b.drop o).take d32) = ptF d b i) := by
  show _ = _
  rw [ho, hd32, Nat.mul_comm i]
  rfl
 have HS : Hid (Rd w (.slice (some ⟨bb, ob + o, none⟩) d32 (ck - o)) ((b.drop o).take d32)) := hs
 have HLn : Hid (((b.drop o).take d32).length = 32 * d) := by
  show _ = _
  rw [List.length_take, List.length_drop, ← hL]
  omega
 have e2 : IntKind.i64.wrap ((i : Int) * (d32 : Int)) = (o : Int) := by rw [← Int.natCast_mul, ← ho]; exact IntWalk.i64_in _ (by omega)
 have e3 : IntKind.i64.wrap ((i : Int) + 1) = (j : Int) := by rw [show (i : Int) + 1 = (j : Int) by omega]; exact IntWalk.i64_in _ (by omega)
 have e4 : IntKind.i64.wrap ((j : Int) * (d32 : Int)) = (p : Int) := by rw [← Int.natCast_mul, ← hp]; exact IntWalk.i64_in _ (by omega)
 unfold maxLen at hmk
 have y1 : (o : Int) ≤ (p : Int) := by omega
 have y2 : (p : Int) ≤ (ck : Int) := by omega
 have y3 : ¬ ck = o := by omega
 have y4 : o ≤ p := by omega
 clear hr hs hL ho hp hb hbl hd32 hj hpp hpl
 go_enter Tryz.func113, Tryz.ntmps113
 go_wp2_with (refine wpList_alloc_blk rfl 58 rfl (poC fun _ => 0) (allocP13 _) ?_)
 intro w1 rz b1 s1
 have hcd := (rd.kept b1).one
 have hcb := (rb.kept b1).one
 have hcs := (rs.kept b1).one
 have HS1 : Hid _ := Rd.kept HS.out b1
 have hbw := b1
 clear b1 s1 rd rb rs
 go_wp2_with fail
 refine wpE_begin 11 (by kernel_rfl) ?_
 refine wpE_t (i := 0) (oi := ⟨some 6, .load 3 (.tmp 1), 3, "kpke.go:125", #[], none⟩) (v := ?_) ?_ ?_
 rotate_left
 ·intro W hW; have hcW := cellD11 hcd hW; go_simp <;> with_reducible rfl
 try simp only [Act.put, putA, putB, putC]
 refine wpE_t (i := 1) (oi := ⟨some 7, .load 22 (.tmp 2), 22, "kpke.go:125", #[], none⟩) (v := ?_) ?_ ?_
 rotate_left
 ·intro W hW; have hcW := cellD11 hcb hW; go_simp <;> with_reducible rfl
 try simp only [Act.put, putA, putB, putC]
 refine wpE_t (i := 2) (oi := ⟨some 8, .move (.tmp 0), 3, "kpke.go:125", #[], none⟩) (v := ?_) ?_ ?_
 rotate_left
 ·intro W hW; go_simp <;> with_reducible rfl
 try simp only [Act.put, putA, putB, putC]
 refine wpE_t (i := 3) (oi := ⟨some 9, .load 3 (.tmp 3), 3, "kpke.go:125", #[], none⟩) (v := ?_) ?_ ?_
 rotate_left
 ·intro W hW; have hcW := cellD11 hcs hW; go_simp <;> with_reducible rfl
 try simp only [Act.put, putA, putB, putC]
 refine wpE_t (i := 4) (oi := ⟨some 10, .binOp .mul 3 (.tmp 8) (.tmp 9) 3, 3, "kpke.go:125", #[⟨2, .data⟩, ⟨3, .data⟩], none⟩) (v := ?_) ?_ ?_
 rotate_left
 ·intro W hW; go_simp <;> with_reducible rfl
 try simp only [Act.put, putA, putB, putC]
 refine wpE_t (i := 5) (oi := ⟨some 11, .move (.tmp 0), 3, "kpke.go:125", #[], none⟩) (v := ?_) ?_ ?_
 rotate_left
 ·intro W hW; go_simp <;> with_reducible rfl
 try simp only [Act.put, putA, putB, putC]
 refine wpE_t (i := 6) (oi := ⟨some 12, .binOp .add 3 (.tmp 11) (.const (.int .i64 1)) 3, 3, "kpke.go:125", #[⟨5, .data⟩], none⟩) (v := ?_) ?_ ?_
 rotate_left
 ·intro W hW; go_simp <;> with_reducible rfl
 try simp only [Act.put, putA, putB, putC]
 refine wpE_t (i := 7) (oi := ⟨some 13, .load 3 (.tmp 3), 3, "kpke.go:125", #[], none⟩) (v := ?_) ?_ ?_
 rotate_left
 ·intro W hW; have hcW := cellD11 hcs hW; go_simp <;> with_reducible rfl
 try simp only [Act.put, putA, putB, putC]
 refine wpE_t (i := 8) (oi := ⟨some 14, .binOp .mul 3 (.tmp 12) (.tmp 13) 3, 3, "kpke.go:125", #[⟨6, .data⟩, ⟨7, .data⟩], none⟩) (v := ?_) ?_ ?_
 rotate_left
 ·intro W hW; go_simp <;> with_reducible rfl
 try simp only [Act.put, putA, putB, putC]
 refine wpE_t (i := 9) (oi := ⟨some 15, .slice 22 (.tmp 7) (some (.tmp 10)) (some (.tmp 14)) none, 22, "kpke.go:125", #[⟨1, .data⟩, ⟨4, .data⟩, ⟨8, .data⟩], none⟩) (v := ?_) ?_ ?_
 rotate_left
 ·intro W hW; go_simp <;> with_reducible rfl
 try simp only [Act.put, putA, putB, putC]
 refine wpE_do (i := 10) (o := ⟨some 16, .call { callee := .value (.func 69), args := #[.tmp 6, .tmp 15], argTypes := #[3, 22] }, 58, "kpke.go:125", #[⟨0, .data⟩, ⟨9, .data⟩], none⟩) (by kernel_rfl) rfl (by rfl) fun K hK => ?_
 go_simp
 try rw [hpo]
 refine (unpacked_any d _ rfl h1 h12 _ _ _ (Rd.kept HS1.out (Below.refl _ _).drew) HLn.out).mono ?_
 rintro e wq ⟨rfl, bq⟩
 rw [HF.out]
 refine hK.out _ _ bq ?_
 clear hK K
 try simp only [Act.put, putA, putB, putC]
 refine wpE_last (o := ⟨none, .store 58 (.tmp 5) (.tmp 16), 0, "kpke.go:125", #[⟨10, .data⟩, ⟨10, .chain⟩, ⟨0, .phase⟩, ⟨1, .phase⟩, ⟨2, .phase⟩, ⟨3, .phase⟩, ⟨4, .phase⟩, ⟨5, .phase⟩, ⟨6, .phase⟩, ⟨7, .phase⟩, ⟨8, .phase⟩, ⟨9, .phase⟩, ⟨10, .phase⟩], none⟩) (by kernel_rfl) (by kernel_rfl) rfl (by rfl) fun K hK => ?_
 refine wp_store_part 58 _ _ rfl rfl (poC (ptF d b i)) rfl [] (poC fun _ => 0) [] (poC (ptF d b i)) (rz.drew.kept bq) (whole13 _) (whole13 _) rfl (by rw [poC_length, poC_length]) (infoP13 _) (poC_all _) ?_
 intro wS rS hwS
 refine hK.out _ _ ?_
 clear hK K
 try simp only [Act.put, putA, putB, putC]
 go_wp2_with fail
 refine bodyPost_blk rfl rfl rfl rS Tryz.underlying58 rfl (infoP13 _) ?_
 exact ⟨rfl, hwS.below _ _ (Nat.le_refl _) (stepB hbw.drew bq)⟩

set_option maxRecDepth 100000 in
set_option maxHeartbeats 4000000 in
theorem unpackedRow_any (d : Nat) (D : Int) (hD : D = (d : Int)) (h1 : 1 ≤ d) (h12 : d ≤ 12) (v : Value) (b : List UInt8) (hb : 96 * d ≤ b.length) (hbl : b.length ≤ 900000) (w : World) (hr : Rd w v b) :
  Calls Tryz.prog 66 #[.int .i64 D, v] w fun e w' => e = .returned (rwV (ptF d b)) ∧ Below w.heap.size w w' := by
 subst hD
 have hmf := mkf13
 have HR : Hid (Rd w v b) := hr
 obtain ⟨av, cv, rfl, -, -, -, -⟩ := id hr
 obtain ⟨d32, hd32⟩ : ∃ x : Nat, x = 32 * d := ⟨_, rfl⟩
 have e1 : IntKind.i64.wrap ((d : Int) * 32) = (d32 : Int) := by rw [show (d : Int) * 32 = (d32 : Int) by omega]; exact IntWalk.i64_in _ (by omega)
 have HD : Hid _ := hd32
 clear hr hd32
 go_enter Tryz.func66, Tryz.ntmps66
 go_wp2_with (refine wpList_box_val rfl 3 _ rfl (.int .i64 (d : Int)) rfl (boxI13 _ _) ?_)
 intro w1 rd b1 s1
 go_wp2_with (refine wpList_box_val rfl 22 _ rfl (.slice av b.length cv) rfl (boxS13 _ _ _ _) ?_)
 intro w2 rb b2 s2
 go_wp2_with (refine wpList_alloc_blk rfl 60 rfl (rwC fun _ _ => 0) (allocW13 _) ?_)
 intro w3 rz b3 s3
 replace rd := (rd.kept b2).kept b3
 replace rb := rb.kept b3
 have hbw := stepB (stepB b1 b2) b3
 have n1 : w.heap.size < w1.heap.size := by have := s1.out; omega
 have n2 : w1.heap.size < w2.heap.size := by have := s2.out; omega
 have n3 : w2.heap.size < w3.heap.size := by have := s3.out; omega
 clear b1 b2 b3 s1 s2 s3
 have hcd := rd.one
 go_wp2_with (refine wpList_alloc_blk rfl 3 rfl [.int .i64 0] (allocI13 _) ?_)
 intro w4 rs b4 s4
 have hc4 := rs.one
 have hf4 := rs.free 0
 have r5 := rs.set 0 (.int .i64 (d32 : Int))
 have hw5 := Wrote.set w3.heap.size 0 w4 (.int .i64 (d32 : Int))
 have RS : Hid (BlkAt w3.heap.size 3 [.int .i64 (d32 : Int)] (w4.setCell ⟨w3.heap.size, 0, none⟩ (.int .i64 (d32 : Int)))) := r5
 have RD : Hid (BlkAt w.heap.size 3 [.int .i64 (d : Int)] (w4.setCell ⟨w3.heap.size, 0, none⟩ (.int .i64 (d32 : Int)))) := (rd.kept b4).wrote hw5 (by omega)
 have RB : Hid (BlkAt w1.heap.size 22 [.slice av b.length cv] (w4.setCell ⟨w3.heap.size, 0, none⟩ (.int .i64 (d32 : Int)))) := (rb.kept b4).wrote hw5 (by omega)
 have RZ : Hid (BlkAt w2.heap.size 60 (rwC fun _ _ => 0) (w4.setCell ⟨w3.heap.size, 0, none⟩ (.int .i64 (d32 : Int)))) := (rz.kept b4).wrote hw5 (by omega)
 have HB5 : Hid _ := hw5.below _ _ (by omega) (stepB hbw b4)
 have HR5 : Hid (Rd (w4.setCell ⟨w3.heap.size, 0, none⟩ (.int .i64 (d32 : Int))) (.slice av b.length cv) b) := Rd.kept HR.out HB5.out
 clear r5 hw5 rd rb rz hbw b4 s4 rs
 go_wp2_with fail
 refine (rowOf_any 113 _ (ptF d b) _ (enters_by Tryz.func113 (by kernel_rfl) rfl) fun i hi W hW => by rw [app3]; exact cunp_any d i h1 h12 hi _ b hb hbl _ _ _ d32 HD.out W (RD.out.kept hW) (RB.out.kept hW) (RS.out.kept hW) (Rd.kept HR5.out hW)).mono ?_
 rintro e w6 ⟨rfl, b6⟩
 have rz := RZ.out.kept b6
 have hbw := stepB HB5.out b6
 clear b6 RS RD RB RZ HB5 HR5 hc4 hf4
 go_wp2_with (refine wpList_store_part rfl 60 _ _ rfl rfl (rwC (ptF d b)) rfl [] (rwC fun _ _ => 0) [] (rwC (ptF d b)) rz (whole13 _) (whole13 _) rfl (by rw [prC13_length, prC13_length]) (infoW13 _) (rwC_all _) ?_; intro w7 r7 hw7)
 refine bodyPost_blk rfl rfl rfl r7 Tryz.underlying60 rfl (infoW13 _) ?_
 exact ⟨rfl, hw7.below _ _ (by omega) hbw⟩

set_option maxRecDepth 100000 in
set_option maxHeartbeats 4000000 in
theorem rpack_any (A : Array Value) (g : Nat → Nat → FZ) (hA : A = (rwC g).toArray) (d : Nat) (D : Int) (hD : D = (d : Int)) (h1 : 1 ≤ d) (h12 : d ≤ 12) (w : World) :
  Calls Tryz.prog 47 #[.agg A, .int .i64 D] w fun e w' => ∃ v, e = .returned v ∧ New 5 w v (rpL d g 3) w' := by
 subst hD
 go_enter Tryz.func47, Tryz.ntmps47
 go_wp2_with (refine wpList_box_blk rfl 60 _ rfl (rwC g) (by rw [← hA]; rfl) ?_)
 intro w1 ra b1 s1
 have hN0 : New 5 w1 (.slice none 0 0) (rpL d g 0) w1 := New.start w1
 clear s1 hA
 go_wp2
 go_loopw [5, 7] (fun v iv wx => ∃ i : Nat, i ≤ 3 ∧ iv = .int .i64 (i : Int) ∧ New 5 w1 v (rpL d g i) wx) (fun _ iv _ => 3 - (intOf iv).toNat)
 case atStart => exact ⟨0, by omega, rfl, hN0⟩
 case round =>
  obtain ⟨i, hi, rfl, hN⟩ := hrel
  clear hN0
  have rax := ra.kept hN.2
  by_cases hlt : i < 3
  ·have hd : decide ((i : Int) < 3) = true := decide_eq_true (by omega)
   have hiI : (i : Int) < 3 := by omega
   obtain ⟨post, hp⟩ := prC13_split g i 3 hlt
   have HP : Hid _ := hp
   have HLe : Hid ((rpL d g i).length ≤ 1152) := by
    show _ ≤ _
    rw [rpL_length]
    have : 32 * d * i ≤ 32 * 12 * 3 := Nat.mul_le_mul (by omega) (by omega)
    omega
   have HNx : Hid (rpL d g i ++ pkL d (fzF (g i)) = rpL d g (i + 1)) := by show _ = _; rfl
   have HLp : Hid ((pkL d (fzF (g i))).length ≤ 384) := by show _ ≤ _; rw [pkL_length]; omega
   obtain ⟨l0, hl0⟩ : ∃ l : List UInt8, l = rpL d g i := ⟨_, rfl⟩
   rw [← hl0] at hN HLe HNx
   clear hp hl0
   go_wp2_with (refine wpList_load_part rfl 58 _ rfl rfl (prC13 g i) (poC (g i)) post rax HP.out (by rw [prC13_length]; omega) Tryz.underlying58 rfl (infoP13 _) ?_)
   refine (spackQ d _ rfl h1 h12 (g i) _).mono ?_
   rintro e w2 ⟨v2, rfl, hN2⟩
   have hN3 := hN.kept hN2.2
   have hR2 := hN2.rd
   clear rax hN
   obtain ⟨pk, hpk⟩ : ∃ l : List UInt8, l = pkL d (fzF (g i)) := ⟨_, rfl⟩
   rw [← hpk] at hR2 HNx HLp
   clear hpk hN2
   go_wp2_with (at_builtin; go_must (refine wpList_append_new (w := w1) rfl _ _ 22 rfl 5 Tryz.underlying22 info513 _ _ rfl hN3 _ _ rfl hR2 (by have := HLe.out; have := HLp.out; omega) ?_))
   intro v3 w3 hN4 _
   rw [HNx.out] at hN4
   clear hN3 hR2
   go_wp2
   go_roundw
   case rel => exact ⟨i + 1, by omega, by go_num, hN4⟩
   case measure => simp [intOf] <;> omega
  ·have hie : i = 3 := by omega
   have hd : decide ((i : Int) < 3) = false := decide_eq_false (by omega)
   have hiI : (3 : Int) ≤ (i : Int) := by omega
   rw [hie] at hN
   clear hie rax
   go_wp2
   go_ret
   exact ⟨_, rfl, hN.from b1⟩

set_option maxRecDepth 100000 in
set_option maxHeartbeats 2000000 in
theorem cround_any (d : Nat) (hd11 : d ≤ 11) (f : Nat → FZ) (A : Array Value) (hA : A = (poC f).toArray) (gd : Nat) (w : World) (rd : BlkAt gd 3 [.int .i64 (d : Int)] w) :
  Calls Tryz.prog 143 #[.agg A, .pointer (some ⟨gd, 0, none⟩)] w fun e w' => e = .returned (poV (sqF d f)) ∧ Below w.heap.size w w' := by
 go_enter Tryz.func143, Tryz.ntmps143
 go_wp2_with (refine wpList_box_blk rfl 58 _ rfl (poC f) (by rw [← hA]; rfl) ?_)
 intro w1 ra b1 s1
 go_wp2_with (refine wpList_alloc_blk rfl 58 rfl (poC fun _ => 0) (allocP13 _) ?_)
 intro w2 rz b2 s2
 replace ra := ra.kept b2
 have hbw := stepB b1 b2
 have hcd := (rd.kept hbw).one
 have n1 : w.heap.size < w1.heap.size := by have := s1.out; omega
 clear b1 b2 s1 s2 rd hA
 go_wp2_with (refine wpList_load_part rfl 58 _ rfl rfl [] (poC f) [] ra (whole13 _) rfl Tryz.underlying58 rfl (infoP13 _) ?_)
 refine (ssqueezeQ d hd11 _ rfl f _).mono ?_
 rintro e w3 ⟨rfl, b3⟩
 replace rz := rz.kept b3
 replace hbw := stepB hbw b3
 clear b3 ra hcd
 go_wp2_with (refine wpList_store_part rfl 58 _ _ rfl rfl (poC (sqF d f)) rfl [] (poC fun _ => 0) [] (poC (sqF d f)) rz (whole13 _) (whole13 _) rfl (by rw [poC_length, poC_length]) (infoP13 _) (poC_all _) ?_; intro w7 r7 hw7)
 refine bodyPost_blk rfl rfl rfl r7 Tryz.underlying58 rfl (infoP13 _) ?_
 exact ⟨rfl, hw7.below _ _ (by omega) hbw⟩

set_option maxRecDepth 100000 in
set_option maxHeartbeats 2000000 in
theorem cspread_any (d : Nat) (f : Nat → FZ) (A : Array Value) (hA : A = (poC f).toArray) (gd : Nat) (w : World) (rd : BlkAt gd 3 [.int .i64 (d : Int)] w) :
  Calls Tryz.prog 114 #[.agg A, .pointer (some ⟨gd, 0, none⟩)] w fun e w' => e = .returned (poV (spF d f)) ∧ Below w.heap.size w w' := by
 go_enter Tryz.func114, Tryz.ntmps114
 go_wp2_with (refine wpList_box_blk rfl 58 _ rfl (poC f) (by rw [← hA]; rfl) ?_)
 intro w1 ra b1 s1
 go_wp2_with (refine wpList_alloc_blk rfl 58 rfl (poC fun _ => 0) (allocP13 _) ?_)
 intro w2 rz b2 s2
 replace ra := ra.kept b2
 have hbw := stepB b1 b2
 have hcd := (rd.kept hbw).one
 have n1 : w.heap.size < w1.heap.size := by have := s1.out; omega
 clear b1 b2 s1 s2 rd hA
 go_wp2_with (refine wpList_load_part rfl 58 _ rfl rfl [] (poC f) [] ra (whole13 _) rfl Tryz.underlying58 rfl (infoP13 _) ?_)
 refine (sspreadQ d _ rfl f _).mono ?_
 rintro e w3 ⟨rfl, b3⟩
 replace rz := rz.kept b3
 replace hbw := stepB hbw b3
 clear b3 ra hcd
 go_wp2_with (refine wpList_store_part rfl 58 _ _ rfl rfl (poC (spF d f)) rfl [] (poC fun _ => 0) [] (poC (spF d f)) rz (whole13 _) (whole13 _) rfl (by rw [poC_length, poC_length]) (infoP13 _) (poC_all _) ?_; intro w7 r7 hw7)
 refine bodyPost_blk rfl rfl rfl r7 Tryz.underlying58 rfl (infoP13 _) ?_
 exact ⟨rfl, hw7.below _ _ (by omega) hbw⟩

set_option maxRecDepth 100000 in
set_option maxHeartbeats 4000000 in
theorem spread_any (d : Nat) (D : Int) (hD : D = (d : Int)) (h1 : 1 ≤ d) (h12 : d ≤ 12) (v : Value) (b : List UInt8) (hb : 96 * d ≤ b.length) (hbl : b.length ≤ 900000) (w : World) (hr : Rd w v b) :
  Calls Tryz.prog 67 #[.int .i64 D, v] w fun e w' => e = .returned (rwV fun i => spF d (ptF d b i)) ∧ Below w.heap.size w w' := by
 subst hD
 have hmf := mkf13
 have HR : Hid (Rd w v b) := hr
 clear hr
 go_enter Tryz.func67, Tryz.ntmps67
 go_wp2_with (refine wpList_box_val rfl 3 _ rfl (.int .i64 (d : Int)) rfl (boxI13 _ _) ?_)
 intro w1 rd b1 s1
 go_wp2_with (refine wpList_alloc_blk rfl 60 rfl (rwC fun _ _ => 0) (allocW13 _) ?_)
 intro w2 rz b2 s2
 replace rd := rd.kept b2
 have hbw := stepB b1 b2
 have hcd := rd.one
 have n1 : w.heap.size < w1.heap.size := by have := s1.out; omega
 clear b1 b2 s1 s2
 go_wp2_with fail
 refine (unpackedRow_any d _ rfl h1 h12 _ b hb hbl _ (Rd.kept HR.out hbw)).mono ?_
 rintro e w3 ⟨rfl, b3⟩
 replace rz := rz.kept b3
 replace rd := rd.kept b3
 replace hbw := stepB hbw b3
 clear b3 hcd
 go_wp2_with fail
 refine (each_any 114 _ _ (ptF d b) (fun i => spF d (ptF d b i)) rfl _ (enters_by Tryz.func114 (by kernel_rfl) rfl) fun i hi W hW => by rw [app1]; exact cspread_any d (ptF d b i) _ rfl _ W (rd.kept hW)).mono ?_
 rintro e w4 ⟨rfl, b4⟩
 replace rz := rz.kept b4
 replace hbw := stepB hbw b4
 obtain ⟨f, hf⟩ : ∃ f : Nat → Nat → FZ, f = fun i => spF d (ptF d b i) := ⟨_, rfl⟩
 rw [← hf]
 have HG : Hid _ := hf
 clear hf b4 rd
 go_wp2_with (refine wpList_store_part rfl 60 _ _ rfl rfl (rwC f) rfl [] (rwC fun _ _ => 0) [] (rwC f) rz (whole13 _) (whole13 _) rfl (by rw [prC13_length, prC13_length]) (infoW13 _) (rwC_all _) ?_; intro w7 r7 hw7)
 refine bodyPost_blk rfl rfl rfl r7 Tryz.underlying60 rfl (infoW13 _) ?_
 exact ⟨by rw [HG.out], hw7.below _ _ (by omega) hbw⟩

set_option maxRecDepth 100000 in
set_option maxHeartbeats 4000000 in
theorem rounded_any (d : Nat) (D : Int) (hD : D = (d : Int)) (h1 : 1 ≤ d) (h11 : d ≤ 11) (A : Array Value) (g : Nat → Nat → FZ) (hA : A = (rwC g).toArray) (w : World) :
  Calls Tryz.prog 109 #[.int .i64 D, .agg A] w fun e w' => ∃ v, e = .returned v ∧ New 5 w v (rpL d (fun i => sqF d (g i)) 3) w' := by
 subst hD
 have hmf := mkf13
 go_enter Tryz.func109, Tryz.ntmps109
 go_wp2_with (refine wpList_box_val rfl 3 _ rfl (.int .i64 (d : Int)) rfl (boxI13 _ _) ?_)
 intro w1 rd b1 s1
 go_wp2_with (refine wpList_box_blk rfl 60 _ rfl (rwC g) (by rw [← hA]; rfl) ?_)
 intro w2 ra b2 s2
 replace rd := rd.kept b2
 have hbw := stepB b1 b2
 have hcd := rd.one
 clear b1 b2 s1 s2 hA
 go_wp2_with fail
 refine wpG_begin (by kernel_rfl) ?_
 refine wpG_t (i := 0) (oi := ⟨some 5, .load 60 (.tmp 3), 60, "kpke.go:156", #[], none⟩) (v := ?_) ?_ ?_
 rotate_left
 ·intro W hW; refine Eq.trans (exec_load_part 60 _ (by rfl) (by rfl) [] (rwC g) [] ra.drew hW (whole13 _) rfl Tryz.underlying60 rfl (infoW13 _)) ?_; with_reducible rfl
 try simp only [Act.put, putA, putB, putC]
 refine wpG_t (i := 3) (oi := ⟨some 8, .load 3 (.tmp 2), 3, "kpke.go:156", #[], none⟩) (v := ?_) ?_ ?_
 rotate_left
 ·intro W hW; have hcW := cellD11 hcd hW; go_simp <;> with_reducible rfl
 try simp only [Act.put, putA, putB, putC]
 refine wpG_do (i := 1) (o := ⟨some 6, .makeFunc (.func 143) #[] #[.tmp 2], 63, "kpke.go:156", #[], none⟩) (by kernel_rfl) rfl (by rfl) fun K hK => ?_
 go_simp
 refine hK.out _ _ (Below.refl _ _) ?_
 clear hK K
 try simp only [Act.put, putA, putB, putC]
 refine wpG_do (i := 2) (o := ⟨some 7, .call { callee := .value (.func 42), args := #[.tmp 5, .tmp 6], argTypes := #[60, 63] }, 60, "kpke.go:156", #[⟨0, .data⟩, ⟨1, .data⟩], none⟩) (by kernel_rfl) rfl (by rfl) fun K hK => ?_
 go_simp
 refine (each_any 143 _ _ g (fun i => sqF d (g i)) rfl _ (enters_by Tryz.func143 (by kernel_rfl) rfl) fun i hi W hW => by rw [app1]; exact cround_any d h11 (g i) _ rfl _ W (rd.drew.kept hW)).mono ?_
 rintro e wq ⟨rfl, bq⟩
 refine hK.out _ _ bq ?_
 clear hK K
 try simp only [Act.put, putA, putB, putC]
 refine wpG_do (i := 4) (o := ⟨some 9, .call { callee := .value (.func 47), args := #[.tmp 7, .tmp 8], argTypes := #[60, 3] }, 22, "kpke.go:156", #[⟨2, .data⟩, ⟨3, .data⟩, ⟨2, .chain⟩], none⟩) (by kernel_rfl) rfl (by rfl) fun K hK => ?_
 go_simp
 refine (rpack_any _ (fun i => sqF d (g i)) rfl d _ rfl h1 (by omega) _).mono ?_
 rintro e wn ⟨vr, rfl, hN⟩
 refine hK.out _ _ hN.2 ?_
 clear hK K
 try simp only [Act.put, putA, putB, putC]
 refine wpG_t (i := 5) (oi := ⟨some 4, .assign (.tmp 9), 22, "kpke.go:156", #[⟨4, .data⟩, ⟨4, .chain⟩, ⟨0, .phase⟩, ⟨1, .phase⟩, ⟨2, .phase⟩, ⟨3, .phase⟩, ⟨4, .phase⟩], none⟩) (v := ?_) ?_ ?_
 rotate_left
 ·intro W hW; go_simp <;> with_reducible rfl
 try simp only [Act.put, putA, putB, putC]
 refine wpG_done (by kernel_rfl) ?_
 go_wp2
 go_ret
 exact ⟨vr, rfl, hN.from (stepB hbw.drew bq)⟩
end Go.Proofs.YtmhbjaampobcbaaGreatDoor
