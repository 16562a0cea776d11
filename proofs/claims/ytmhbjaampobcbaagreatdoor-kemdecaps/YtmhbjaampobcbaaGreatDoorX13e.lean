/- The matrix that is told by a function, turned round, and times a row: contracts of package kpke, fifth part. -/
import Derived.Test.YtmhbjaampobcbaaGreatDoorX13d
namespace Go.Proofs.YtmhbjaampobcbaaGreatDoor
open Go.ChangeShapes Go.WideShapes Go.ChangeAt Go.RowKit
set_option linter.unusedSimpArgs false
set_option linter.unusedVariables false

structure Tells (w : World) (v : Value) (M : Nat → Nat → Nat → FZ) : Prop where
 by_ : ∃ (K : FuncId) (caps : Array Value), v = .func (.func K) #[] caps ∧ (∀ (args : Array Value) (w : World), (callFunc K args).run Tryz.prog w = .ok (.enter K args) w) ∧
  ∀ i j : Nat, i < 3 → j < 3 → ∀ W, Below w.heap.size w W → Calls Tryz.prog K (#[Value.int .i64 (i : Int), Value.int .i64 (j : Int)] ++ caps) W fun e w' => e = .returned (poV (M i j)) ∧ Below W.heap.size W w'
theorem Tells.kept {w w' : World} {v : Value} {M : Nat → Nat → Nat → FZ} (h : Tells w v M) (hb : Below w.heap.size w w') : Tells w' v M := by
 obtain ⟨K, caps, e, hE, hK⟩ := h.by_
 exact ⟨K, caps, e, hE, fun i j hi hj W hW => hK i j hi hj W (stepB hb hW)⟩
theorem app21 (u v c : Value) : #[u, v] ++ #[c] = #[u, v, c] := rfl
theorem New.two13 {e : TypeId} {w w' : World} {v : Value} {l1 l2 : List UInt8} (h : New e w v [l1, l2].flatten w') : New e w v (l1 ++ l2) w' := by
 simpa using h

set_option maxRecDepth 100000 in
set_option maxHeartbeats 4000000 in
theorem cmatrix_any (v : Value) (rho : List UInt8) (i j gv : Nat) (hl : rho.length ≤ 900000) (w : World) (hs : BlkAt gv 22 [v] w) (hr : Rd w v rho) (hT : Tabs w) :
  Calls Tryz.prog 87 #[.int .i64 (i : Int), .int .i64 (j : Int), .pointer (some ⟨gv, 0, none⟩)] w fun e w' => e = .returned (poV (enF rho i j)) ∧ Below w.heap.size w w' := by
 obtain ⟨av, cv, rfl, -, -, -, -⟩ := id hr
 have HR : Hid (Rd w (.slice av rho.length cv) rho) := hr
 have HL : Hid (∀ x : List UInt8, x.length = 2 → totL [rho, x] ≤ 1000000000) := by
  intro x hx
  simp [totL]
  omega
 have i1 := ofN_wrap13 i
 have i2 := ofN_mod13 i
 have j1 := ofN_wrap13 j
 have j2 := ofN_mod13 j
 obtain ⟨bi, hbi⟩ : ∃ x : UInt8, x = UInt8.ofNat i := ⟨_, rfl⟩
 obtain ⟨bj, hbj⟩ : ∃ x : UInt8, x = UInt8.ofNat j := ⟨_, rfl⟩
 rw [← hbi] at i1 i2
 rw [← hbj] at j1 j2
 have HF : Hid (unF (smF (abF 168 31 (rho ++ [bj, bi])) 168) = enF rho i j) := by
  show _ = _
  rw [hbi, hbj]
  rfl
 clear hr hbi hbj hl
 go_enter Tryz.func87, Tryz.ntmps87
 go_wp2_with (refine wpList_alloc_blk rfl 58 rfl (poC fun _ => 0) (allocP13 _) ?_)
 intro w1 rz b1 s1
 have hcs := (hs.kept b1).one
 have g1 := growB (w := w1) (.cells #[.int .u8 ((bj.toNat : Nat) : Int), .int .u8 ((bi.toNat : Nat) : Int)] 5)
 have hc : Rd (w1.alloc (.cells #[.int .u8 ((bj.toNat : Nat) : Int), .int .u8 ((bi.toNat : Nat) : Int)] 5)) (.slice (some ⟨w1.heap.size, 0, none⟩) 2 2) [bj, bi] := Rd.litc [bj, bi] rfl rfl rfl (by unfold maxLen; simp)
 have hL := RdL.pair12 (e := 22) (b := w1.heap.size + 1) (by simp) ((Rd.kept HR.out b1).kept g1) hc
 have g2 := stepB g1 (growB (w := w1.alloc (.cells #[.int .u8 ((bj.toNat : Nat) : Int), .int .u8 ((bi.toNat : Nat) : Int)] 5)) (.cells #[.slice av rho.length cv, .slice (some ⟨w1.heap.size, 0, none⟩) 2 2] 22))
 replace rz := rz.kept g2
 replace hT := (hT.kept b1).kept g2
 have hbw := stepB b1 g2
 clear g1 g2 hc b1 s1 hs
 go_wp2_with fail
 refine (join_any _ _ _ _ hL (HL.out _ rfl)).mono ?_
 rintro e w3 ⟨v3, rfl, hN3⟩
 have hR3 := hN3.two13.rd
 replace rz := rz.kept hN3.2
 replace hT := hT.kept hN3.2
 replace hbw := stepB hbw hN3.2
 clear hN3 hL hcs
 go_wp2_with fail
 refine (suniform_any _ (rho ++ [bj, bi]) _ hR3 hT).mono ?_
 rintro e w4 ⟨rfl, b4⟩
 replace rz := rz.kept b4
 replace hbw := stepB hbw b4
 rw [HF.out]
 obtain ⟨f, hf⟩ : ∃ f : Nat → FZ, f = enF rho i j := ⟨_, rfl⟩
 rw [← hf]
 have HG : Hid _ := hf
 clear hf b4 hR3 hT HF
 go_wp2_with (refine wpList_store_part rfl 58 _ _ rfl rfl (poC f) rfl [] (poC fun _ => 0) [] (poC f) rz (whole13 _) (whole13 _) rfl (by rw [poC_length, poC_length]) (infoP13 _) (poC_all _) ?_; intro w7 r7 hw7)
 refine bodyPost_blk rfl rfl rfl r7 Tryz.underlying58 rfl (infoP13 _) ?_
 exact ⟨by rw [HG.out], hw7.below _ _ (Nat.le_refl _) hbw⟩

set_option maxRecDepth 100000 in
set_option maxHeartbeats 2000000 in
theorem matrixOf_any (v : Value) (rho : List UInt8) (hl : rho.length ≤ 900000) (w : World) (hr : Rd w v rho) (hT : Tabs w) :
  Calls Tryz.prog 44 #[v] w fun e w' => ∃ m, e = .returned m ∧ Tells w' m (enF rho) ∧ Below w.heap.size w w' := by
 obtain ⟨av, cv, rfl, -, -, -, -⟩ := id hr
 have hmf := mkf13
 have HR : Hid (Rd w (.slice av rho.length cv) rho) := hr
 clear hr
 go_enter Tryz.func44, Tryz.ntmps44
 go_wp2_with (refine wpList_box_val rfl 22 _ rfl (.slice av rho.length cv) rfl (boxS13 _ _ _ _) ?_)
 intro w1 rs b1 s1
 have HR1 : Hid (Rd w1 (.slice av rho.length cv) rho) := Rd.kept HR.out b1
 replace hT := hT.kept b1
 clear s1
 go_wp2
 go_ret
 exact ⟨_, rfl, ⟨87, _, rfl, enters_by Tryz.func87 (by kernel_rfl) rfl, fun i j hi hj W hW => by rw [app21]; exact cmatrix_any _ rho i j _ hl W (rs.kept hW) (Rd.kept HR1.out hW) (hT.kept hW)⟩, b1⟩

set_option maxRecDepth 100000 in
set_option maxHeartbeats 2000000 in
theorem cturned_any (K : FuncId) (caps : Array Value) (M : Nat → Nat → Nat → FZ) (gm i j : Nat) (w : World) (hm : BlkAt gm 65 [.func (.func K) #[] caps] w)
  (hE : ∀ (args : Array Value) (w : World), (callFunc K args).run Tryz.prog w = .ok (.enter K args) w)
  (hK : ∀ W, Below w.heap.size w W → Calls Tryz.prog K (#[Value.int .i64 (j : Int), Value.int .i64 (i : Int)] ++ caps) W fun e w' => e = .returned (poV (M j i)) ∧ Below W.heap.size W w') :
  Calls Tryz.prog 142 #[.int .i64 (i : Int), .int .i64 (j : Int), .pointer (some ⟨gm, 0, none⟩)] w fun e w' => e = .returned (poV (M j i)) ∧ Below w.heap.size w w' := by
 have HK : Hid _ := hK
 clear hK
 go_enter Tryz.func142, Tryz.ntmps142
 go_wp2_with (refine wpList_alloc_blk rfl 58 rfl (poC fun _ => 0) (allocP13 _) ?_)
 intro w1 rz b1 s1
 have hcs := (hm.kept b1).one
 clear s1 hm
 go_wp2_with fail
 refine (HK.out _ b1).mono ?_
 rintro e w4 ⟨rfl, b4⟩
 replace rz := rz.kept b4
 have hbw := stepB b1 b4
 clear b4 hcs b1
 go_wp2_with (refine wpList_store_part rfl 58 _ _ rfl rfl (poC (M j i)) rfl [] (poC fun _ => 0) [] (poC (M j i)) rz (whole13 _) (whole13 _) rfl (by rw [poC_length, poC_length]) (infoP13 _) (poC_all _) ?_; intro w7 r7 hw7)
 refine bodyPost_blk rfl rfl rfl r7 Tryz.underlying58 rfl (infoP13 _) ?_
 exact ⟨rfl, hw7.below _ _ (Nat.le_refl _) hbw⟩

set_option maxRecDepth 100000 in
set_option maxHeartbeats 2000000 in
theorem turned_any (m : Value) (M : Nat → Nat → Nat → FZ) (w : World) (hm : Tells w m M) :
  Calls Tryz.prog 108 #[m] w fun e w' => ∃ t, e = .returned t ∧ Tells w' t (fun i j => M j i) ∧ Below w.heap.size w w' := by
 obtain ⟨K, caps, rfl, hE, hK⟩ := hm.by_
 have hmf := mkf13
 have HK : Hid _ := hK
 have HE : Hid _ := hE
 clear hK hm
 go_enter Tryz.func108, Tryz.ntmps108
 go_wp2_with (refine wpList_box_val rfl 65 _ rfl (.func (.func K) #[] caps) rfl (boxM13 _ _ _ _) ?_)
 intro w1 rs b1 s1
 clear s1
 go_wp2
 go_ret
 exact ⟨_, rfl, ⟨142, _, rfl, enters_by Tryz.func142 (by kernel_rfl) rfl, fun i j hi hj W hW => by rw [app21]; exact cturned_any K caps M _ i j W (rs.kept hW) HE.out (fun W2 h2 => HK.out j i hj hi W2 (stepB (stepB b1 hW) h2))⟩, b1⟩

set_option maxRecDepth 100000 in
set_option maxHeartbeats 2000000 in
theorem cline_any (K : FuncId) (caps : Array Value) (M : Nat → Nat → Nat → FZ) (gm gi i j : Nat) (w : World) (hm : BlkAt gm 65 [.func (.func K) #[] caps] w) (hi : BlkAt gi 3 [.int .i64 (i : Int)] w)
  (hE : ∀ (args : Array Value) (w : World), (callFunc K args).run Tryz.prog w = .ok (.enter K args) w)
  (hK : ∀ W, Below w.heap.size w W → Calls Tryz.prog K (#[Value.int .i64 (i : Int), Value.int .i64 (j : Int)] ++ caps) W fun e w' => e = .returned (poV (M i j)) ∧ Below W.heap.size W w') :
  Calls Tryz.prog 90 #[.int .i64 (j : Int), .pointer (some ⟨gm, 0, none⟩), .pointer (some ⟨gi, 0, none⟩)] w fun e w' => e = .returned (poV (M i j)) ∧ Below w.heap.size w w' := by
 have HK : Hid _ := hK
 clear hK
 go_enter Tryz.func90, Tryz.ntmps90
 go_wp2_with (refine wpList_alloc_blk rfl 58 rfl (poC fun _ => 0) (allocP13 _) ?_)
 intro w1 rz b1 s1
 have hcs := (hm.kept b1).one
 have hci := (hi.kept b1).one
 clear s1 hm hi
 go_wp2_with fail
 refine (HK.out _ b1).mono ?_
 rintro e w4 ⟨rfl, b4⟩
 replace rz := rz.kept b4
 have hbw := stepB b1 b4
 clear b4 hcs hci b1
 go_wp2_with (refine wpList_store_part rfl 58 _ _ rfl rfl (poC (M i j)) rfl [] (poC fun _ => 0) [] (poC (M i j)) rz (whole13 _) (whole13 _) rfl (by rw [poC_length, poC_length]) (infoP13 _) (poC_all _) ?_; intro w7 r7 hw7)
 refine bodyPost_blk rfl rfl rfl r7 Tryz.underlying58 rfl (infoP13 _) ?_
 exact ⟨rfl, hw7.below _ _ (Nat.le_refl _) hbw⟩

set_option maxRecDepth 100000 in
set_option maxHeartbeats 4000000 in
theorem cmtimes_any (K : FuncId) (caps : Array Value) (M : Nat → Nat → Nat → FZ) (g : Nat → Nat → FZ) (gm gb i : Nat) (w : World) (hm : BlkAt gm 65 [.func (.func K) #[] caps] w) (hb : BlkAt gb 60 (rwC g) w) (hT : PwT w)
  (hE : ∀ (args : Array Value) (w : World), (callFunc K args).run Tryz.prog w = .ok (.enter K args) w)
  (hK : ∀ j : Nat, j < 3 → ∀ W, Below w.heap.size w W → Calls Tryz.prog K (#[Value.int .i64 (i : Int), Value.int .i64 (j : Int)] ++ caps) W fun e w' => e = .returned (poV (M i j)) ∧ Below W.heap.size W w') :
  Calls Tryz.prog 89 #[.int .i64 (i : Int), .pointer (some ⟨gm, 0, none⟩), .pointer (some ⟨gb, 0, none⟩)] w fun e w' => e = .returned (poV (acF (fun _ => 0) (fun j => tm (M i j) (g j)) 3)) ∧ Below w.heap.size w w' := by
 have hmf := mkf13
 have HK : Hid _ := hK
 have HE : Hid _ := hE
 clear hK
 go_enter Tryz.func89, Tryz.ntmps89
 go_wp2_with (refine wpList_box_val rfl 3 _ rfl (.int .i64 (i : Int)) rfl (boxI13 _ _) ?_)
 intro w1 ri b1 s1
 go_wp2_with (refine wpList_alloc_blk rfl 58 rfl (poC fun _ => 0) (allocP13 _) ?_)
 intro w2 rz b2 s2
 replace ri := ri.kept b2
 have hbw := stepB b1 b2
 have rm := hm.kept hbw
 have rb := hb.kept hbw
 have n1 : w.heap.size < w1.heap.size := by have := s1.out; omega
 clear b1 b2 s1 s2 hm hb
 go_wp2_with fail
 refine (rowOf_any 90 _ (M i) _ (enters_by Tryz.func90 (by kernel_rfl) rfl) fun j hj W hW => by rw [app2]; exact cline_any K caps M _ _ i j W (rm.kept hW) (ri.kept hW) HE.out (fun W2 h2 => HK.out j hj W2 (stepB (stepB hbw hW) h2))).mono ?_
 rintro e w3 ⟨rfl, b3⟩
 replace rz := rz.kept b3
 replace rb := rb.kept b3
 replace hbw := stepB hbw b3
 have z3 := rz.lt
 have zb := rb.lt
 clear b3 rm ri
 go_wp2_with (refine wpList_alloc_blk rfl 60 rfl (rwC fun _ _ => 0) (allocW13 _) ?_)
 intro w4 rl b4 s4
 replace rz := rz.kept b4
 replace rb := rb.kept b4
 replace hbw := stepB hbw b4
 clear b4 s4
 go_wp2_with (refine wpList_store_part rfl 60 _ _ rfl rfl (rwC (M i)) rfl [] (rwC fun _ _ => 0) [] (rwC (M i)) rl (whole13 _) (whole13 _) rfl (by rw [prC13_length, prC13_length]) (infoW13 _) (rwC_all _) ?_)
 intro w5 r5 hw5
 replace rz := rz.wrote hw5 (by omega)
 replace rb := rb.wrote hw5 (by omega)
 replace hbw := hw5.below _ _ (by omega) hbw
 clear rl hw5
 go_wp2_with (first | refine wpList_load_part rfl 60 _ rfl rfl [] (rwC (M i)) [] r5 (whole13 _) rfl Tryz.underlying60 rfl (infoW13 _) ?_ | refine wpList_load_part rfl 60 _ rfl rfl [] (rwC g) [] rb (whole13 _) rfl Tryz.underlying60 rfl (infoW13 _) ?_)
 refine (rtimes_any _ _ (M i) g rfl rfl _ (hT.kept hbw)).mono ?_
 rintro e w6 ⟨rfl, b6⟩
 replace rz := rz.kept b6
 replace hbw := stepB hbw b6
 obtain ⟨f, hf⟩ : ∃ f : Nat → FZ, f = acF (fun _ => 0) (fun j => tm (M i j) (g j)) 3 := ⟨_, rfl⟩
 rw [← hf]
 have HG : Hid _ := hf
 clear hf b6 r5 rb hT
 go_wp2_with (refine wpList_store_part rfl 58 _ _ rfl rfl (poC f) rfl [] (poC fun _ => 0) [] (poC f) rz (whole13 _) (whole13 _) rfl (by rw [poC_length, poC_length]) (infoP13 _) (poC_all _) ?_; intro w7 r7 hw7)
 refine bodyPost_blk rfl rfl rfl r7 Tryz.underlying58 rfl (infoP13 _) ?_
 exact ⟨by rw [HG.out], hw7.below _ _ (by omega) hbw⟩

set_option maxRecDepth 100000 in
set_option maxHeartbeats 4000000 in
theorem mtimes_any (m : Value) (M : Nat → Nat → Nat → FZ) (B : Array Value) (g : Nat → Nat → FZ) (hB : B = (rwC g).toArray) (w : World) (hm : Tells w m M) (hT : PwT w) :
  Calls Tryz.prog 45 #[m, .agg B] w fun e w' => e = .returned (rwV fun i => acF (fun _ => 0) (fun j => tm (M i j) (g j)) 3) ∧ Below w.heap.size w w' := by
 obtain ⟨K, caps, rfl, hE, hK⟩ := hm.by_
 have hmf := mkf13
 have HK : Hid _ := hK
 have HE : Hid _ := hE
 clear hK hm
 go_enter Tryz.func45, Tryz.ntmps45
 go_wp2_with (refine wpList_box_val rfl 65 _ rfl (.func (.func K) #[] caps) rfl (boxM13 _ _ _ _) ?_)
 intro w1 rm b1 s1
 go_wp2_with (refine wpList_box_blk rfl 60 _ rfl (rwC g) (by rw [← hB]; rfl) ?_)
 intro w2 rb b2 s2
 go_wp2_with (refine wpList_alloc_blk rfl 60 rfl (rwC fun _ _ => 0) (allocW13 _) ?_)
 intro w3 rz b3 s3
 replace rm := (rm.kept b2).kept b3
 replace rb := rb.kept b3
 have hbw := stepB (stepB b1 b2) b3
 have n1 : w.heap.size < w1.heap.size := by have := s1.out; omega
 have n2 : w1.heap.size < w2.heap.size := by have := s2.out; omega
 replace hT := hT.kept hbw
 clear b1 b2 b3 s1 s2 s3 hB
 go_wp2_with fail
 refine (rowOf_any 89 _ (fun i => acF (fun _ => 0) (fun j => tm (M i j) (g j)) 3) _ (enters_by Tryz.func89 (by kernel_rfl) rfl) fun i hi W hW => by rw [app2]; exact cmtimes_any K caps M g _ _ i W (rm.kept hW) (rb.kept hW) (hT.kept hW) HE.out (fun j hj W2 h2 => HK.out i j hi hj W2 (stepB (stepB hbw hW) h2))).mono ?_
 rintro e w4 ⟨rfl, b4⟩
 replace rz := rz.kept b4
 replace hbw := stepB hbw b4
 obtain ⟨f, hf⟩ : ∃ f : Nat → Nat → FZ, f = fun i => acF (fun _ => 0) (fun j => tm (M i j) (g j)) 3 := ⟨_, rfl⟩
 rw [← hf]
 have HG : Hid _ := hf
 clear hf b4 rb rm hT
 go_wp2_with (refine wpList_store_part rfl 60 _ _ rfl rfl (rwC f) rfl [] (rwC fun _ _ => 0) [] (rwC f) rz (whole13 _) (whole13 _) rfl (by rw [prC13_length, prC13_length]) (infoW13 _) (rwC_all _) ?_; intro w7 r7 hw7)
 refine bodyPost_blk rfl rfl rfl r7 Tryz.underlying60 rfl (infoW13 _) ?_
 exact ⟨by rw [HG.out], hw7.below _ _ (by omega) hbw⟩
end Go.Proofs.YtmhbjaampobcbaaGreatDoor
