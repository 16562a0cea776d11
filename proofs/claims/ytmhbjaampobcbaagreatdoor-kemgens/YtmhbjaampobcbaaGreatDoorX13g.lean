/- The keys of a seed: contracts of package kpke, seventh part. -/
import Derived.Test.YtmhbjaampobcbaaGreatDoorX13e
import Derived.Test.YtmhbjaampobcbaaGreatDoorX13f
import Derived.Test.YtmhbjaampobcbaaGreatDoorRef13p
import Derived.Deep.DeepCutAuto
namespace Go.Proofs.YtmhbjaampobcbaaGreatDoor
open Go.ChangeShapes Go.WideShapes Go.ChangeAt Go.RowKit
set_option linter.unusedSimpArgs false
set_option linter.unusedVariables false

theorem app0 (v : Value) : #[v] ++ #[] = #[v] := rfl
theorem wp_alloc_blk2 {P : Program} {w0 : World} {op : Oper} {a : Act} {w : World} {K : Act → World → Prop} {Q : Exit → Act → World → Prop} (hB : Below w0.heap.size w0 w) (ty : TypeId) (ho : op.op = .alloc ty) (cs : List Value)
  (hrun : (Instr.alloc ty true (.tuple #[])).run P w = .ok (.pointer (some ⟨w.heap.size, 0, none⟩)) (w.alloc (.cells cs.toArray ty)))
  (h : ∀ g w', BlkAt g ty cs w' → w0.heap.size ≤ g → Below w0.heap.size w0 w' → Below w.heap.size w w' → K (a.put op.dst (.pointer (some ⟨g, 0, none⟩))) w') : op.wp P a w K Q := by
 unfold Oper.wp execOp
 simp only [ho, Sem.run_bind, hrun, Result.andThen_ok, Sem.run_pure]
 exact h _ _ (BlkAt.fresh rfl rfl) hB.size (stepB hB (growB _)) (growB _)
theorem eachF_any (A : Array Value) (g h : Nat → Nat → FZ) (hA : A = (rwC g).toArray) (hh : (fun i => fwd (g i)) = h) (w : World) (hP : PwT w) :
  Calls Tryz.prog 42 #[.agg A, .func (.func 43) #[] #[]] w fun e w' => e = .returned (rwV h) ∧ Below w.heap.size w w' := by
 subst hh
 exact each_any 43 #[] A g (fun i => fwd (g i)) hA w (enters_by Tryz.func43 (by kernel_rfl) rfl) fun i hi W hW => by rw [app0]; exact nforwardQ (g i) W (hP.kept hW)
theorem smallRow_zero (v : Value) (l : List UInt8) (hl : l.length = 32) (w : World) (hr : Rd w v l) (hT : Tabs w) :
  Calls Tryz.prog 41 #[v, .int .i64 0] w fun e w' => e = .returned (rwV (slF l)) ∧ Below w.heap.size w w' := by
 have h := smallRow_any v l 0 0 rfl (by decide) hl w hr hT
 have e : (fun i => slF l (0 + i)) = slF l := funext fun i => by rw [Nat.zero_add]
 rw [e] at h
 exact h
theorem tot_two (a b : List UInt8) (ha : a.length ≤ 2000) (hb : b.length ≤ 2000) : totL [a, b] ≤ 1000000000 := by
 simp [totL]
 omega

set_option maxRecDepth 100000 in
set_option maxHeartbeats 8000000 in
theorem kgen_any (v : Value) (d : List UInt8) (w : World) (hd : Rd w v d) (hd32 : d.length = 32) (hT : Tabs w) (hP : PwT w) :
  Calls Tryz.prog 19 #[v] w fun e w' => ∃ x y, e = .returned (.tuple #[x, y, .int .i64 0]) ∧ OwnG w [Rw.by 5 x (ekL d), Rw.by 5 y (dkL d)] w' := by
 obtain ⟨ak, ck, rfl, -, -, -, -⟩ := id hd
 have h1 : ((d.length : Int) != 32) = false := by simp; omega
 have HD : Hid (Rd w (.slice ak d.length ck) d) := hd
 have HD32 : Hid _ := hd32
 have HT : Hid (Tabs w) := hT
 have HP : Hid (PwT w) := hP
 clear hd hd32 hT hP
 go_enter Tryz.func19, Tryz.ntmps19
 have g1 := growB (w := w) (.cells #[.int .u8 3] 5)
 have hc : Rd (w.alloc (.cells #[.int .u8 3] 5)) (.slice (some ⟨w.heap.size, 0, none⟩) 1 1) [3] := Rd.lit1 3 rfl
 have hL := RdL.pair12 (e := 22) (b := w.heap.size + 1) (by simp) (Rd.kept HD.out g1) hc
 have g2 := stepB g1 (growB (w := w.alloc (.cells #[.int .u8 3] 5)) (.cells #[.slice ak d.length ck, .slice (some ⟨w.heap.size, 0, none⟩) 1 1] 22))
 clear g1 hc
 go_wp2_with fail
 refine (join_any _ _ _ _ hL (tot_two _ _ (by rw [HD32.out]; decide) (by decide))).mono ?_
 rintro e w3 ⟨v3, rfl, hN3⟩
 have hR3 := hN3.two13.rd
 have hb3 := stepB g2 hN3.2
 clear hN3 hL g2
 go_wp2_with fail
 refine (sum512_any _ (d ++ [3]) _ hR3 (HT.out.kept hb3)).mono ?_
 rintro e wg ⟨vg, rfl, hNg⟩
 have hbg := stepB hb3 hNg.2
 have hrg : Rd wg vg (gnS d) := hNg.rd
 clear hb3 hR3 hNg
 obtain ⟨bg, og, cg, rfl, hcg, hmg, hrho, hs⟩ := gen_slice hrg (gnS_length d)
 have HRho : Hid (Rd wg (.slice (some ⟨bg, og, none⟩) 32 cg) ((gnS d).take 32)) := hrho
 have HS : Hid (Rd wg (.slice (some ⟨bg, og + 32, none⟩) 32 (cg - 32)) ((gnS d).drop 32)) := hs
 have HE : Hid (rpL 12 (tF ((gnS d).take 32) ((gnS d).drop 32)) 3 ++ (gnS d).take 32 = ekL d) := by show _ = _; rw [← ekP_row]; rfl
 have HK : Hid (rpL 12 (rwF ((gnS d).drop 32)) 3 = dkL d) := by show _ = _; rw [← dkP_row]; rfl
 have HRl : Hid (((gnS d).take 32).length = 32) := by show _ = _; rw [List.length_take, gnS_length]; decide
 have HSl : Hid (((gnS d).drop 32).length = 32) := by show _ = _; rw [List.length_drop, gnS_length]
 generalize (gnS d).take 32 = rho at HRho HE HRl
 generalize (gnS d).drop 32 = s at HS HE HK HSl
 have HBg : Hid (Below w.heap.size w wg) := hbg
 unfold maxLen at hmg
 have y1 : ¬ cg = 32 := by omega
 have y2 : (64 : Int) ≤ (cg : Int) := by omega
 have y3 : (32 : Int) ≤ (cg : Int) := by omega
 clear hrg hrho hs hbg
 go_wp2_with fail
 refine wpG_begin (by kernel_rfl) ?_
 refine wpG_t (i := 0) (oi := ⟨some 19, .move (.tmp 5), 22, "kpke.go:134", #[], none⟩) (v := ?_) ?_ ?_
 rotate_left
 ·intro W hW; go_simp <;> with_reducible rfl
 try simp only [Act.put, putA, putB, putC]
 refine wpG_t (i := 1) (oi := ⟨some 20, .slice 22 (.tmp 19) none (some (.const (.int .i64 32))) none, 22, "kpke.go:134", #[⟨0, .data⟩], none⟩) (v := ?_) ?_ ?_
 rotate_left
 ·intro W hW; go_simp <;> with_reducible rfl
 try simp only [Act.put, putA, putB, putC]
 refine wpG_t (i := 2) (oi := ⟨some 21, .move (.tmp 5), 22, "kpke.go:134", #[], none⟩) (v := ?_) ?_ ?_
 rotate_left
 ·intro W hW; go_simp <;> with_reducible rfl
 try simp only [Act.put, putA, putB, putC]
 refine wpG_t (i := 3) (oi := ⟨some 22, .slice 22 (.tmp 21) (some (.const (.int .i64 32))) none none, 22, "kpke.go:134", #[⟨2, .data⟩], none⟩) (v := ?_) ?_ ?_
 rotate_left
 ·intro W hW; go_simp <;> with_reducible rfl
 try simp only [Act.put, putA, putB, putC]
 refine wpG_t (i := 4) (oi := ⟨some 6, .assign (.tmp 20), 22, "kpke.go:134", #[⟨1, .data⟩, ⟨0, .phase⟩, ⟨1, .phase⟩, ⟨2, .textOnly .lateStores⟩, ⟨3, .textOnly .lateStoresUnsure⟩], none⟩) (v := ?_) ?_ ?_
 rotate_left
 ·intro W hW; go_simp <;> with_reducible rfl
 try simp only [Act.put, putA, putB, putC]
 refine wpG_t (i := 5) (oi := ⟨some 7, .assign (.tmp 22), 22, "kpke.go:134", #[⟨3, .data⟩, ⟨4, .chain⟩, ⟨0, .phase⟩, ⟨1, .phase⟩, ⟨2, .phase⟩, ⟨3, .phase⟩, ⟨4, .phase⟩], none⟩) (v := ?_) ?_ ?_
 rotate_left
 ·intro W hW; go_simp <;> with_reducible rfl
 try simp only [Act.put, putA, putB, putC]
 refine wpG_done (by kernel_rfl) ?_
 have hbw : Below wg.heap.size wg wg.drew := (Below.refl _ _).drew
 go_wp2_with fail
 refine (smallRow_zero _ s HSl.out _ (Rd.kept HS.out hbw) (HT.out.kept (stepB HBg.out hbw))).mono ?_
 rintro e w5 ⟨rfl, b5⟩
 replace hbw := stepB hbw b5
 clear b5
 go_wp2_with fail
 refine (eachF_any _ (slF s) (rwF s) rfl rfl _ (HP.out.kept (stepB HBg.out hbw))).mono ?_
 rintro e w6 ⟨rfl, b6⟩
 replace hbw := stepB hbw b6
 have z6 := hbw.size
 clear b6
 go_wp2_with (refine wpList_alloc_blk rfl 60 rfl (rwC fun _ _ => 0) (allocW13 _) ?_)
 intro w7 r7 b7 s7
 replace hbw := stepB hbw b7
 clear b7 s7
 go_wp2_with (refine wpList_store_part rfl 60 _ _ rfl rfl (rwC (rwF s)) rfl [] (rwC fun _ _ => 0) [] (rwC (rwF s)) r7 (whole13 _) (whole13 _) rfl (by rw [prC13_length, prC13_length]) (infoW13 _) (rwC_all _) ?_)
 intro w8 r8 hw8
 replace hbw := hw8.below _ _ z6 hbw
 clear r7 hw8
 go_wp2_with fail
 refine (smallRow_any _ s 3 _ rfl (by decide) HSl.out _ (Rd.kept HS.out hbw) (HT.out.kept (stepB HBg.out hbw))).mono ?_
 rintro e w9 ⟨rfl, b9⟩
 replace hbw := stepB hbw b9
 replace r8 := r8.kept b9
 clear b9
 go_wp2_with fail
 refine (eachF_any _ (fun i => slF s (3 + i)) (fun i => fwd (slF s (3 + i))) rfl rfl _ (HP.out.kept (stepB HBg.out hbw))).mono ?_
 rintro e wA ⟨rfl, bA⟩
 replace hbw := stepB hbw bA
 replace r8 := r8.kept bA
 have zA := hbw.size
 have y8 := r8.lt
 clear bA
 obtain ⟨no, hno⟩ : ∃ f : Nat → Nat → FZ, f = fun i => fwd (slF s (3 + i)) := ⟨_, rfl⟩
 rw [← hno]
 have HNo : Hid _ := hno
 clear hno
 go_wp2_with (refine wpList_alloc_blk rfl 60 rfl (rwC fun _ _ => 0) (allocW13 _) ?_)
 intro wB rB bB sB
 replace hbw := stepB hbw bB
 replace r8 := r8.kept bB
 clear bB sB
 go_wp2_with (refine wpList_store_part rfl 60 _ _ rfl rfl (rwC no) rfl [] (rwC fun _ _ => 0) [] (rwC no) rB (whole13 _) (whole13 _) rfl (by rw [prC13_length, prC13_length]) (infoW13 _) (rwC_all _) ?_)
 intro wC rC hwC
 replace hbw := hwC.below _ _ zA hbw
 replace r8 := r8.wrote hwC (by omega)
 clear rB hwC y8
 have HSum : Hid (∀ f : Nat → Nat → FZ, f = (fun i => acF (fun _ => 0) (fun j => tm (enF rho i j) (rwF s j)) 3) → (fun i k => f i k + no i k) = tF rho s) := by
  intro f hf
  rw [hf, HNo.out]
  funext i
  exact acF_eq _ _ 3
 go_upto_region 7 with fail
 go_cut [10] (fun v wx => ∃ g : Nat, v = .pointer (some ⟨g, 0, none⟩) ∧ wC.heap.size ≤ g ∧ BlkAt g 60 (rwC (tF rho s)) wx ∧ Below wC.heap.size wC wx)
 case first =>
  have hB : Below wC.heap.size wC wC.drew := (Below.refl _ _).drew
  refine wpB_begin (Below.refl wC.heap.size wC) (by kernel_rfl) ?_
  refine wpB_t (hb := hB) (i := 0) (oi := ⟨some 29, .move (.tmp 6), 22, "kpke.go:137", #[], none⟩) (v := ?_) ?_ ?_
  rotate_left
  ·intro W hW; go_simp <;> with_reducible rfl
  try simp only [Act.put, putA, putB, putC]
  refine wpB_t (hb := hB) (i := 2) (oi := ⟨some 31, .load 60 (.tmp 8), 60, "kpke.go:137", #[], none⟩) (v := ?_) ?_ ?_
  rotate_left
  ·intro W hW; refine Eq.trans (exec_load_part 60 _ (by rfl) (by rfl) [] (rwC (rwF s)) [] r8 hW (whole13 _) rfl Tryz.underlying60 rfl (infoW13 _)) ?_; with_reducible rfl
  try simp only [Act.put, putA, putB, putC]
  refine wpB_t (hb := hB) (i := 4) (oi := ⟨some 33, .load 60 (.tmp 9), 60, "kpke.go:137", #[], none⟩) (v := ?_) ?_ ?_
  rotate_left
  ·intro W hW; refine Eq.trans (exec_load_part 60 _ (by rfl) (by rfl) [] (rwC no) [] rC hW (whole13 _) rfl Tryz.underlying60 rfl (infoW13 _)) ?_; with_reducible rfl
  try simp only [Act.put, putA, putB, putC]
  refine wpB_fork (i := 1) (j := 6) (oi := ⟨some 30, .call { callee := .value (.func 44), args := #[.tmp 29], argTypes := #[22] }, 65, "kpke.go:137", #[⟨0, .data⟩], none⟩) (oj := ⟨some 10, .alloc 60, 0, "kpke.go:137", #[], none⟩) (by kernel_rfl) rfl rfl (by rfl) (by rfl) (fun K hK => ?_) (fun K hK => ?_)
  ·go_simp
   refine (matrixOf_any _ rho (by rw [HRl.out]; decide) _ (Rd.kept HRho.out (stepB hbw hB)) (HT.out.kept (stepB HBg.out (stepB hbw hB)))).mono ?_
   rintro e wq ⟨mv, rfl, hM, bq⟩
   replace hB := stepB hB bq
   try replace hG := hG.kept bq
   refine hK.out _ _ hB ?_
   clear hK K
   try simp only [Act.put, putA, putB, putC]
   refine wpB_fork (i := 3) (j := 6) (oi := ⟨some 32, .call { callee := .value (.func 45), args := #[.tmp 30, .tmp 31], argTypes := #[65, 60] }, 60, "kpke.go:137", #[⟨1, .data⟩, ⟨2, .data⟩, ⟨1, .chain⟩], none⟩) (oj := ⟨some 10, .alloc 60, 0, "kpke.go:137", #[], none⟩) (by kernel_rfl) rfl rfl (by rfl) (by rfl) (fun K hK => ?_) (fun K hK => ?_)
   ·go_simp
    refine (mtimes_any mv (enF rho) _ (rwF s) rfl _ hM (HP.out.kept (stepB HBg.out (stepB hbw hB)))).mono ?_
    rintro e wp ⟨rfl, bp⟩
    replace hB := stepB hB bp
    try replace hG := hG.kept bp
    obtain ⟨fm, hfm⟩ : ∃ f : Nat → Nat → FZ, f = fun i => acF (fun _ => 0) (fun j => tm (enF rho i j) (rwF s j)) 3 := ⟨_, rfl⟩
    rw [← hfm]
    have HFm : Hid _ := hfm
    clear hfm
    refine hK.out _ _ hB ?_
    clear hK K
    try simp only [Act.put, putA, putB, putC]
    refine wpB_fork (i := 5) (j := 6) (oi := ⟨some 34, .call { callee := .value (.func 46), args := #[.tmp 32, .tmp 33], argTypes := #[60, 60] }, 60, "kpke.go:137", #[⟨3, .data⟩, ⟨4, .data⟩, ⟨3, .chain⟩], none⟩) (oj := ⟨some 10, .alloc 60, 0, "kpke.go:137", #[], none⟩) (by kernel_rfl) rfl rfl (by rfl) (by rfl) (fun K hK => ?_) (fun K hK => ?_)
    ·go_simp
     refine (rplus_any _ _ fm no rfl rfl _).mono ?_
     rintro e wm ⟨rfl, bm⟩
     rw [HSum.out fm HFm.out]
     replace hB := stepB hB bm
     try replace hG := hG.kept bm
     refine hK.out _ _ hB ?_
     clear hK K
     try simp only [Act.put, putA, putB, putC]
     refine wpB_do (i := 6) (o := ⟨some 10, .alloc 60, 0, "kpke.go:137", #[], none⟩) (by kernel_rfl) rfl (by rfl) fun K hK => ?_
     refine wp_alloc_blk2 hB 60 rfl (rwC fun _ _ => 0) (allocW13 _) ?_
     intro g wN hG hge hBA hBc
     replace hB := hBA
     try replace hM := hM.kept hBc
     refine hK.out _ _ hB ?_
     clear hK K
     try simp only [Act.put, putA, putB, putC]
     refine wpB_do (i := 7) (o := ⟨none, .store 60 (.tmp 10) (.tmp 34), 0, "kpke.go:137", #[⟨6, .data⟩, ⟨5, .data⟩, ⟨5, .chain⟩, ⟨0, .phase⟩, ⟨1, .phase⟩, ⟨2, .phase⟩, ⟨3, .phase⟩, ⟨4, .phase⟩, ⟨5, .phase⟩, ⟨6, .phase⟩], none⟩) (by kernel_rfl) rfl (by rfl) fun K hK => ?_
     refine wp_store_part 60 _ _ rfl rfl (rwC (tF rho s)) rfl [] (rwC fun _ _ => 0) [] (rwC (tF rho s)) hG (whole13 _) (whole13 _) rfl (by rw [prC13_length, prC13_length]) (infoW13 _) (rwC_all _) ?_
     intro wS hGS hwS
     replace hB := hwS.below _ _ hge hB
     refine hK.out _ _ hB ?_
     clear hK K
     try simp only [Act.put, putA, putB, putC]
     refine wpB_done (by kernel_rfl) ?_
     go_wp2_with fail
     go_meet
     exact ⟨g, rfl, hge, hGS, hB⟩
    ·refine wp_alloc_blk2 hB 60 rfl (rwC fun _ _ => 0) (allocW13 _) ?_
     intro g wN hG hge hBA hBc
     replace hB := hBA
     try replace hM := hM.kept hBc
     refine hK.out _ _ hB ?_
     clear hK K
     try simp only [Act.put, putA, putB, putC]
     refine wpB_do (i := 5) (o := ⟨some 34, .call { callee := .value (.func 46), args := #[.tmp 32, .tmp 33], argTypes := #[60, 60] }, 60, "kpke.go:137", #[⟨3, .data⟩, ⟨4, .data⟩, ⟨3, .chain⟩], none⟩) (by kernel_rfl) rfl (by rfl) fun K hK => ?_
     go_simp
     refine (rplus_any _ _ fm no rfl rfl _).mono ?_
     rintro e wm ⟨rfl, bm⟩
     rw [HSum.out fm HFm.out]
     replace hB := stepB hB bm
     try replace hG := hG.kept bm
     refine hK.out _ _ hB ?_
     clear hK K
     try simp only [Act.put, putA, putB, putC]
     refine wpB_do (i := 7) (o := ⟨none, .store 60 (.tmp 10) (.tmp 34), 0, "kpke.go:137", #[⟨6, .data⟩, ⟨5, .data⟩, ⟨5, .chain⟩, ⟨0, .phase⟩, ⟨1, .phase⟩, ⟨2, .phase⟩, ⟨3, .phase⟩, ⟨4, .phase⟩, ⟨5, .phase⟩, ⟨6, .phase⟩], none⟩) (by kernel_rfl) rfl (by rfl) fun K hK => ?_
     refine wp_store_part 60 _ _ rfl rfl (rwC (tF rho s)) rfl [] (rwC fun _ _ => 0) [] (rwC (tF rho s)) hG (whole13 _) (whole13 _) rfl (by rw [prC13_length, prC13_length]) (infoW13 _) (rwC_all _) ?_
     intro wS hGS hwS
     replace hB := hwS.below _ _ hge hB
     refine hK.out _ _ hB ?_
     clear hK K
     try simp only [Act.put, putA, putB, putC]
     refine wpB_done (by kernel_rfl) ?_
     go_wp2_with fail
     go_meet
     exact ⟨g, rfl, hge, hGS, hB⟩
   ·refine wp_alloc_blk2 hB 60 rfl (rwC fun _ _ => 0) (allocW13 _) ?_
    intro g wN hG hge hBA hBc
    replace hB := hBA
    try replace hM := hM.kept hBc
    refine hK.out _ _ hB ?_
    clear hK K
    try simp only [Act.put, putA, putB, putC]
    refine wpB_do (i := 3) (o := ⟨some 32, .call { callee := .value (.func 45), args := #[.tmp 30, .tmp 31], argTypes := #[65, 60] }, 60, "kpke.go:137", #[⟨1, .data⟩, ⟨2, .data⟩, ⟨1, .chain⟩], none⟩) (by kernel_rfl) rfl (by rfl) fun K hK => ?_
    go_simp
    refine (mtimes_any mv (enF rho) _ (rwF s) rfl _ hM (HP.out.kept (stepB HBg.out (stepB hbw hB)))).mono ?_
    rintro e wp ⟨rfl, bp⟩
    replace hB := stepB hB bp
    try replace hG := hG.kept bp
    obtain ⟨fm, hfm⟩ : ∃ f : Nat → Nat → FZ, f = fun i => acF (fun _ => 0) (fun j => tm (enF rho i j) (rwF s j)) 3 := ⟨_, rfl⟩
    rw [← hfm]
    have HFm : Hid _ := hfm
    clear hfm
    refine hK.out _ _ hB ?_
    clear hK K
    try simp only [Act.put, putA, putB, putC]
    refine wpB_do (i := 5) (o := ⟨some 34, .call { callee := .value (.func 46), args := #[.tmp 32, .tmp 33], argTypes := #[60, 60] }, 60, "kpke.go:137", #[⟨3, .data⟩, ⟨4, .data⟩, ⟨3, .chain⟩], none⟩) (by kernel_rfl) rfl (by rfl) fun K hK => ?_
    go_simp
    refine (rplus_any _ _ fm no rfl rfl _).mono ?_
    rintro e wm ⟨rfl, bm⟩
    rw [HSum.out fm HFm.out]
    replace hB := stepB hB bm
    try replace hG := hG.kept bm
    refine hK.out _ _ hB ?_
    clear hK K
    try simp only [Act.put, putA, putB, putC]
    refine wpB_do (i := 7) (o := ⟨none, .store 60 (.tmp 10) (.tmp 34), 0, "kpke.go:137", #[⟨6, .data⟩, ⟨5, .data⟩, ⟨5, .chain⟩, ⟨0, .phase⟩, ⟨1, .phase⟩, ⟨2, .phase⟩, ⟨3, .phase⟩, ⟨4, .phase⟩, ⟨5, .phase⟩, ⟨6, .phase⟩], none⟩) (by kernel_rfl) rfl (by rfl) fun K hK => ?_
    refine wp_store_part 60 _ _ rfl rfl (rwC (tF rho s)) rfl [] (rwC fun _ _ => 0) [] (rwC (tF rho s)) hG (whole13 _) (whole13 _) rfl (by rw [prC13_length, prC13_length]) (infoW13 _) (rwC_all _) ?_
    intro wS hGS hwS
    replace hB := hwS.below _ _ hge hB
    refine hK.out _ _ hB ?_
    clear hK K
    try simp only [Act.put, putA, putB, putC]
    refine wpB_done (by kernel_rfl) ?_
    go_wp2_with fail
    go_meet
    exact ⟨g, rfl, hge, hGS, hB⟩
  ·refine wp_alloc_blk2 hB 60 rfl (rwC fun _ _ => 0) (allocW13 _) ?_
   intro g wN hG hge hBA hBc
   replace hB := hBA
   try replace hM := hM.kept hBc
   refine hK.out _ _ hB ?_
   clear hK K
   try simp only [Act.put, putA, putB, putC]
   refine wpB_do (i := 1) (o := ⟨some 30, .call { callee := .value (.func 44), args := #[.tmp 29], argTypes := #[22] }, 65, "kpke.go:137", #[⟨0, .data⟩], none⟩) (by kernel_rfl) rfl (by rfl) fun K hK => ?_
   go_simp
   refine (matrixOf_any _ rho (by rw [HRl.out]; decide) _ (Rd.kept HRho.out (stepB hbw hB)) (HT.out.kept (stepB HBg.out (stepB hbw hB)))).mono ?_
   rintro e wq ⟨mv, rfl, hM, bq⟩
   replace hB := stepB hB bq
   try replace hG := hG.kept bq
   refine hK.out _ _ hB ?_
   clear hK K
   try simp only [Act.put, putA, putB, putC]
   refine wpB_do (i := 3) (o := ⟨some 32, .call { callee := .value (.func 45), args := #[.tmp 30, .tmp 31], argTypes := #[65, 60] }, 60, "kpke.go:137", #[⟨1, .data⟩, ⟨2, .data⟩, ⟨1, .chain⟩], none⟩) (by kernel_rfl) rfl (by rfl) fun K hK => ?_
   go_simp
   refine (mtimes_any mv (enF rho) _ (rwF s) rfl _ hM (HP.out.kept (stepB HBg.out (stepB hbw hB)))).mono ?_
   rintro e wp ⟨rfl, bp⟩
   replace hB := stepB hB bp
   try replace hG := hG.kept bp
   obtain ⟨fm, hfm⟩ : ∃ f : Nat → Nat → FZ, f = fun i => acF (fun _ => 0) (fun j => tm (enF rho i j) (rwF s j)) 3 := ⟨_, rfl⟩
   rw [← hfm]
   have HFm : Hid _ := hfm
   clear hfm
   refine hK.out _ _ hB ?_
   clear hK K
   try simp only [Act.put, putA, putB, putC]
   refine wpB_do (i := 5) (o := ⟨some 34, .call { callee := .value (.func 46), args := #[.tmp 32, .tmp 33], argTypes := #[60, 60] }, 60, "kpke.go:137", #[⟨3, .data⟩, ⟨4, .data⟩, ⟨3, .chain⟩], none⟩) (by kernel_rfl) rfl (by rfl) fun K hK => ?_
   go_simp
   refine (rplus_any _ _ fm no rfl rfl _).mono ?_
   rintro e wm ⟨rfl, bm⟩
   rw [HSum.out fm HFm.out]
   replace hB := stepB hB bm
   try replace hG := hG.kept bm
   refine hK.out _ _ hB ?_
   clear hK K
   try simp only [Act.put, putA, putB, putC]
   refine wpB_do (i := 7) (o := ⟨none, .store 60 (.tmp 10) (.tmp 34), 0, "kpke.go:137", #[⟨6, .data⟩, ⟨5, .data⟩, ⟨5, .chain⟩, ⟨0, .phase⟩, ⟨1, .phase⟩, ⟨2, .phase⟩, ⟨3, .phase⟩, ⟨4, .phase⟩, ⟨5, .phase⟩, ⟨6, .phase⟩], none⟩) (by kernel_rfl) rfl (by rfl) fun K hK => ?_
   refine wp_store_part 60 _ _ rfl rfl (rwC (tF rho s)) rfl [] (rwC fun _ _ => 0) [] (rwC (tF rho s)) hG (whole13 _) (whole13 _) rfl (by rw [prC13_length, prC13_length]) (infoW13 _) (rwC_all _) ?_
   intro wS hGS hwS
   replace hB := hwS.below _ _ hge hB
   refine hK.out _ _ hB ?_
   clear hK K
   try simp only [Act.put, putA, putB, putC]
   refine wpB_done (by kernel_rfl) ?_
   go_wp2_with fail
   go_meet
   exact ⟨g, rfl, hge, hGS, hB⟩
 case rest =>
 obtain ⟨gt, rfl, hget, rT, bc⟩ := hcut
 replace r8 := r8.kept bc
 replace hbw := stepB hbw bc
 rename World => wT
 clear bc rC HSum HNo
 go_wp2_with fail
 refine wpG_begin (by kernel_rfl) ?_
 refine wpG_t (i := 0) (oi := ⟨some 35, .load 60 (.tmp 10), 60, "kpke.go:138", #[], none⟩) (v := ?_) ?_ ?_
 rotate_left
 ·intro W hW; refine Eq.trans (exec_load_part 60 _ (by rfl) (by rfl) [] (rwC (tF rho s)) [] rT.drew hW (whole13 _) rfl Tryz.underlying60 rfl (infoW13 _)) ?_; with_reducible rfl
 try simp only [Act.put, putA, putB, putC]
 refine wpG_t (i := 2) (oi := ⟨some 37, .move (.tmp 6), 22, "kpke.go:138", #[], none⟩) (v := ?_) ?_ ?_
 rotate_left
 ·intro W hW; go_simp <;> with_reducible rfl
 try simp only [Act.put, putA, putB, putC]
 refine wpG_t (i := 5) (oi := ⟨some 40, .load 60 (.tmp 8), 60, "kpke.go:138", #[], none⟩) (v := ?_) ?_ ?_
 rotate_left
 ·intro W hW; refine Eq.trans (exec_load_part 60 _ (by rfl) (by rfl) [] (rwC (rwF s)) [] r8.drew hW (whole13 _) rfl Tryz.underlying60 rfl (infoW13 _)) ?_; with_reducible rfl
 try simp only [Act.put, putA, putB, putC]
 refine wpG_do (i := 1) (o := ⟨some 36, .call { callee := .value (.func 47), args := #[.tmp 35, .const (.int .i64 12)], argTypes := #[60, 3] }, 22, "kpke.go:138", #[⟨0, .data⟩], none⟩) (by kernel_rfl) rfl (by rfl) fun K hK => ?_
 go_simp
 refine (rpack_any _ (tF rho s) rfl 12 _ rfl (by decide) (by decide) _).mono ?_
 rintro e wp ⟨vp, rfl, hNp⟩
 obtain ⟨ap, cp, rfl, -⟩ := id hNp.rd
 have hL := RdL.pair12 (e := 22) (b := wp.heap.size) rfl hNp.rd (Rd.kept HRho.out (stepB hbw.drew hNp.2))
 have g1 := growB (w := wp) (.cells #[.slice ap (rpL 12 (tF rho s) 3).length cp, .slice (some ⟨bg, og, none⟩) 32 cg] 22)
 refine hK.out _ _ hNp.2 ?_
 clear hK K
 try simp only [Act.put, putA, putB, putC]
 refine wpG_do (i := 3) (o := ⟨some 38, .buildSlice 68 2 #[(0, .tmp 36), (1, .tmp 37)], 68, "kpke.go:138", #[⟨1, .data⟩, ⟨2, .data⟩], none⟩) (by kernel_rfl) rfl (by rfl) fun K hK => ?_
 go_simp
 refine hK.out _ _ g1 ?_
 clear hK K
 try simp only [Act.put, putA, putB, putC]
 refine wpG_do (i := 4) (o := ⟨some 39, .call { callee := .value (.func 20), args := #[.tmp 38], argTypes := #[68] }, 22, "kpke.go:138", #[⟨3, .data⟩, ⟨1, .chain⟩], none⟩) (by kernel_rfl) rfl (by rfl) fun K hK => ?_
 go_simp
 refine (join_any _ _ _ _ hL (tot_two _ _ (by rw [rpL_length]; decide) (by rw [HRl.out]; decide))).mono ?_
 rintro e wj ⟨vj, rfl, hNj⟩
 refine hK.out _ _ hNj.2 ?_
 clear hK K
 try simp only [Act.put, putA, putB, putC]
 refine wpG_do (i := 6) (o := ⟨some 41, .call { callee := .value (.func 47), args := #[.tmp 40, .const (.int .i64 12)], argTypes := #[60, 3] }, 22, "kpke.go:138", #[⟨5, .data⟩, ⟨4, .chain⟩], none⟩) (by kernel_rfl) rfl (by rfl) fun K hK => ?_
 go_simp
 refine (rpack_any _ (rwF s) rfl 12 _ rfl (by decide) (by decide) _).mono ?_
 rintro e wk ⟨vk, rfl, hNk⟩
 refine hK.out _ _ hNk.2 ?_
 clear hK K
 try simp only [Act.put, putA, putB, putC]
 refine wpG_t (i := 7) (oi := ⟨some 2, .assign (.tmp 39), 22, "kpke.go:138", #[⟨4, .data⟩, ⟨6, .chain⟩, ⟨0, .phase⟩, ⟨1, .phase⟩, ⟨2, .phase⟩, ⟨3, .phase⟩, ⟨4, .phase⟩, ⟨5, .textOnly .lateStores⟩, ⟨6, .textOnly .lateStoresUnsure⟩], none⟩) (v := ?_) ?_ ?_
 rotate_left
 ·intro W hW; go_simp <;> with_reducible rfl
 try simp only [Act.put, putA, putB, putC]
 refine wpG_t (i := 8) (oi := ⟨some 3, .assign (.tmp 41), 22, "kpke.go:138", #[⟨6, .data⟩, ⟨7, .chain⟩, ⟨0, .phase⟩, ⟨1, .phase⟩, ⟨2, .phase⟩, ⟨3, .phase⟩, ⟨4, .phase⟩, ⟨5, .phase⟩, ⟨6, .phase⟩, ⟨7, .phase⟩], none⟩) (v := ?_) ?_ ?_
 rotate_left
 ·intro W hW; go_simp <;> with_reducible rfl
 try simp only [Act.put, putA, putB, putC]
 refine wpG_t (i := 9) (oi := ⟨some 4, .assign (.const (.int .i64 0)), 24, "kpke.go:138", #[⟨8, .chain⟩, ⟨0, .phase⟩, ⟨1, .phase⟩, ⟨2, .phase⟩, ⟨3, .phase⟩, ⟨4, .phase⟩, ⟨5, .phase⟩, ⟨6, .phase⟩, ⟨7, .phase⟩, ⟨8, .phase⟩], none⟩) (v := ?_) ?_ ?_
 rotate_left
 ·intro W hW; go_simp <;> with_reducible rfl
 try simp only [Act.put, putA, putB, putC]
 refine wpG_done (by kernel_rfl) ?_
 have hO := ((OwnG.since (stepB (stepB (stepB HBg.out hbw.drew) hNp.2) g1)).new hNj.two13).new hNk
 rw [HE.out, HK.out] at hO
 have HO : Hid _ := hO.swap
 clear hO hL g1 hNp hNj hNk r8 rT
 go_wp2
 go_ret3
 exact ⟨vj, vk, rfl, HO.out⟩
end Go.Proofs.YtmhbjaampobcbaaGreatDoor
