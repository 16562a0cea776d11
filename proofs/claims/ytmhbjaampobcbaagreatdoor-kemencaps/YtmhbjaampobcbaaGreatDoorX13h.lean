/- A message, encrypted: contracts of package kpke, eighth part. -/
import Derived.Test.YtmhbjaampobcbaaGreatDoorX13g
namespace Go.Proofs.YtmhbjaampobcbaaGreatDoor
open Go.ChangeShapes Go.WideShapes Go.ChangeAt Go.RowKit
set_option linter.unusedSimpArgs false
set_option linter.unusedVariables false

theorem mtimes_to (m : Value) (M : Nat → Nat → Nat → FZ) (B : Array Value) (g f : Nat → Nat → FZ) (hB : B = (rwC g).toArray) (hf : (fun i => acF (fun _ => 0) (fun j => tm (M i j) (g j)) 3) = f) (w : World) (hm : Tells w m M) (hT : PwT w) :
  Calls Tryz.prog 45 #[m, .agg B] w fun e w' => e = .returned (rwV f) ∧ Below w.heap.size w w' := by
 subst hf
 exact mtimes_any m M B g hB w hm hT
theorem rplus_to (A B : Array Value) (f g h : Nat → Nat → FZ) (hA : A = (rwC f).toArray) (hB : B = (rwC g).toArray) (hh : (fun i k => f i k + g i k) = h) (w : World) :
  Calls Tryz.prog 46 #[.agg A, .agg B] w fun e w' => e = .returned (rwV h) ∧ Below w.heap.size w w' := by
 subst hh
 exact rplus_any A B f g hA hB w
theorem rtimes_to (A B : Array Value) (f g : Nat → Nat → FZ) (h : Nat → FZ) (hA : A = (rwC f).toArray) (hB : B = (rwC g).toArray) (hh : acF (fun _ => 0) (fun j => tm (f j) (g j)) 3 = h) (w : World) (hT : PwT w) :
  Calls Tryz.prog 72 #[.agg A, .agg B] w fun e w' => e = .returned (poV h) ∧ Below w.heap.size w w' := by
 subst hh
 exact rtimes_any A B f g hA hB w hT
theorem eachI_any (A : Array Value) (g h : Nat → Nat → FZ) (hA : A = (rwC g).toArray) (hh : (fun i => inw (g i)) = h) (w : World) (hP : PwT w) :
  Calls Tryz.prog 42 #[.agg A, .func (.func 71) #[] #[]] w fun e w' => e = .returned (rwV h) ∧ Below w.heap.size w w' := by
 subst hh
 exact each_any 71 #[] A g (fun i => inw (g i)) hA w (enters_by Tryz.func71 (by kernel_rfl) rfl) fun i hi W hW => by rw [app0]; exact ninverseQ (g i) W (hP.kept hW)
theorem nplus_to (f g h : Nat → FZ) (hh : (fun k => f k + g k) = h) (w : World) : Calls Tryz.prog 92 #[poV f, poV g] w fun e w' => e = .returned (poV h) ∧ Below w.heap.size w w' := by
 subst hh
 exact nplusQ f g w
theorem pt_take (d i n : Nat) (b : List UInt8) (hi : 32 * d * i + 32 * d ≤ n) : ptF d (b.take n) i = ptF d b i := by
 unfold ptF
 rw [List.drop_take, List.take_take, Nat.min_eq_left (by omega)]
theorem row_take (d n : Nat) (b : List UInt8) (hn : 96 * d ≤ n) : rwC (ptF d (b.take n)) = rwC (ptF d b) := prC13_congr 3 fun i hi => pt_take d i n b (by
 have : 32 * d * i ≤ 32 * d * 2 := Nat.mul_le_mul_left _ (by omega)
 omega)
theorem unpackedRow_part (d n : Nat) (D : Int) (hD : D = (d : Int)) (h1 : 1 ≤ d) (h12 : d ≤ 12) (v : Value) (b : List UInt8) (hn : 96 * d ≤ n) (hb : n ≤ b.length) (hbl : b.length ≤ 900000) (w : World) (hr : Rd w v (b.take n)) :
  Calls Tryz.prog 66 #[.int .i64 D, v] w fun e w' => e = .returned (rwV (ptF d b)) ∧ Below w.heap.size w w' := by
 have h := unpackedRow_any d D hD h1 h12 v (b.take n) (by rw [List.length_take]; omega) (by rw [List.length_take]; omega) w hr
 have e : rwV (ptF d (b.take n)) = rwV (ptF d b) := by rw [rwV, row_take d n b hn]
 rw [e] at h
 exact h

set_option maxRecDepth 100000 in
set_option maxHeartbeats 8000000 in
theorem kenc_any (ve vm vr : Value) (ek m r : List UInt8) (w : World) (he : Rd w ve ek) (hm : Rd w vm m) (hr : Rd w vr r) (hel : ek.length = 1184) (hml : m.length = 32) (hrl : r.length = 32) (hT : Tabs w) (hP : PwT w) :
  Calls Tryz.prog 60 #[ve, vm, vr] w fun e w' => ∃ x, e = .returned (.tuple #[x, .int .i64 0]) ∧ New 5 w x (ciL ek m r) w' := by
 obtain ⟨a0, ce, ev, hce, hmc, -, h5⟩ := id he
 rcases h5 with h5 | ⟨be, oe, rfl, -⟩
 ·rw [h5] at hel
  simp at hel
 subst ev
 obtain ⟨am, cm, rfl, -, -, -, -⟩ := id hm
 obtain ⟨ar, cr, rfl, -, -, -, -⟩ := id hr
 rw [hel] at he hce ⊢
 rw [hml] at hm ⊢
 rw [hrl] at hr ⊢
 have hs := he.sub 1152 1184 (by omega) (by omega)
 have ht : (ek.drop 1152).take (1184 - 1152) = ek.drop 1152 := by rw [List.take_of_length_le (by rw [List.length_drop, hel]; decide)]
 rw [ht] at hs
 have h0 := he.take (n := 1152) (by omega)
 have HS : Hid (Rd w (.slice (some ⟨be, oe + 1152, none⟩) 32 (ce - 1152)) (ek.drop 1152)) := hs
 have HE : Hid (Rd w (.slice (some ⟨be, oe, none⟩) 1152 ce) (ek.take 1152)) := h0
 have HM : Hid (Rd w (.slice am 32 cm) m) := hm
 have HR : Hid (Rd w (.slice ar 32 cr) r) := hr
 have HEl : Hid _ := hel
 have HMl : Hid _ := hml
 have HRl : Hid _ := hrl
 have HSl : Hid ((ek.drop 1152).length ≤ 900000) := by show _ ≤ _; rw [List.length_drop, hel]; decide
 have HT : Hid (Tabs w) := hT
 have HP : Hid (PwT w) := hP
 have HC : Hid (rpL 10 (fun i => sqF 10 (UF ek r i)) 3 ++ pkL 4 (fzF (sqF 4 (VF ek m r))) = ciL ek m r) := by
  show _ = _
  rw [← cuP_row, sqF_val 4 (by decide)]
  rfl
 unfold maxLen at hmc
 have y1 : ¬ ce = 1152 := by omega
 have y2 : (1184 : Int) ≤ (ce : Int) := by omega
 have y3 : (1152 : Int) ≤ (ce : Int) := by omega
 clear he hm hr hs ht hel hml hrl h0 hT hP
 go_enter Tryz.func60, Tryz.ntmps60
 go_upto_region 3 with fail
 go_cut [8, 9] (fun v8 v9 wx => ∃ g : Nat, v8 = .pointer (some ⟨g, 0, none⟩) ∧ v9 = .slice (some ⟨be, oe + 1152, none⟩) 32 (ce - 1152) ∧ BlkAt g 60 (rwC (ptF 12 ek)) wx ∧ Below w.heap.size w wx)
 case first =>
  have hB : Below w.heap.size w w.drew := (Below.refl _ _).drew
  refine wpB_begin (Below.refl w.heap.size w) (by kernel_rfl) ?_
  refine wpB_t (hb := hB) (i := 0) (oi := ⟨some 27, .move (.tmp 0), 22, "kpke.go:146", #[], none⟩) (v := ?_) ?_ ?_
  rotate_left
  ·intro W hW; go_simp <;> with_reducible rfl
  try simp only [Act.put, putA, putB, putC]
  refine wpB_t (hb := hB) (i := 1) (oi := ⟨some 28, .slice 22 (.tmp 27) none (some (.const (.int .i64 1152))) none, 22, "kpke.go:146", #[⟨0, .data⟩], none⟩) (v := ?_) ?_ ?_
  rotate_left
  ·intro W hW; go_simp <;> with_reducible rfl
  try simp only [Act.put, putA, putB, putC]
  refine wpB_t (hb := hB) (i := 3) (oi := ⟨some 30, .move (.tmp 0), 22, "kpke.go:146", #[], none⟩) (v := ?_) ?_ ?_
  rotate_left
  ·intro W hW; go_simp <;> with_reducible rfl
  try simp only [Act.put, putA, putB, putC]
  refine wpB_t (hb := hB) (i := 4) (oi := ⟨some 31, .slice 22 (.tmp 30) (some (.const (.int .i64 1152))) none none, 22, "kpke.go:146", #[⟨3, .data⟩], none⟩) (v := ?_) ?_ ?_
  rotate_left
  ·intro W hW; go_simp <;> with_reducible rfl
  try simp only [Act.put, putA, putB, putC]
  refine wpB_fork (i := 2) (j := 5) (oi := ⟨some 29, .call { callee := .value (.func 66), args := #[.const (.int .i64 12), .tmp 28], argTypes := #[3, 22] }, 60, "kpke.go:146", #[⟨1, .data⟩], none⟩) (oj := ⟨some 8, .alloc 60, 0, "kpke.go:146", #[], none⟩) (by kernel_rfl) rfl rfl (by rfl) (by rfl) (fun K hK => ?_) (fun K hK => ?_)
  ·go_simp
   refine (unpackedRow_part 12 1152 _ rfl (by decide) (by decide) _ ek (by decide) (by rw [HEl.out]; decide) (by rw [HEl.out]; decide) _ (Rd.kept HE.out hB)).mono ?_
   rintro e wq ⟨rfl, bq⟩
   replace hB := stepB hB bq
   try replace hG := hG.kept bq
   refine hK.out _ _ hB ?_
   clear hK K
   try simp only [Act.put, putA, putB, putC]
   refine wpB_do (i := 5) (o := ⟨some 8, .alloc 60, 0, "kpke.go:146", #[], none⟩) (by kernel_rfl) rfl (by rfl) fun K hK => ?_
   refine wp_alloc_blk2 hB 60 rfl (rwC fun _ _ => 0) (allocW13 _) ?_
   intro g wN hG hge hBA hBc
   replace hB := hBA
   refine hK.out _ _ hB ?_
   clear hK K
   try simp only [Act.put, putA, putB, putC]
   refine wpB_do (i := 6) (o := ⟨none, .store 60 (.tmp 8) (.tmp 29), 0, "kpke.go:146", #[⟨5, .data⟩, ⟨2, .data⟩, ⟨2, .chain⟩, ⟨0, .phase⟩, ⟨1, .phase⟩, ⟨2, .phase⟩, ⟨3, .textOnly .lateStores⟩, ⟨4, .textOnly .lateStoresUnsure⟩, ⟨5, .phase⟩], none⟩) (by kernel_rfl) rfl (by rfl) fun K hK => ?_
   refine wp_store_part 60 _ _ rfl rfl (rwC (ptF 12 ek)) rfl [] (rwC fun _ _ => 0) [] (rwC (ptF 12 ek)) hG (whole13 _) (whole13 _) rfl (by rw [prC13_length, prC13_length]) (infoW13 _) (rwC_all _) ?_
   intro wS hGS hwS
   replace hB := hwS.below _ _ hge hB
   refine hK.out _ _ hB ?_
   clear hK K
   try simp only [Act.put, putA, putB, putC]
   refine wpB_t (hb := hB) (i := 7) (oi := ⟨some 9, .assign (.tmp 31), 22, "kpke.go:146", #[⟨4, .data⟩, ⟨6, .chain⟩, ⟨0, .phase⟩, ⟨1, .phase⟩, ⟨2, .phase⟩, ⟨3, .phase⟩, ⟨4, .phase⟩, ⟨5, .phase⟩, ⟨6, .phase⟩], none⟩) (v := ?_) ?_ ?_
   rotate_left
   ·intro W hW; go_simp <;> with_reducible rfl
   try simp only [Act.put, putA, putB, putC]
   refine wpB_done (by kernel_rfl) ?_
   go_wp2_with fail
   go_meet
   exact ⟨g, rfl, rfl, hGS, hB⟩
  ·refine wp_alloc_blk2 hB 60 rfl (rwC fun _ _ => 0) (allocW13 _) ?_
   intro g wN hG hge hBA hBc
   replace hB := hBA
   refine hK.out _ _ hB ?_
   clear hK K
   try simp only [Act.put, putA, putB, putC]
   refine wpB_do (i := 2) (o := ⟨some 29, .call { callee := .value (.func 66), args := #[.const (.int .i64 12), .tmp 28], argTypes := #[3, 22] }, 60, "kpke.go:146", #[⟨1, .data⟩], none⟩) (by kernel_rfl) rfl (by rfl) fun K hK => ?_
   go_simp
   refine (unpackedRow_part 12 1152 _ rfl (by decide) (by decide) _ ek (by decide) (by rw [HEl.out]; decide) (by rw [HEl.out]; decide) _ (Rd.kept HE.out hB)).mono ?_
   rintro e wq ⟨rfl, bq⟩
   replace hB := stepB hB bq
   try replace hG := hG.kept bq
   refine hK.out _ _ hB ?_
   clear hK K
   try simp only [Act.put, putA, putB, putC]
   refine wpB_do (i := 6) (o := ⟨none, .store 60 (.tmp 8) (.tmp 29), 0, "kpke.go:146", #[⟨5, .data⟩, ⟨2, .data⟩, ⟨2, .chain⟩, ⟨0, .phase⟩, ⟨1, .phase⟩, ⟨2, .phase⟩, ⟨3, .textOnly .lateStores⟩, ⟨4, .textOnly .lateStoresUnsure⟩, ⟨5, .phase⟩], none⟩) (by kernel_rfl) rfl (by rfl) fun K hK => ?_
   refine wp_store_part 60 _ _ rfl rfl (rwC (ptF 12 ek)) rfl [] (rwC fun _ _ => 0) [] (rwC (ptF 12 ek)) hG (whole13 _) (whole13 _) rfl (by rw [prC13_length, prC13_length]) (infoW13 _) (rwC_all _) ?_
   intro wS hGS hwS
   replace hB := hwS.below _ _ hge hB
   refine hK.out _ _ hB ?_
   clear hK K
   try simp only [Act.put, putA, putB, putC]
   refine wpB_t (hb := hB) (i := 7) (oi := ⟨some 9, .assign (.tmp 31), 22, "kpke.go:146", #[⟨4, .data⟩, ⟨6, .chain⟩, ⟨0, .phase⟩, ⟨1, .phase⟩, ⟨2, .phase⟩, ⟨3, .phase⟩, ⟨4, .phase⟩, ⟨5, .phase⟩, ⟨6, .phase⟩], none⟩) (v := ?_) ?_ ?_
   rotate_left
   ·intro W hW; go_simp <;> with_reducible rfl
   try simp only [Act.put, putA, putB, putC]
   refine wpB_done (by kernel_rfl) ?_
   go_wp2_with fail
   go_meet
   exact ⟨g, rfl, rfl, hGS, hB⟩
 case rest =>
 obtain ⟨g8, rfl, rfl, r8, hbw⟩ := hcut
 rename World => w1
 go_wp2_with fail
 refine (smallRow_zero _ r HRl.out _ (Rd.kept HR.out hbw) (HT.out.kept hbw)).mono ?_
 rintro e w2 ⟨rfl, b2⟩
 replace r8 := r8.kept b2
 replace hbw := stepB hbw b2
 clear b2
 go_wp2_with fail
 refine (eachF_any _ (slF r) (rwF r) rfl rfl _ (HP.out.kept hbw)).mono ?_
 rintro e w3 ⟨rfl, b3⟩
 replace r8 := r8.kept b3
 replace hbw := stepB hbw b3
 have z3 := hbw.size
 have y8 := r8.lt
 clear b3
 go_wp2_with (refine wpList_alloc_blk rfl 60 rfl (rwC fun _ _ => 0) (allocW13 _) ?_)
 intro w4 r4 b4 s4
 replace r8 := r8.kept b4
 replace hbw := stepB hbw b4
 clear b4 s4
 go_wp2_with (refine wpList_store_part rfl 60 _ _ rfl rfl (rwC (rwF r)) rfl [] (rwC fun _ _ => 0) [] (rwC (rwF r)) r4 (whole13 _) (whole13 _) rfl (by rw [prC13_length, prC13_length]) (infoW13 _) (rwC_all _) ?_)
 intro w5 rA hw5
 replace r8 := r8.wrote hw5 (by omega)
 replace hbw := hw5.below _ _ z3 hbw
 clear r4 hw5 y8 z3
 go_upto_region 5 with fail
 go_cut [11] (fun v wx => ∃ g : Nat, v = .pointer (some ⟨g, 0, none⟩) ∧ BlkAt g 60 (rwC (UF ek r)) wx ∧ Below w5.heap.size w5 wx)
 case first =>
  have hB : Below w5.heap.size w5 w5.drew := (Below.refl _ _).drew
  refine wpB_begin (Below.refl w5.heap.size w5) (by kernel_rfl) ?_
  refine wpB_t (hb := hB) (i := 0) (oi := ⟨some 35, .move (.tmp 9), 22, "kpke.go:148", #[], none⟩) (v := ?_) ?_ ?_
  rotate_left
  ·intro W hW; go_simp <;> with_reducible rfl
  try simp only [Act.put, putA, putB, putC]
  refine wpB_t (hb := hB) (i := 3) (oi := ⟨some 38, .load 60 (.tmp 10), 60, "kpke.go:148", #[], none⟩) (v := ?_) ?_ ?_
  rotate_left
  ·intro W hW; refine Eq.trans (exec_load_part 60 _ (by rfl) (by rfl) [] (rwC (rwF r)) [] rA hW (whole13 _) rfl Tryz.underlying60 rfl (infoW13 _)) ?_; with_reducible rfl
  try simp only [Act.put, putA, putB, putC]
  refine wpB_t (hb := hB) (i := 6) (oi := ⟨some 41, .move (.tmp 2), 22, "kpke.go:148", #[], none⟩) (v := ?_) ?_ ?_
  rotate_left
  ·intro W hW; go_simp <;> with_reducible rfl
  try simp only [Act.put, putA, putB, putC]
  refine wpB_fork (i := 1) (j := 9) (oi := ⟨some 36, .call { callee := .value (.func 44), args := #[.tmp 35], argTypes := #[22] }, 65, "kpke.go:148", #[⟨0, .data⟩], none⟩) (oj := ⟨some 11, .alloc 60, 0, "kpke.go:148", #[], none⟩) (by kernel_rfl) rfl rfl (by rfl) (by rfl) (fun K hK => ?_) (fun K hK => ?_)
  ·go_simp
   refine (matrixOf_any _ (ek.drop 1152) HSl.out _ (Rd.kept HS.out (stepB hbw hB)) (HT.out.kept (stepB hbw hB))).mono ?_
   rintro e wq ⟨mv, rfl, hM, bq⟩
   replace hB := stepB hB bq
   try replace hG := hG.kept bq
   refine hK.out _ _ hB ?_
   clear hK K
   try simp only [Act.put, putA, putB, putC]
   refine wpB_fork (i := 2) (j := 9) (oi := ⟨some 37, .call { callee := .value (.func 108), args := #[.tmp 36], argTypes := #[65] }, 65, "kpke.go:148", #[⟨1, .data⟩, ⟨1, .chain⟩], none⟩) (oj := ⟨some 11, .alloc 60, 0, "kpke.go:148", #[], none⟩) (by kernel_rfl) rfl rfl (by rfl) (by rfl) (fun K hK => ?_) (fun K hK => ?_)
   ·go_simp
    refine (turned_any mv (enF (ek.drop 1152)) _ hM).mono ?_
    rintro e wt ⟨tv, rfl, hMt, bt⟩
    replace hB := stepB hB bt
    try replace hG := hG.kept bt
    clear hM
    refine hK.out _ _ hB ?_
    clear hK K
    try simp only [Act.put, putA, putB, putC]
    refine wpB_fork (i := 4) (j := 9) (oi := ⟨some 39, .call { callee := .value (.func 45), args := #[.tmp 37, .tmp 38], argTypes := #[65, 60] }, 60, "kpke.go:148", #[⟨2, .data⟩, ⟨3, .data⟩, ⟨2, .chain⟩], none⟩) (oj := ⟨some 11, .alloc 60, 0, "kpke.go:148", #[], none⟩) (by kernel_rfl) rfl rfl (by rfl) (by rfl) (fun K hK => ?_) (fun K hK => ?_)
    ·go_simp
     refine (mtimes_to tv _ _ (rwF r) (uF ek r) rfl rfl _ hMt (HP.out.kept (stepB hbw hB))).mono ?_
     rintro e wp ⟨rfl, bp⟩
     replace hB := stepB hB bp
     try replace hG := hG.kept bp
     clear hMt
     refine hK.out _ _ hB ?_
     clear hK K
     try simp only [Act.put, putA, putB, putC]
     refine wpB_fork (i := 5) (j := 9) (oi := ⟨some 40, .call { callee := .value (.func 42), args := #[.tmp 39, .func 71], argTypes := #[60, 63] }, 60, "kpke.go:148", #[⟨4, .data⟩, ⟨4, .chain⟩], none⟩) (oj := ⟨some 11, .alloc 60, 0, "kpke.go:148", #[], none⟩) (by kernel_rfl) rfl rfl (by rfl) (by rfl) (fun K hK => ?_) (fun K hK => ?_)
     ·go_simp
      refine (eachI_any _ (uF ek r) (fun i => inw (uF ek r i)) rfl rfl _ (HP.out.kept (stepB hbw hB))).mono ?_
      rintro e wi ⟨rfl, bi⟩
      replace hB := stepB hB bi
      try replace hG := hG.kept bi
      refine hK.out _ _ hB ?_
      clear hK K
      try simp only [Act.put, putA, putB, putC]
      refine wpB_fork (i := 7) (j := 9) (oi := ⟨some 42, .call { callee := .value (.func 41), args := #[.tmp 41, .const (.int .i64 3)], argTypes := #[22, 3] }, 60, "kpke.go:148", #[⟨6, .data⟩, ⟨5, .chain⟩], none⟩) (oj := ⟨some 11, .alloc 60, 0, "kpke.go:148", #[], none⟩) (by kernel_rfl) rfl rfl (by rfl) (by rfl) (fun K hK => ?_) (fun K hK => ?_)
      ·go_simp
       refine (smallRow_any _ r 3 _ rfl (by decide) HRl.out _ (Rd.kept HR.out (stepB hbw hB)) (HT.out.kept (stepB hbw hB))).mono ?_
       rintro e ws ⟨rfl, bs⟩
       replace hB := stepB hB bs
       try replace hG := hG.kept bs
       refine hK.out _ _ hB ?_
       clear hK K
       try simp only [Act.put, putA, putB, putC]
       refine wpB_fork (i := 8) (j := 9) (oi := ⟨some 43, .call { callee := .value (.func 46), args := #[.tmp 40, .tmp 42], argTypes := #[60, 60] }, 60, "kpke.go:148", #[⟨5, .data⟩, ⟨7, .data⟩, ⟨7, .chain⟩], none⟩) (oj := ⟨some 11, .alloc 60, 0, "kpke.go:148", #[], none⟩) (by kernel_rfl) rfl rfl (by rfl) (by rfl) (fun K hK => ?_) (fun K hK => ?_)
       ·go_simp
        refine (rplus_to _ _ (fun i => inw (uF ek r i)) (fun i => slF r (3 + i)) (UF ek r) rfl rfl rfl _).mono ?_
        rintro e wm ⟨rfl, bm⟩
        replace hB := stepB hB bm
        try replace hG := hG.kept bm
        refine hK.out _ _ hB ?_
        clear hK K
        try simp only [Act.put, putA, putB, putC]
        refine wpB_do (i := 9) (o := ⟨some 11, .alloc 60, 0, "kpke.go:148", #[], none⟩) (by kernel_rfl) rfl (by rfl) fun K hK => ?_
        refine wp_alloc_blk2 hB 60 rfl (rwC fun _ _ => 0) (allocW13 _) ?_
        intro g wN hG hge hBA hBc
        replace hB := hBA
        try replace hM := hM.kept hBc
        try replace hMt := hMt.kept hBc
        refine hK.out _ _ hB ?_
        clear hK K
        try simp only [Act.put, putA, putB, putC]
        refine wpB_do (i := 10) (o := ⟨none, .store 60 (.tmp 11) (.tmp 43), 0, "kpke.go:148", #[⟨9, .data⟩, ⟨8, .data⟩, ⟨8, .chain⟩, ⟨0, .phase⟩, ⟨1, .phase⟩, ⟨2, .phase⟩, ⟨3, .phase⟩, ⟨4, .phase⟩, ⟨5, .phase⟩, ⟨6, .phase⟩, ⟨7, .phase⟩, ⟨8, .phase⟩, ⟨9, .phase⟩], none⟩) (by kernel_rfl) rfl (by rfl) fun K hK => ?_
        refine wp_store_part 60 _ _ rfl rfl (rwC (UF ek r)) rfl [] (rwC fun _ _ => 0) [] (rwC (UF ek r)) hG (whole13 _) (whole13 _) rfl (by rw [prC13_length, prC13_length]) (infoW13 _) (rwC_all _) ?_
        intro wS hGS hwS
        replace hB := hwS.below _ _ hge hB
        refine hK.out _ _ hB ?_
        clear hK K
        try simp only [Act.put, putA, putB, putC]
        refine wpB_done (by kernel_rfl) ?_
        go_wp2_with fail
        go_meet
        exact ⟨g, rfl, hGS, hB⟩
       ·refine wp_alloc_blk2 hB 60 rfl (rwC fun _ _ => 0) (allocW13 _) ?_
        intro g wN hG hge hBA hBc
        replace hB := hBA
        try replace hM := hM.kept hBc
        try replace hMt := hMt.kept hBc
        refine hK.out _ _ hB ?_
        clear hK K
        try simp only [Act.put, putA, putB, putC]
        refine wpB_do (i := 8) (o := ⟨some 43, .call { callee := .value (.func 46), args := #[.tmp 40, .tmp 42], argTypes := #[60, 60] }, 60, "kpke.go:148", #[⟨5, .data⟩, ⟨7, .data⟩, ⟨7, .chain⟩], none⟩) (by kernel_rfl) rfl (by rfl) fun K hK => ?_
        go_simp
        refine (rplus_to _ _ (fun i => inw (uF ek r i)) (fun i => slF r (3 + i)) (UF ek r) rfl rfl rfl _).mono ?_
        rintro e wm ⟨rfl, bm⟩
        replace hB := stepB hB bm
        try replace hG := hG.kept bm
        refine hK.out _ _ hB ?_
        clear hK K
        try simp only [Act.put, putA, putB, putC]
        refine wpB_do (i := 10) (o := ⟨none, .store 60 (.tmp 11) (.tmp 43), 0, "kpke.go:148", #[⟨9, .data⟩, ⟨8, .data⟩, ⟨8, .chain⟩, ⟨0, .phase⟩, ⟨1, .phase⟩, ⟨2, .phase⟩, ⟨3, .phase⟩, ⟨4, .phase⟩, ⟨5, .phase⟩, ⟨6, .phase⟩, ⟨7, .phase⟩, ⟨8, .phase⟩, ⟨9, .phase⟩], none⟩) (by kernel_rfl) rfl (by rfl) fun K hK => ?_
        refine wp_store_part 60 _ _ rfl rfl (rwC (UF ek r)) rfl [] (rwC fun _ _ => 0) [] (rwC (UF ek r)) hG (whole13 _) (whole13 _) rfl (by rw [prC13_length, prC13_length]) (infoW13 _) (rwC_all _) ?_
        intro wS hGS hwS
        replace hB := hwS.below _ _ hge hB
        refine hK.out _ _ hB ?_
        clear hK K
        try simp only [Act.put, putA, putB, putC]
        refine wpB_done (by kernel_rfl) ?_
        go_wp2_with fail
        go_meet
        exact ⟨g, rfl, hGS, hB⟩
      ·refine wp_alloc_blk2 hB 60 rfl (rwC fun _ _ => 0) (allocW13 _) ?_
       intro g wN hG hge hBA hBc
       replace hB := hBA
       try replace hM := hM.kept hBc
       try replace hMt := hMt.kept hBc
       refine hK.out _ _ hB ?_
       clear hK K
       try simp only [Act.put, putA, putB, putC]
       refine wpB_do (i := 7) (o := ⟨some 42, .call { callee := .value (.func 41), args := #[.tmp 41, .const (.int .i64 3)], argTypes := #[22, 3] }, 60, "kpke.go:148", #[⟨6, .data⟩, ⟨5, .chain⟩], none⟩) (by kernel_rfl) rfl (by rfl) fun K hK => ?_
       go_simp
       refine (smallRow_any _ r 3 _ rfl (by decide) HRl.out _ (Rd.kept HR.out (stepB hbw hB)) (HT.out.kept (stepB hbw hB))).mono ?_
       rintro e ws ⟨rfl, bs⟩
       replace hB := stepB hB bs
       try replace hG := hG.kept bs
       refine hK.out _ _ hB ?_
       clear hK K
       try simp only [Act.put, putA, putB, putC]
       refine wpB_do (i := 8) (o := ⟨some 43, .call { callee := .value (.func 46), args := #[.tmp 40, .tmp 42], argTypes := #[60, 60] }, 60, "kpke.go:148", #[⟨5, .data⟩, ⟨7, .data⟩, ⟨7, .chain⟩], none⟩) (by kernel_rfl) rfl (by rfl) fun K hK => ?_
       go_simp
       refine (rplus_to _ _ (fun i => inw (uF ek r i)) (fun i => slF r (3 + i)) (UF ek r) rfl rfl rfl _).mono ?_
       rintro e wm ⟨rfl, bm⟩
       replace hB := stepB hB bm
       try replace hG := hG.kept bm
       refine hK.out _ _ hB ?_
       clear hK K
       try simp only [Act.put, putA, putB, putC]
       refine wpB_do (i := 10) (o := ⟨none, .store 60 (.tmp 11) (.tmp 43), 0, "kpke.go:148", #[⟨9, .data⟩, ⟨8, .data⟩, ⟨8, .chain⟩, ⟨0, .phase⟩, ⟨1, .phase⟩, ⟨2, .phase⟩, ⟨3, .phase⟩, ⟨4, .phase⟩, ⟨5, .phase⟩, ⟨6, .phase⟩, ⟨7, .phase⟩, ⟨8, .phase⟩, ⟨9, .phase⟩], none⟩) (by kernel_rfl) rfl (by rfl) fun K hK => ?_
       refine wp_store_part 60 _ _ rfl rfl (rwC (UF ek r)) rfl [] (rwC fun _ _ => 0) [] (rwC (UF ek r)) hG (whole13 _) (whole13 _) rfl (by rw [prC13_length, prC13_length]) (infoW13 _) (rwC_all _) ?_
       intro wS hGS hwS
       replace hB := hwS.below _ _ hge hB
       refine hK.out _ _ hB ?_
       clear hK K
       try simp only [Act.put, putA, putB, putC]
       refine wpB_done (by kernel_rfl) ?_
       go_wp2_with fail
       go_meet
       exact ⟨g, rfl, hGS, hB⟩
     ·refine wp_alloc_blk2 hB 60 rfl (rwC fun _ _ => 0) (allocW13 _) ?_
      intro g wN hG hge hBA hBc
      replace hB := hBA
      try replace hM := hM.kept hBc
      try replace hMt := hMt.kept hBc
      refine hK.out _ _ hB ?_
      clear hK K
      try simp only [Act.put, putA, putB, putC]
      refine wpB_do (i := 5) (o := ⟨some 40, .call { callee := .value (.func 42), args := #[.tmp 39, .func 71], argTypes := #[60, 63] }, 60, "kpke.go:148", #[⟨4, .data⟩, ⟨4, .chain⟩], none⟩) (by kernel_rfl) rfl (by rfl) fun K hK => ?_
      go_simp
      refine (eachI_any _ (uF ek r) (fun i => inw (uF ek r i)) rfl rfl _ (HP.out.kept (stepB hbw hB))).mono ?_
      rintro e wi ⟨rfl, bi⟩
      replace hB := stepB hB bi
      try replace hG := hG.kept bi
      refine hK.out _ _ hB ?_
      clear hK K
      try simp only [Act.put, putA, putB, putC]
      refine wpB_do (i := 7) (o := ⟨some 42, .call { callee := .value (.func 41), args := #[.tmp 41, .const (.int .i64 3)], argTypes := #[22, 3] }, 60, "kpke.go:148", #[⟨6, .data⟩, ⟨5, .chain⟩], none⟩) (by kernel_rfl) rfl (by rfl) fun K hK => ?_
      go_simp
      refine (smallRow_any _ r 3 _ rfl (by decide) HRl.out _ (Rd.kept HR.out (stepB hbw hB)) (HT.out.kept (stepB hbw hB))).mono ?_
      rintro e ws ⟨rfl, bs⟩
      replace hB := stepB hB bs
      try replace hG := hG.kept bs
      refine hK.out _ _ hB ?_
      clear hK K
      try simp only [Act.put, putA, putB, putC]
      refine wpB_do (i := 8) (o := ⟨some 43, .call { callee := .value (.func 46), args := #[.tmp 40, .tmp 42], argTypes := #[60, 60] }, 60, "kpke.go:148", #[⟨5, .data⟩, ⟨7, .data⟩, ⟨7, .chain⟩], none⟩) (by kernel_rfl) rfl (by rfl) fun K hK => ?_
      go_simp
      refine (rplus_to _ _ (fun i => inw (uF ek r i)) (fun i => slF r (3 + i)) (UF ek r) rfl rfl rfl _).mono ?_
      rintro e wm ⟨rfl, bm⟩
      replace hB := stepB hB bm
      try replace hG := hG.kept bm
      refine hK.out _ _ hB ?_
      clear hK K
      try simp only [Act.put, putA, putB, putC]
      refine wpB_do (i := 10) (o := ⟨none, .store 60 (.tmp 11) (.tmp 43), 0, "kpke.go:148", #[⟨9, .data⟩, ⟨8, .data⟩, ⟨8, .chain⟩, ⟨0, .phase⟩, ⟨1, .phase⟩, ⟨2, .phase⟩, ⟨3, .phase⟩, ⟨4, .phase⟩, ⟨5, .phase⟩, ⟨6, .phase⟩, ⟨7, .phase⟩, ⟨8, .phase⟩, ⟨9, .phase⟩], none⟩) (by kernel_rfl) rfl (by rfl) fun K hK => ?_
      refine wp_store_part 60 _ _ rfl rfl (rwC (UF ek r)) rfl [] (rwC fun _ _ => 0) [] (rwC (UF ek r)) hG (whole13 _) (whole13 _) rfl (by rw [prC13_length, prC13_length]) (infoW13 _) (rwC_all _) ?_
      intro wS hGS hwS
      replace hB := hwS.below _ _ hge hB
      refine hK.out _ _ hB ?_
      clear hK K
      try simp only [Act.put, putA, putB, putC]
      refine wpB_done (by kernel_rfl) ?_
      go_wp2_with fail
      go_meet
      exact ⟨g, rfl, hGS, hB⟩
    ·refine wp_alloc_blk2 hB 60 rfl (rwC fun _ _ => 0) (allocW13 _) ?_
     intro g wN hG hge hBA hBc
     replace hB := hBA
     try replace hM := hM.kept hBc
     try replace hMt := hMt.kept hBc
     refine hK.out _ _ hB ?_
     clear hK K
     try simp only [Act.put, putA, putB, putC]
     refine wpB_do (i := 4) (o := ⟨some 39, .call { callee := .value (.func 45), args := #[.tmp 37, .tmp 38], argTypes := #[65, 60] }, 60, "kpke.go:148", #[⟨2, .data⟩, ⟨3, .data⟩, ⟨2, .chain⟩], none⟩) (by kernel_rfl) rfl (by rfl) fun K hK => ?_
     go_simp
     refine (mtimes_to tv _ _ (rwF r) (uF ek r) rfl rfl _ hMt (HP.out.kept (stepB hbw hB))).mono ?_
     rintro e wp ⟨rfl, bp⟩
     replace hB := stepB hB bp
     try replace hG := hG.kept bp
     clear hMt
     refine hK.out _ _ hB ?_
     clear hK K
     try simp only [Act.put, putA, putB, putC]
     refine wpB_do (i := 5) (o := ⟨some 40, .call { callee := .value (.func 42), args := #[.tmp 39, .func 71], argTypes := #[60, 63] }, 60, "kpke.go:148", #[⟨4, .data⟩, ⟨4, .chain⟩], none⟩) (by kernel_rfl) rfl (by rfl) fun K hK => ?_
     go_simp
     refine (eachI_any _ (uF ek r) (fun i => inw (uF ek r i)) rfl rfl _ (HP.out.kept (stepB hbw hB))).mono ?_
     rintro e wi ⟨rfl, bi⟩
     replace hB := stepB hB bi
     try replace hG := hG.kept bi
     refine hK.out _ _ hB ?_
     clear hK K
     try simp only [Act.put, putA, putB, putC]
     refine wpB_do (i := 7) (o := ⟨some 42, .call { callee := .value (.func 41), args := #[.tmp 41, .const (.int .i64 3)], argTypes := #[22, 3] }, 60, "kpke.go:148", #[⟨6, .data⟩, ⟨5, .chain⟩], none⟩) (by kernel_rfl) rfl (by rfl) fun K hK => ?_
     go_simp
     refine (smallRow_any _ r 3 _ rfl (by decide) HRl.out _ (Rd.kept HR.out (stepB hbw hB)) (HT.out.kept (stepB hbw hB))).mono ?_
     rintro e ws ⟨rfl, bs⟩
     replace hB := stepB hB bs
     try replace hG := hG.kept bs
     refine hK.out _ _ hB ?_
     clear hK K
     try simp only [Act.put, putA, putB, putC]
     refine wpB_do (i := 8) (o := ⟨some 43, .call { callee := .value (.func 46), args := #[.tmp 40, .tmp 42], argTypes := #[60, 60] }, 60, "kpke.go:148", #[⟨5, .data⟩, ⟨7, .data⟩, ⟨7, .chain⟩], none⟩) (by kernel_rfl) rfl (by rfl) fun K hK => ?_
     go_simp
     refine (rplus_to _ _ (fun i => inw (uF ek r i)) (fun i => slF r (3 + i)) (UF ek r) rfl rfl rfl _).mono ?_
     rintro e wm ⟨rfl, bm⟩
     replace hB := stepB hB bm
     try replace hG := hG.kept bm
     refine hK.out _ _ hB ?_
     clear hK K
     try simp only [Act.put, putA, putB, putC]
     refine wpB_do (i := 10) (o := ⟨none, .store 60 (.tmp 11) (.tmp 43), 0, "kpke.go:148", #[⟨9, .data⟩, ⟨8, .data⟩, ⟨8, .chain⟩, ⟨0, .phase⟩, ⟨1, .phase⟩, ⟨2, .phase⟩, ⟨3, .phase⟩, ⟨4, .phase⟩, ⟨5, .phase⟩, ⟨6, .phase⟩, ⟨7, .phase⟩, ⟨8, .phase⟩, ⟨9, .phase⟩], none⟩) (by kernel_rfl) rfl (by rfl) fun K hK => ?_
     refine wp_store_part 60 _ _ rfl rfl (rwC (UF ek r)) rfl [] (rwC fun _ _ => 0) [] (rwC (UF ek r)) hG (whole13 _) (whole13 _) rfl (by rw [prC13_length, prC13_length]) (infoW13 _) (rwC_all _) ?_
     intro wS hGS hwS
     replace hB := hwS.below _ _ hge hB
     refine hK.out _ _ hB ?_
     clear hK K
     try simp only [Act.put, putA, putB, putC]
     refine wpB_done (by kernel_rfl) ?_
     go_wp2_with fail
     go_meet
     exact ⟨g, rfl, hGS, hB⟩
   ·refine wp_alloc_blk2 hB 60 rfl (rwC fun _ _ => 0) (allocW13 _) ?_
    intro g wN hG hge hBA hBc
    replace hB := hBA
    try replace hM := hM.kept hBc
    try replace hMt := hMt.kept hBc
    refine hK.out _ _ hB ?_
    clear hK K
    try simp only [Act.put, putA, putB, putC]
    refine wpB_do (i := 2) (o := ⟨some 37, .call { callee := .value (.func 108), args := #[.tmp 36], argTypes := #[65] }, 65, "kpke.go:148", #[⟨1, .data⟩, ⟨1, .chain⟩], none⟩) (by kernel_rfl) rfl (by rfl) fun K hK => ?_
    go_simp
    refine (turned_any mv (enF (ek.drop 1152)) _ hM).mono ?_
    rintro e wt ⟨tv, rfl, hMt, bt⟩
    replace hB := stepB hB bt
    try replace hG := hG.kept bt
    clear hM
    refine hK.out _ _ hB ?_
    clear hK K
    try simp only [Act.put, putA, putB, putC]
    refine wpB_do (i := 4) (o := ⟨some 39, .call { callee := .value (.func 45), args := #[.tmp 37, .tmp 38], argTypes := #[65, 60] }, 60, "kpke.go:148", #[⟨2, .data⟩, ⟨3, .data⟩, ⟨2, .chain⟩], none⟩) (by kernel_rfl) rfl (by rfl) fun K hK => ?_
    go_simp
    refine (mtimes_to tv _ _ (rwF r) (uF ek r) rfl rfl _ hMt (HP.out.kept (stepB hbw hB))).mono ?_
    rintro e wp ⟨rfl, bp⟩
    replace hB := stepB hB bp
    try replace hG := hG.kept bp
    clear hMt
    refine hK.out _ _ hB ?_
    clear hK K
    try simp only [Act.put, putA, putB, putC]
    refine wpB_do (i := 5) (o := ⟨some 40, .call { callee := .value (.func 42), args := #[.tmp 39, .func 71], argTypes := #[60, 63] }, 60, "kpke.go:148", #[⟨4, .data⟩, ⟨4, .chain⟩], none⟩) (by kernel_rfl) rfl (by rfl) fun K hK => ?_
    go_simp
    refine (eachI_any _ (uF ek r) (fun i => inw (uF ek r i)) rfl rfl _ (HP.out.kept (stepB hbw hB))).mono ?_
    rintro e wi ⟨rfl, bi⟩
    replace hB := stepB hB bi
    try replace hG := hG.kept bi
    refine hK.out _ _ hB ?_
    clear hK K
    try simp only [Act.put, putA, putB, putC]
    refine wpB_do (i := 7) (o := ⟨some 42, .call { callee := .value (.func 41), args := #[.tmp 41, .const (.int .i64 3)], argTypes := #[22, 3] }, 60, "kpke.go:148", #[⟨6, .data⟩, ⟨5, .chain⟩], none⟩) (by kernel_rfl) rfl (by rfl) fun K hK => ?_
    go_simp
    refine (smallRow_any _ r 3 _ rfl (by decide) HRl.out _ (Rd.kept HR.out (stepB hbw hB)) (HT.out.kept (stepB hbw hB))).mono ?_
    rintro e ws ⟨rfl, bs⟩
    replace hB := stepB hB bs
    try replace hG := hG.kept bs
    refine hK.out _ _ hB ?_
    clear hK K
    try simp only [Act.put, putA, putB, putC]
    refine wpB_do (i := 8) (o := ⟨some 43, .call { callee := .value (.func 46), args := #[.tmp 40, .tmp 42], argTypes := #[60, 60] }, 60, "kpke.go:148", #[⟨5, .data⟩, ⟨7, .data⟩, ⟨7, .chain⟩], none⟩) (by kernel_rfl) rfl (by rfl) fun K hK => ?_
    go_simp
    refine (rplus_to _ _ (fun i => inw (uF ek r i)) (fun i => slF r (3 + i)) (UF ek r) rfl rfl rfl _).mono ?_
    rintro e wm ⟨rfl, bm⟩
    replace hB := stepB hB bm
    try replace hG := hG.kept bm
    refine hK.out _ _ hB ?_
    clear hK K
    try simp only [Act.put, putA, putB, putC]
    refine wpB_do (i := 10) (o := ⟨none, .store 60 (.tmp 11) (.tmp 43), 0, "kpke.go:148", #[⟨9, .data⟩, ⟨8, .data⟩, ⟨8, .chain⟩, ⟨0, .phase⟩, ⟨1, .phase⟩, ⟨2, .phase⟩, ⟨3, .phase⟩, ⟨4, .phase⟩, ⟨5, .phase⟩, ⟨6, .phase⟩, ⟨7, .phase⟩, ⟨8, .phase⟩, ⟨9, .phase⟩], none⟩) (by kernel_rfl) rfl (by rfl) fun K hK => ?_
    refine wp_store_part 60 _ _ rfl rfl (rwC (UF ek r)) rfl [] (rwC fun _ _ => 0) [] (rwC (UF ek r)) hG (whole13 _) (whole13 _) rfl (by rw [prC13_length, prC13_length]) (infoW13 _) (rwC_all _) ?_
    intro wS hGS hwS
    replace hB := hwS.below _ _ hge hB
    refine hK.out _ _ hB ?_
    clear hK K
    try simp only [Act.put, putA, putB, putC]
    refine wpB_done (by kernel_rfl) ?_
    go_wp2_with fail
    go_meet
    exact ⟨g, rfl, hGS, hB⟩
  ·refine wp_alloc_blk2 hB 60 rfl (rwC fun _ _ => 0) (allocW13 _) ?_
   intro g wN hG hge hBA hBc
   replace hB := hBA
   try replace hM := hM.kept hBc
   try replace hMt := hMt.kept hBc
   refine hK.out _ _ hB ?_
   clear hK K
   try simp only [Act.put, putA, putB, putC]
   refine wpB_do (i := 1) (o := ⟨some 36, .call { callee := .value (.func 44), args := #[.tmp 35], argTypes := #[22] }, 65, "kpke.go:148", #[⟨0, .data⟩], none⟩) (by kernel_rfl) rfl (by rfl) fun K hK => ?_
   go_simp
   refine (matrixOf_any _ (ek.drop 1152) HSl.out _ (Rd.kept HS.out (stepB hbw hB)) (HT.out.kept (stepB hbw hB))).mono ?_
   rintro e wq ⟨mv, rfl, hM, bq⟩
   replace hB := stepB hB bq
   try replace hG := hG.kept bq
   refine hK.out _ _ hB ?_
   clear hK K
   try simp only [Act.put, putA, putB, putC]
   refine wpB_do (i := 2) (o := ⟨some 37, .call { callee := .value (.func 108), args := #[.tmp 36], argTypes := #[65] }, 65, "kpke.go:148", #[⟨1, .data⟩, ⟨1, .chain⟩], none⟩) (by kernel_rfl) rfl (by rfl) fun K hK => ?_
   go_simp
   refine (turned_any mv (enF (ek.drop 1152)) _ hM).mono ?_
   rintro e wt ⟨tv, rfl, hMt, bt⟩
   replace hB := stepB hB bt
   try replace hG := hG.kept bt
   clear hM
   refine hK.out _ _ hB ?_
   clear hK K
   try simp only [Act.put, putA, putB, putC]
   refine wpB_do (i := 4) (o := ⟨some 39, .call { callee := .value (.func 45), args := #[.tmp 37, .tmp 38], argTypes := #[65, 60] }, 60, "kpke.go:148", #[⟨2, .data⟩, ⟨3, .data⟩, ⟨2, .chain⟩], none⟩) (by kernel_rfl) rfl (by rfl) fun K hK => ?_
   go_simp
   refine (mtimes_to tv _ _ (rwF r) (uF ek r) rfl rfl _ hMt (HP.out.kept (stepB hbw hB))).mono ?_
   rintro e wp ⟨rfl, bp⟩
   replace hB := stepB hB bp
   try replace hG := hG.kept bp
   clear hMt
   refine hK.out _ _ hB ?_
   clear hK K
   try simp only [Act.put, putA, putB, putC]
   refine wpB_do (i := 5) (o := ⟨some 40, .call { callee := .value (.func 42), args := #[.tmp 39, .func 71], argTypes := #[60, 63] }, 60, "kpke.go:148", #[⟨4, .data⟩, ⟨4, .chain⟩], none⟩) (by kernel_rfl) rfl (by rfl) fun K hK => ?_
   go_simp
   refine (eachI_any _ (uF ek r) (fun i => inw (uF ek r i)) rfl rfl _ (HP.out.kept (stepB hbw hB))).mono ?_
   rintro e wi ⟨rfl, bi⟩
   replace hB := stepB hB bi
   try replace hG := hG.kept bi
   refine hK.out _ _ hB ?_
   clear hK K
   try simp only [Act.put, putA, putB, putC]
   refine wpB_do (i := 7) (o := ⟨some 42, .call { callee := .value (.func 41), args := #[.tmp 41, .const (.int .i64 3)], argTypes := #[22, 3] }, 60, "kpke.go:148", #[⟨6, .data⟩, ⟨5, .chain⟩], none⟩) (by kernel_rfl) rfl (by rfl) fun K hK => ?_
   go_simp
   refine (smallRow_any _ r 3 _ rfl (by decide) HRl.out _ (Rd.kept HR.out (stepB hbw hB)) (HT.out.kept (stepB hbw hB))).mono ?_
   rintro e ws ⟨rfl, bs⟩
   replace hB := stepB hB bs
   try replace hG := hG.kept bs
   refine hK.out _ _ hB ?_
   clear hK K
   try simp only [Act.put, putA, putB, putC]
   refine wpB_do (i := 8) (o := ⟨some 43, .call { callee := .value (.func 46), args := #[.tmp 40, .tmp 42], argTypes := #[60, 60] }, 60, "kpke.go:148", #[⟨5, .data⟩, ⟨7, .data⟩, ⟨7, .chain⟩], none⟩) (by kernel_rfl) rfl (by rfl) fun K hK => ?_
   go_simp
   refine (rplus_to _ _ (fun i => inw (uF ek r i)) (fun i => slF r (3 + i)) (UF ek r) rfl rfl rfl _).mono ?_
   rintro e wm ⟨rfl, bm⟩
   replace hB := stepB hB bm
   try replace hG := hG.kept bm
   refine hK.out _ _ hB ?_
   clear hK K
   try simp only [Act.put, putA, putB, putC]
   refine wpB_do (i := 10) (o := ⟨none, .store 60 (.tmp 11) (.tmp 43), 0, "kpke.go:148", #[⟨9, .data⟩, ⟨8, .data⟩, ⟨8, .chain⟩, ⟨0, .phase⟩, ⟨1, .phase⟩, ⟨2, .phase⟩, ⟨3, .phase⟩, ⟨4, .phase⟩, ⟨5, .phase⟩, ⟨6, .phase⟩, ⟨7, .phase⟩, ⟨8, .phase⟩, ⟨9, .phase⟩], none⟩) (by kernel_rfl) rfl (by rfl) fun K hK => ?_
   refine wp_store_part 60 _ _ rfl rfl (rwC (UF ek r)) rfl [] (rwC fun _ _ => 0) [] (rwC (UF ek r)) hG (whole13 _) (whole13 _) rfl (by rw [prC13_length, prC13_length]) (infoW13 _) (rwC_all _) ?_
   intro wS hGS hwS
   replace hB := hwS.below _ _ hge hB
   refine hK.out _ _ hB ?_
   clear hK K
   try simp only [Act.put, putA, putB, putC]
   refine wpB_done (by kernel_rfl) ?_
   go_wp2_with fail
   go_meet
   exact ⟨g, rfl, hGS, hB⟩
 case rest =>
 obtain ⟨gU, rfl, rU, bc⟩ := hcut
 replace r8 := r8.kept bc
 replace rA := rA.kept bc
 replace hbw := stepB hbw bc
 rename World => w6
 clear bc
 go_wp2_with (first | refine wpList_load_part rfl 60 _ rfl rfl [] (rwC (ptF 12 ek)) [] r8 (whole13 _) rfl Tryz.underlying60 rfl (infoW13 _) ?_ | refine wpList_load_part rfl 60 _ rfl rfl [] (rwC (rwF r)) [] rA (whole13 _) rfl Tryz.underlying60 rfl (infoW13 _) ?_)
 refine (rtimes_to _ _ (ptF 12 ek) (rwF r) (vF ek r) rfl rfl rfl _ (HP.out.kept hbw)).mono ?_
 rintro e w7 ⟨rfl, b7⟩
 replace rU := rU.kept b7
 replace hbw := stepB hbw b7
 clear b7 r8 rA
 go_wp2_with fail
 refine (ninverseQ (vF ek r) _ (HP.out.kept hbw)).mono ?_
 rintro e w8 ⟨rfl, b8⟩
 replace rU := rU.kept b8
 replace hbw := stepB hbw b8
 clear b8
 go_wp2_with fail
 refine (small_any _ r 6 _ rfl HRl.out _ (Rd.kept HR.out hbw) (HT.out.kept hbw)).mono ?_
 rintro e w9 ⟨rfl, b9⟩
 replace rU := rU.kept b9
 replace hbw := stepB hbw b9
 clear b9
 obtain ⟨hid, hhid⟩ : ∃ f : Nat → FZ, (fun k => inw (vF ek r) k + slF r 6 k) = f := ⟨_, rfl⟩
 have HHid : Hid _ := hhid
 clear hhid
 go_wp2_with fail
 refine (nplus_to (inw (vF ek r)) (slF r 6) hid HHid.out _).mono ?_
 rintro e wa ⟨rfl, ba⟩
 replace rU := rU.kept ba
 replace hbw := stepB hbw ba
 have za := hbw.size
 have yU := rU.lt
 clear ba
 go_wp2_with (refine wpList_alloc_blk rfl 58 rfl (poC fun _ => 0) (allocP13 _) ?_)
 intro wb rb bb sb
 replace rU := rU.kept bb
 replace hbw := stepB hbw bb
 clear bb sb
 go_wp2_with (refine wpList_store_part rfl 58 _ _ rfl rfl (poC hid) rfl [] (poC fun _ => 0) [] (poC hid) rb (whole13 _) (whole13 _) rfl (by rw [poC_length, poC_length]) (infoP13 _) (poC_all _) ?_)
 intro wc rH hwc
 replace rU := rU.wrote hwc (by omega)
 replace hbw := hwc.below _ _ za hbw
 have HV : Hid ((fun k => hid k + spF 1 (upF 1 m) k) = VF ek m r) := by
  show _ = _
  rw [← HHid.out]
  rfl
 clear rb hwc za yU HHid
 go_upto_region 7 with fail
 go_cut [13] (fun v wx => ∃ g : Nat, v = .pointer (some ⟨g, 0, none⟩) ∧ BlkAt g 58 (poC (VF ek m r)) wx ∧ Below wc.heap.size wc wx)
 case first =>
  have hB : Below wc.heap.size wc wc.drew := (Below.refl _ _).drew
  refine wpB_begin (Below.refl wc.heap.size wc) (by kernel_rfl) ?_
  refine wpB_t (hb := hB) (i := 0) (oi := ⟨some 51, .load 58 (.tmp 12), 58, "kpke.go:150", #[], none⟩) (v := ?_) ?_ ?_
  rotate_left
  ·intro W hW; refine Eq.trans (exec_load_part 58 _ (by rfl) (by rfl) [] (poC hid) [] rH hW (whole13 _) rfl Tryz.underlying58 rfl (infoP13 _)) ?_; with_reducible rfl
  try simp only [Act.put, putA, putB, putC]
  refine wpB_t (hb := hB) (i := 1) (oi := ⟨some 52, .move (.tmp 1), 22, "kpke.go:150", #[], none⟩) (v := ?_) ?_ ?_
  rotate_left
  ·intro W hW; go_simp <;> with_reducible rfl
  try simp only [Act.put, putA, putB, putC]
  refine wpB_fork (i := 2) (j := 5) (oi := ⟨some 53, .call { callee := .value (.func 69), args := #[.const (.int .i64 1), .tmp 52], argTypes := #[3, 22] }, 58, "kpke.go:150", #[⟨1, .data⟩], none⟩) (oj := ⟨some 13, .alloc 58, 0, "kpke.go:150", #[], none⟩) (by kernel_rfl) rfl rfl (by rfl) (by rfl) (fun K hK => ?_) (fun K hK => ?_)
  ·go_simp
   refine (unpacked_any 1 _ rfl (by decide) (by decide) _ m _ (Rd.kept HM.out (stepB hbw hB)) HMl.out).mono ?_
   rintro e wq ⟨rfl, bq⟩
   replace hB := stepB hB bq
   try replace hG := hG.kept bq
   refine hK.out _ _ hB ?_
   clear hK K
   try simp only [Act.put, putA, putB, putC]
   refine wpB_fork (i := 3) (j := 5) (oi := ⟨some 54, .call { callee := .value (.func 68), args := #[.const (.int .i64 1), .tmp 53], argTypes := #[3, 58] }, 58, "kpke.go:150", #[⟨2, .data⟩, ⟨2, .chain⟩], none⟩) (oj := ⟨some 13, .alloc 58, 0, "kpke.go:150", #[], none⟩) (by kernel_rfl) rfl rfl (by rfl) (by rfl) (fun K hK => ?_) (fun K hK => ?_)
   ·go_simp
    refine (sspreadQ 1 _ rfl (upF 1 m) _).mono ?_
    rintro e wt ⟨rfl, bt⟩
    replace hB := stepB hB bt
    try replace hG := hG.kept bt
    refine hK.out _ _ hB ?_
    clear hK K
    try simp only [Act.put, putA, putB, putC]
    refine wpB_fork (i := 4) (j := 5) (oi := ⟨some 55, .call { callee := .value (.func 92), args := #[.tmp 51, .tmp 54], argTypes := #[58, 58] }, 58, "kpke.go:150", #[⟨0, .data⟩, ⟨3, .data⟩, ⟨3, .chain⟩], none⟩) (oj := ⟨some 13, .alloc 58, 0, "kpke.go:150", #[], none⟩) (by kernel_rfl) rfl rfl (by rfl) (by rfl) (fun K hK => ?_) (fun K hK => ?_)
    ·go_simp
     refine (nplus_to hid (spF 1 (upF 1 m)) (VF ek m r) HV.out _).mono ?_
     rintro e wm ⟨rfl, bm⟩
     replace hB := stepB hB bm
     try replace hG := hG.kept bm
     refine hK.out _ _ hB ?_
     clear hK K
     try simp only [Act.put, putA, putB, putC]
     refine wpB_do (i := 5) (o := ⟨some 13, .alloc 58, 0, "kpke.go:150", #[], none⟩) (by kernel_rfl) rfl (by rfl) fun K hK => ?_
     refine wp_alloc_blk2 hB 58 rfl (poC fun _ => 0) (allocP13 _) ?_
     intro g wN hG hge hBA hBc
     replace hB := hBA
     refine hK.out _ _ hB ?_
     clear hK K
     try simp only [Act.put, putA, putB, putC]
     refine wpB_do (i := 6) (o := ⟨none, .store 58 (.tmp 13) (.tmp 55), 0, "kpke.go:150", #[⟨5, .data⟩, ⟨4, .data⟩, ⟨4, .chain⟩, ⟨0, .phase⟩, ⟨1, .phase⟩, ⟨2, .phase⟩, ⟨3, .phase⟩, ⟨4, .phase⟩, ⟨5, .phase⟩], none⟩) (by kernel_rfl) rfl (by rfl) fun K hK => ?_
     refine wp_store_part 58 _ _ rfl rfl (poC (VF ek m r)) rfl [] (poC fun _ => 0) [] (poC (VF ek m r)) hG (whole13 _) (whole13 _) rfl (by rw [poC_length, poC_length]) (infoP13 _) (poC_all _) ?_
     intro wS hGS hwS
     replace hB := hwS.below _ _ hge hB
     refine hK.out _ _ hB ?_
     clear hK K
     try simp only [Act.put, putA, putB, putC]
     refine wpB_done (by kernel_rfl) ?_
     go_wp2_with fail
     go_meet
     exact ⟨g, rfl, hGS, hB⟩
    ·refine wp_alloc_blk2 hB 58 rfl (poC fun _ => 0) (allocP13 _) ?_
     intro g wN hG hge hBA hBc
     replace hB := hBA
     refine hK.out _ _ hB ?_
     clear hK K
     try simp only [Act.put, putA, putB, putC]
     refine wpB_do (i := 4) (o := ⟨some 55, .call { callee := .value (.func 92), args := #[.tmp 51, .tmp 54], argTypes := #[58, 58] }, 58, "kpke.go:150", #[⟨0, .data⟩, ⟨3, .data⟩, ⟨3, .chain⟩], none⟩) (by kernel_rfl) rfl (by rfl) fun K hK => ?_
     go_simp
     refine (nplus_to hid (spF 1 (upF 1 m)) (VF ek m r) HV.out _).mono ?_
     rintro e wm ⟨rfl, bm⟩
     replace hB := stepB hB bm
     try replace hG := hG.kept bm
     refine hK.out _ _ hB ?_
     clear hK K
     try simp only [Act.put, putA, putB, putC]
     refine wpB_do (i := 6) (o := ⟨none, .store 58 (.tmp 13) (.tmp 55), 0, "kpke.go:150", #[⟨5, .data⟩, ⟨4, .data⟩, ⟨4, .chain⟩, ⟨0, .phase⟩, ⟨1, .phase⟩, ⟨2, .phase⟩, ⟨3, .phase⟩, ⟨4, .phase⟩, ⟨5, .phase⟩], none⟩) (by kernel_rfl) rfl (by rfl) fun K hK => ?_
     refine wp_store_part 58 _ _ rfl rfl (poC (VF ek m r)) rfl [] (poC fun _ => 0) [] (poC (VF ek m r)) hG (whole13 _) (whole13 _) rfl (by rw [poC_length, poC_length]) (infoP13 _) (poC_all _) ?_
     intro wS hGS hwS
     replace hB := hwS.below _ _ hge hB
     refine hK.out _ _ hB ?_
     clear hK K
     try simp only [Act.put, putA, putB, putC]
     refine wpB_done (by kernel_rfl) ?_
     go_wp2_with fail
     go_meet
     exact ⟨g, rfl, hGS, hB⟩
   ·refine wp_alloc_blk2 hB 58 rfl (poC fun _ => 0) (allocP13 _) ?_
    intro g wN hG hge hBA hBc
    replace hB := hBA
    refine hK.out _ _ hB ?_
    clear hK K
    try simp only [Act.put, putA, putB, putC]
    refine wpB_do (i := 3) (o := ⟨some 54, .call { callee := .value (.func 68), args := #[.const (.int .i64 1), .tmp 53], argTypes := #[3, 58] }, 58, "kpke.go:150", #[⟨2, .data⟩, ⟨2, .chain⟩], none⟩) (by kernel_rfl) rfl (by rfl) fun K hK => ?_
    go_simp
    refine (sspreadQ 1 _ rfl (upF 1 m) _).mono ?_
    rintro e wt ⟨rfl, bt⟩
    replace hB := stepB hB bt
    try replace hG := hG.kept bt
    refine hK.out _ _ hB ?_
    clear hK K
    try simp only [Act.put, putA, putB, putC]
    refine wpB_do (i := 4) (o := ⟨some 55, .call { callee := .value (.func 92), args := #[.tmp 51, .tmp 54], argTypes := #[58, 58] }, 58, "kpke.go:150", #[⟨0, .data⟩, ⟨3, .data⟩, ⟨3, .chain⟩], none⟩) (by kernel_rfl) rfl (by rfl) fun K hK => ?_
    go_simp
    refine (nplus_to hid (spF 1 (upF 1 m)) (VF ek m r) HV.out _).mono ?_
    rintro e wm ⟨rfl, bm⟩
    replace hB := stepB hB bm
    try replace hG := hG.kept bm
    refine hK.out _ _ hB ?_
    clear hK K
    try simp only [Act.put, putA, putB, putC]
    refine wpB_do (i := 6) (o := ⟨none, .store 58 (.tmp 13) (.tmp 55), 0, "kpke.go:150", #[⟨5, .data⟩, ⟨4, .data⟩, ⟨4, .chain⟩, ⟨0, .phase⟩, ⟨1, .phase⟩, ⟨2, .phase⟩, ⟨3, .phase⟩, ⟨4, .phase⟩, ⟨5, .phase⟩], none⟩) (by kernel_rfl) rfl (by rfl) fun K hK => ?_
    refine wp_store_part 58 _ _ rfl rfl (poC (VF ek m r)) rfl [] (poC fun _ => 0) [] (poC (VF ek m r)) hG (whole13 _) (whole13 _) rfl (by rw [poC_length, poC_length]) (infoP13 _) (poC_all _) ?_
    intro wS hGS hwS
    replace hB := hwS.below _ _ hge hB
    refine hK.out _ _ hB ?_
    clear hK K
    try simp only [Act.put, putA, putB, putC]
    refine wpB_done (by kernel_rfl) ?_
    go_wp2_with fail
    go_meet
    exact ⟨g, rfl, hGS, hB⟩
  ·refine wp_alloc_blk2 hB 58 rfl (poC fun _ => 0) (allocP13 _) ?_
   intro g wN hG hge hBA hBc
   replace hB := hBA
   refine hK.out _ _ hB ?_
   clear hK K
   try simp only [Act.put, putA, putB, putC]
   refine wpB_do (i := 2) (o := ⟨some 53, .call { callee := .value (.func 69), args := #[.const (.int .i64 1), .tmp 52], argTypes := #[3, 22] }, 58, "kpke.go:150", #[⟨1, .data⟩], none⟩) (by kernel_rfl) rfl (by rfl) fun K hK => ?_
   go_simp
   refine (unpacked_any 1 _ rfl (by decide) (by decide) _ m _ (Rd.kept HM.out (stepB hbw hB)) HMl.out).mono ?_
   rintro e wq ⟨rfl, bq⟩
   replace hB := stepB hB bq
   try replace hG := hG.kept bq
   refine hK.out _ _ hB ?_
   clear hK K
   try simp only [Act.put, putA, putB, putC]
   refine wpB_do (i := 3) (o := ⟨some 54, .call { callee := .value (.func 68), args := #[.const (.int .i64 1), .tmp 53], argTypes := #[3, 58] }, 58, "kpke.go:150", #[⟨2, .data⟩, ⟨2, .chain⟩], none⟩) (by kernel_rfl) rfl (by rfl) fun K hK => ?_
   go_simp
   refine (sspreadQ 1 _ rfl (upF 1 m) _).mono ?_
   rintro e wt ⟨rfl, bt⟩
   replace hB := stepB hB bt
   try replace hG := hG.kept bt
   refine hK.out _ _ hB ?_
   clear hK K
   try simp only [Act.put, putA, putB, putC]
   refine wpB_do (i := 4) (o := ⟨some 55, .call { callee := .value (.func 92), args := #[.tmp 51, .tmp 54], argTypes := #[58, 58] }, 58, "kpke.go:150", #[⟨0, .data⟩, ⟨3, .data⟩, ⟨3, .chain⟩], none⟩) (by kernel_rfl) rfl (by rfl) fun K hK => ?_
   go_simp
   refine (nplus_to hid (spF 1 (upF 1 m)) (VF ek m r) HV.out _).mono ?_
   rintro e wm ⟨rfl, bm⟩
   replace hB := stepB hB bm
   try replace hG := hG.kept bm
   refine hK.out _ _ hB ?_
   clear hK K
   try simp only [Act.put, putA, putB, putC]
   refine wpB_do (i := 6) (o := ⟨none, .store 58 (.tmp 13) (.tmp 55), 0, "kpke.go:150", #[⟨5, .data⟩, ⟨4, .data⟩, ⟨4, .chain⟩, ⟨0, .phase⟩, ⟨1, .phase⟩, ⟨2, .phase⟩, ⟨3, .phase⟩, ⟨4, .phase⟩, ⟨5, .phase⟩], none⟩) (by kernel_rfl) rfl (by rfl) fun K hK => ?_
   refine wp_store_part 58 _ _ rfl rfl (poC (VF ek m r)) rfl [] (poC fun _ => 0) [] (poC (VF ek m r)) hG (whole13 _) (whole13 _) rfl (by rw [poC_length, poC_length]) (infoP13 _) (poC_all _) ?_
   intro wS hGS hwS
   replace hB := hwS.below _ _ hge hB
   refine hK.out _ _ hB ?_
   clear hK K
   try simp only [Act.put, putA, putB, putC]
   refine wpB_done (by kernel_rfl) ?_
   go_wp2_with fail
   go_meet
   exact ⟨g, rfl, hGS, hB⟩
 case rest =>
 obtain ⟨gV, rfl, rV, bc⟩ := hcut
 replace rU := rU.kept bc
 replace hbw := stepB hbw bc
 rename World => wd
 clear bc rH HV
 go_wp2_with fail
 refine wpG_begin (by kernel_rfl) ?_
 refine wpG_t (i := 0) (oi := ⟨some 56, .load 60 (.tmp 11), 60, "kpke.go:151", #[], none⟩) (v := ?_) ?_ ?_
 rotate_left
 ·intro W hW; refine Eq.trans (exec_load_part 60 _ (by rfl) (by rfl) [] (rwC (UF ek r)) [] rU.drew hW (whole13 _) rfl Tryz.underlying60 rfl (infoW13 _)) ?_; with_reducible rfl
 try simp only [Act.put, putA, putB, putC]
 refine wpG_t (i := 2) (oi := ⟨some 58, .load 58 (.tmp 13), 58, "kpke.go:151", #[], none⟩) (v := ?_) ?_ ?_
 rotate_left
 ·intro W hW; refine Eq.trans (exec_load_part 58 _ (by rfl) (by rfl) [] (poC (VF ek m r)) [] rV.drew hW (whole13 _) rfl Tryz.underlying58 rfl (infoP13 _)) ?_; with_reducible rfl
 try simp only [Act.put, putA, putB, putC]
 refine wpG_do (i := 1) (o := ⟨some 57, .call { callee := .value (.func 109), args := #[.const (.int .i64 10), .tmp 56], argTypes := #[3, 60] }, 22, "kpke.go:151", #[⟨0, .data⟩], none⟩) (by kernel_rfl) rfl (by rfl) fun K hK => ?_
 go_simp
 refine (rounded_any 10 _ rfl (by decide) (by decide) _ (UF ek r) rfl _).mono ?_
 rintro e wp ⟨vp, rfl, hNp⟩
 obtain ⟨ap, cp, rfl, -⟩ := id hNp.rd
 refine hK.out _ _ hNp.2 ?_
 clear hK K
 try simp only [Act.put, putA, putB, putC]
 refine wpG_do (i := 3) (o := ⟨some 59, .call { callee := .value (.func 73), args := #[.const (.int .i64 4), .tmp 58], argTypes := #[3, 58] }, 58, "kpke.go:151", #[⟨2, .data⟩, ⟨1, .chain⟩], none⟩) (by kernel_rfl) rfl (by rfl) fun K hK => ?_
 go_simp
 refine (ssqueezeQ 4 (by decide) _ rfl (VF ek m r) _).mono ?_
 rintro e wq ⟨rfl, bq⟩
 refine hK.out _ _ bq ?_
 clear hK K
 try simp only [Act.put, putA, putB, putC]
 refine wpG_do (i := 4) (o := ⟨some 60, .call { callee := .value (.func 59), args := #[.const (.int .i64 4), .tmp 59], argTypes := #[3, 58] }, 22, "kpke.go:151", #[⟨3, .data⟩, ⟨3, .chain⟩], none⟩) (by kernel_rfl) rfl (by rfl) fun K hK => ?_
 go_simp
 refine (spackQ 4 _ rfl (by decide) (by decide) (sqF 4 (VF ek m r)) _).mono ?_
 rintro e wk ⟨vk, rfl, hNk⟩
 obtain ⟨ak, ck, rfl, -⟩ := id hNk.rd
 have hL := RdL.pair12 (e := 22) (b := wk.heap.size) rfl ((hNp.rd.kept bq).kept hNk.2) hNk.rd
 have g1 := growB (w := wk) (.cells #[.slice ap (rpL 10 (fun i => sqF 10 (UF ek r i)) 3).length cp, .slice ak (pkL 4 (fzF (sqF 4 (VF ek m r)))).length ck] 22)
 refine hK.out _ _ hNk.2 ?_
 clear hK K
 try simp only [Act.put, putA, putB, putC]
 refine wpG_do (i := 5) (o := ⟨some 61, .buildSlice 68 2 #[(0, .tmp 57), (1, .tmp 60)], 68, "kpke.go:151", #[⟨1, .data⟩, ⟨4, .data⟩], none⟩) (by kernel_rfl) rfl (by rfl) fun K hK => ?_
 go_simp
 refine hK.out _ _ g1 ?_
 clear hK K
 try simp only [Act.put, putA, putB, putC]
 refine wpG_do (i := 6) (o := ⟨some 62, .call { callee := .value (.func 20), args := #[.tmp 61], argTypes := #[68] }, 22, "kpke.go:151", #[⟨5, .data⟩, ⟨4, .chain⟩], none⟩) (by kernel_rfl) rfl (by rfl) fun K hK => ?_
 go_simp
 refine (join_any _ _ _ _ hL (tot_two _ _ (by rw [rpL_length]; decide) (by rw [pkL_length]; decide))).mono ?_
 rintro e wj ⟨vj, rfl, hNj⟩
 refine hK.out _ _ hNj.2 ?_
 clear hK K
 try simp only [Act.put, putA, putB, putC]
 refine wpG_t (i := 7) (oi := ⟨some 6, .assign (.tmp 62), 22, "kpke.go:151", #[⟨6, .data⟩, ⟨6, .chain⟩, ⟨0, .phase⟩, ⟨1, .phase⟩, ⟨2, .phase⟩, ⟨3, .phase⟩, ⟨4, .phase⟩, ⟨5, .phase⟩, ⟨6, .phase⟩], none⟩) (v := ?_) ?_ ?_
 rotate_left
 ·intro W hW; go_simp <;> with_reducible rfl
 try simp only [Act.put, putA, putB, putC]
 refine wpG_t (i := 8) (oi := ⟨some 7, .assign (.const (.int .i64 0)), 24, "kpke.go:151", #[⟨7, .chain⟩, ⟨0, .phase⟩, ⟨1, .phase⟩, ⟨2, .phase⟩, ⟨3, .phase⟩, ⟨4, .phase⟩, ⟨5, .phase⟩, ⟨6, .phase⟩, ⟨7, .phase⟩], none⟩) (v := ?_) ?_ ?_
 rotate_left
 ·intro W hW; go_simp <;> with_reducible rfl
 try simp only [Act.put, putA, putB, putC]
 refine wpG_done (by kernel_rfl) ?_
 have hO := hNj.two13.from (stepB (stepB (stepB (stepB hbw.drew hNp.2) bq) hNk.2) g1)
 rw [HC.out] at hO
 clear hL g1 hNp hNk hNj rU rV
 go_wp2
 go_ret2
 exact ⟨vj, rfl, hO⟩
end Go.Proofs.YtmhbjaampobcbaaGreatDoor
