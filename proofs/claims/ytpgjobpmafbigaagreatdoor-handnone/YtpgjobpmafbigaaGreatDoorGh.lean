/- What functions of the program, or of the reference, answer: contracts; several texts in one. -/
import Derived.Test.YtpgjobpmafbigaaGreatDoorGg
import Derived.Deep.DeepCutAuto
import Derived.Test.YtpgjobpmafbigaaGreatDoorGa
import Derived.Test.YtpgjobpmafbigaaGreatDoorBase
import Derived.Test.YtpgjobpmafbigaaGreatDoorGf
import Derived.Test.YtpgjobpmafbigaaGreatDoorGd

namespace Go.Proofs.YtpgjobpmafbigaaGreatDoor
open Go.ChangeShapes Go.WideShapes Go.ChangeAt Go.RowKit
set_option linter.unusedSimpArgs false
set_option linter.unusedVariables false

theorem shift_step (low a x1 high b:List Nat) (i s0 s1 s2 s3 c1:Nat) (hx:x1=[s0,s1,s2,s3]) (hl:El4 low) (ha:El4 a) (hi:i<4) (hz:∀j,i≤j→low.getD j 0=0) (hs:wv x1+115792089237316195423570985008687907853269984665640564039457584007913129639936 * c1=wv high+a.getD i 0 * wv b)
  (h:wv low+18446744073709551616 ^ i * wv high=wv (a.take i) * wv b):
  wv (low.set i s0)+18446744073709551616 ^ (i+1) * wv [s1,s2,s3,c1]=wv (a.take (i+1)) * wv b∧∀j,i+1≤j→(low.set i s0).getD j 0=0:=by
 refine⟨?_,fun j hj=>?_⟩
 ·rw[hx,wv_shift] at hs
  exact ml_step low a i s0 (wv [s1,s2,s3,c1]) (wv high) (wv b) (by rw[hl.1];exact hi) (by rw[ha.1];exact hi) (hz i (Nat.le_refl _)) hs h
 ·have:=hz j (by omega)
  rw[List.getD_eq_getElem?_getD,List.getElem?_set_ne (by omega),←List.getD_eq_getElem?_getD]
  exact this

set_option maxRecDepth 100000 in
set_option maxHeartbeats 4000000 in
theorem fmul_any (A B:Array Value) (a b:List Nat) (ha:El4 a) (hb:El4 b) (hA:A=((nI a).map (Value.int .u64)).toArray) (hB:B=((nI b).map (Value.int .u64)).toArray) (w:World):
  Calls Tryz.prog 319 #[.agg A,.agg B] w fun e w'=>∃r:List Nat,e=.returned (elV r)∧El4 r∧wv r % pN=wv a * wv b % pN∧Below w.heap.size w w':=by
 go_enter Tryz.func319,Tryz.ntmps319
 go_wp2_with (refine wpList_box_row (k:=.u64) rfl 157 _ rfl (nI a) (by rw[←hA];rfl) ha.ne (elMax ha) ?_)
 intro w1 r1 b1 s1
 rw[ha.len] at r1
 go_wp2_with (refine wpList_box_row (k:=.u64) rfl 157 _ rfl (nI b) (by rw[←hB];rfl) hb.ne (elMax hb) ?_)
 intro w2 r2 b2 s2
 rw[hb.len] at r2
 go_wp2_with (refine wpList_alloc_row (k:=.u64) rfl 157 rfl (nI z4) (alloc_el _) z4_el.ne (elMax z4_el) ?_)
 intro w3 r3 b3 s3
 rw[z4_el.len] at r3
 go_wp2_with (refine wpList_alloc_row (k:=.u64) rfl 157 rfl (nI z4) (alloc_el _) z4_el.ne (elMax z4_el) ?_)
 intro w4 r4 b4 s4
 rw[z4_el.len] at r4
 go_wp2_with (refine wpList_alloc_row (k:=.u64) rfl 157 rfl (nI z4) (alloc_el _) z4_el.ne (elMax z4_el) ?_)
 intro w5 r5 b5 s5
 rw[z4_el.len] at r5
 have hr1:=(((r1.kept b2).kept b3).kept b4).kept b5
 have hr2:=((r2.kept b3).kept b4).kept b5
 have hr3:=(r3.kept b4).kept b5
 have hr4:=r4.kept b5
 have hbw:=stepB (stepB (stepB (stepB b1 b2) b3) b4) b5
 have n1:w.heap.size<w1.heap.size:=by have:=s1.out;omega
 have n2:w1.heap.size<w2.heap.size:=by have:=s2.out;omega
 have n3:w2.heap.size<w3.heap.size:=by have:=s3.out;omega
 have n4:w3.heap.size<w4.heap.size:=by have:=s4.out;omega
 have HA:Hid (El4 a):=ha
 have HB:Hid (El4 b):=hb
 clear r1 r2 r3 r4 b1 b2 b3 b4 b5 s1 s2 s3 s4 s5 hA hB ha hb
 go_wp2
 go_loopw [10] (fun iv wx=>∃(i:Nat) (low high:List Nat),i≤4∧iv=.int .i64 (i:Int)∧Hid (El4 low)∧Hid (El4 high)∧Hid (wv low+18446744073709551616 ^ i * wv high=wv (a.take i) * wv b)∧Hid (∀j,i≤j→low.getD j 0=0)∧
  RowAt .u64 157 w.heap.size 4 (nI a) wx∧RowAt .u64 157 w1.heap.size 4 (nI b) wx∧RowAt .u64 157 w2.heap.size 4 (nI z4) wx∧RowAt .u64 157 w3.heap.size 4 (nI low) wx∧RowAt .u64 157 w4.heap.size 4 (nI high) wx∧Below w.heap.size w wx) (fun iv _=>4 - (intOf iv).toNat)
 case atStart=>exact⟨0,z4,z4,by omega,rfl,z4_el,z4_el,(by show _=_;rw[z4_wv,List.take_zero,Nat.mul_zero];show 0=wv [] * wv b;simp[wv]),(fun j _=>z4_get j),hr1,hr2,hr3,hr4,r5,hbw⟩
 case round=>
  obtain⟨i,low,high,hi,rfl,HL,HH,HE,HZ,ra,rb,rz,rl,rh,hbx⟩:=hrel
  clear hr1 hr2 hr3 hr4 r5 hbw
  by_cases hlt:i<4
  ·have hd:decide ((i:Int)<4)=true:=decide_eq_true (by omega)
   have hiI:(i:Int)<4:=by omega
   have hca:=ra.cell (j:=i) (by rw[HA.out.len];exact hlt)
   rw[nI_get] at hca
   have hq:=HA.out.get i
   have hgw:=rh.lt
   have HS:Hid (∀(x1:List Nat) (s0 s1 s2 s3 c1:Nat),x1=[s0,s1,s2,s3]→wv x1+115792089237316195423570985008687907853269984665640564039457584007913129639936 * c1=wv high+a.getD i 0 * wv b→
     wv (low.set i s0)+18446744073709551616 ^ (i+1) * wv [s1,s2,s3,c1]=wv (a.take (i+1)) * wv b∧∀j,i+1≤j→(low.set i s0).getD j 0=0):=by
    intro x1 s0 s1 s2 s3 c1 hx hs
    exact shift_step low a x1 high b i s0 s1 s2 s3 c1 hx HL.out HA.out hlt HZ.out hs HE.out
   generalize a.getD i 0=q at hca hq HS
   clear HE HZ
   go_wp2_with fail
   have hB:Below wr.heap.size wr wr.drew:=(Below.refl _ _).drew
   refine wpB_begin (Below.refl wr.heap.size wr) (by kernel_rfl) ?_
   refine bU_ hB 0 rfl ⟨_,by intro W hW;refine Eq.trans (exec_load_row' 157 _ (by rfl) (by rfl) rh hW _ Tryz.underlying157 rfl (elInfo HH.out)) ?_;with_reducible rfl,?_⟩
   try simp only[Act.put,pA_,pB_,pC_]
   refine bU_ hB 1 rfl ⟨_,by intro W hW;go_simp<;>with_reducible rfl,?_⟩
   try simp only[Act.put,pA_,pB_,pC_]
   refine bU_ hB 2 rfl ⟨_,by intro W hW;go_simp<;>with_reducible rfl,?_⟩
   try simp only[Act.put,pA_,pB_,pC_]
   refine bU_ hB 3 rfl ⟨_,by intro W hW;have hcW:=cellK hca hW;go_simp<;>with_reducible rfl,?_⟩
   try simp only[Act.put,pA_,pB_,pC_]
   refine bU_ hB 4 rfl ⟨_,by intro W hW;refine Eq.trans (exec_load_row' 157 _ (by rfl) (by rfl) rb hW _ Tryz.underlying157 rfl (elInfo HB.out)) ?_;with_reducible rfl,?_⟩
   try simp only[Act.put,pA_,pB_,pC_]
   refine bF_ 5 9 (fun K hK=>?_) (fun K hK=>?_)
   ·go_simp
    refine(addTimes_any _ _ high b q _ HH.out HB.out hq rfl rfl rfl _).mono ?_
    rintro e w6 ⟨x1,c1,rfl,hx1,hc1,he1,b6⟩
    replace hB:=stepB hB b6
    try replace hG:=hG.kept b6
    refine hK.out _ _ hB ?_
    clear hK K
    try simp only[Act.put,pA_,pB_,pC_]
    refine bU_ hB 6 rfl ⟨_,by intro W hW;go_simp<;>with_reducible rfl,?_⟩
    try simp only[Act.put,pA_,pB_,pC_]
    refine bU_ hB 7 rfl ⟨_,by intro W hW;go_simp<;>with_reducible rfl,?_⟩
    try simp only[Act.put,pA_,pB_,pC_]
    refine bU_ hB 8 rfl ⟨_,by intro W hW;go_simp<;>with_reducible rfl,?_⟩
    try simp only[Act.put,pA_,pB_,pC_]
    refine bD_ 9 fun K hK=>?_
    refine wp_alloc_el hB rfl ?_
    intro g w7 hG hge hB7
    replace hB:=hB7
    refine hK.out _ _ hB ?_
    clear hK K
    try simp only[Act.put,pA_,pB_,pC_]
    refine bD_ 10 fun K hK=>?_
    refine wp_store_el (l:=z4) (l2:=x1) hB hge _ _ rfl rfl rfl hG z4_el hx1 ?_
    intro w8 hG8 hB8
    replace hB:=hB8
    refine hK.out _ _ hB ?_
    clear hK K
    try simp only[Act.put,pA_,pB_,pC_]
    refine bU_ hB 11 rfl ⟨_,by intro W hW;go_simp<;>with_reducible rfl,?_⟩
    try simp only[Act.put,pA_,pB_,pC_]
    refine wpB_done (by kernel_rfl) ?_
    obtain⟨s0,s1,s2,s3,hxe,h0,h1,h2,h3⟩:=hx1.four
    obtain⟨f1,f2⟩:=HS.out x1 s0 s1 s2 s3 c1 hxe he1
    have F1:Hid _:=f1
    have F2:Hid (∀j,i+1≤j→(low.set i s0).getD j 0=0):=f2
    have HL2:Hid (El4 (low.set i s0)):=HL.out.set i h0
    have hH2:El4 [s1,s2,s3,c1]:=El4.mk4 h1 h2 h3 hc1
    rw[hxe] at hG8
    have hne:g≠w3.heap.size:=by omega
    have hne':w3.heap.size≠g:=by omega
    have k0:w8.cell? ⟨g,0,none⟩=some (.int .u64 (s0:Int)):=hG8.cell (j:=0) (by simp[nI])
    have k1:w8.cell? ⟨g,1,none⟩=some (.int .u64 (s1:Int)):=hG8.cell (j:=1) (by simp[nI])
    have k2:w8.cell? ⟨g,2,none⟩=some (.int .u64 (s2:Int)):=hG8.cell (j:=2) (by simp[nI])
    have k3:w8.cell? ⟨g,3,none⟩=some (.int .u64 (s3:Int)):=hG8.cell (j:=3) (by simp[nI])
    have rl8:=rl.kept hB
    have hfl:=rl8.free i
    have hcl:=rl8.cell (j:=i) (by rw[HL.out.len];exact hlt)
    have rl9:=rl8.set i (s0:Int)
    rw[nI_set] at rl9
    have ra9:=(ra.kept hB).other (p:=⟨w3.heap.size,i,none⟩) (by show w3.heap.size≠_;omega) (.int .u64 (s0:Int))
    have rb9:=(rb.kept hB).other (p:=⟨w3.heap.size,i,none⟩) (by show w3.heap.size≠_;omega) (.int .u64 (s0:Int))
    have rz9:=(rz.kept hB).other (p:=⟨w3.heap.size,i,none⟩) (by show w3.heap.size≠_;omega) (.int .u64 (s0:Int))
    have rh9:=(rh.kept hB).other (p:=⟨w3.heap.size,i,none⟩) (by show w3.heap.size≠_;omega) (.int .u64 (s0:Int))
    have hb9:=(Wrote.set w3.heap.size i w8 (.int .u64 (s0:Int))).below _ _ (by omega) (stepB hbx hB)
    clear rl8 hG8 ra rb rz rl rh hbx hca he1 hxe f1 f2 HS hB
    go_wp2_with (refine wpList_store_row rfl 157 _ _ rfl (nI [s1,s2,s3,c1]) rfl rfl rh9 (by rw[HH.out.len,hH2.len]) (elInfo HH.out) ?_)
    intro w10 rh10 hw10
    replace ra9:=ra9.wrote hw10 (by omega)
    replace rb9:=rb9.wrote hw10 (by omega)
    replace rz9:=rz9.wrote hw10 (by omega)
    replace rl9:=rl9.wrote hw10 (by omega)
    replace hb9:=hw10.below _ _ (by omega) hb9
    clear rh9 hw10 k0 k1 k2 k3 hfl hcl
    go_wp2
    go_roundw
    case rel=>exact⟨i+1,low.set i s0,[s1,s2,s3,c1],by omega,by go_num,HL2,hH2,F1,F2,ra9,rb9,rz9,rl9,rh10,hb9⟩
    case measure=>simp[intOf]<;>omega
   ·refine wp_alloc_el hB rfl ?_
    intro g w7 hG hge hB7
    replace hB:=hB7
    refine hK.out _ _ hB ?_
    clear hK K
    try simp only[Act.put,pA_,pB_,pC_]
    refine bD_ 5 fun K hK=>?_
    go_simp
    refine(addTimes_any _ _ high b q _ HH.out HB.out hq rfl rfl rfl _).mono ?_
    rintro e w6 ⟨x1,c1,rfl,hx1,hc1,he1,b6⟩
    replace hB:=stepB hB b6
    try replace hG:=hG.kept b6
    refine hK.out _ _ hB ?_
    clear hK K
    try simp only[Act.put,pA_,pB_,pC_]
    refine bU_ hB 6 rfl ⟨_,by intro W hW;go_simp<;>with_reducible rfl,?_⟩
    try simp only[Act.put,pA_,pB_,pC_]
    refine bU_ hB 7 rfl ⟨_,by intro W hW;go_simp<;>with_reducible rfl,?_⟩
    try simp only[Act.put,pA_,pB_,pC_]
    refine bU_ hB 8 rfl ⟨_,by intro W hW;go_simp<;>with_reducible rfl,?_⟩
    try simp only[Act.put,pA_,pB_,pC_]
    refine bD_ 10 fun K hK=>?_
    refine wp_store_el (l:=z4) (l2:=x1) hB hge _ _ rfl rfl rfl hG z4_el hx1 ?_
    intro w8 hG8 hB8
    replace hB:=hB8
    refine hK.out _ _ hB ?_
    clear hK K
    try simp only[Act.put,pA_,pB_,pC_]
    refine bU_ hB 11 rfl ⟨_,by intro W hW;go_simp<;>with_reducible rfl,?_⟩
    try simp only[Act.put,pA_,pB_,pC_]
    refine wpB_done (by kernel_rfl) ?_
    obtain⟨s0,s1,s2,s3,hxe,h0,h1,h2,h3⟩:=hx1.four
    obtain⟨f1,f2⟩:=HS.out x1 s0 s1 s2 s3 c1 hxe he1
    have F1:Hid _:=f1
    have F2:Hid (∀j,i+1≤j→(low.set i s0).getD j 0=0):=f2
    have HL2:Hid (El4 (low.set i s0)):=HL.out.set i h0
    have hH2:El4 [s1,s2,s3,c1]:=El4.mk4 h1 h2 h3 hc1
    rw[hxe] at hG8
    have hne:g≠w3.heap.size:=by omega
    have hne':w3.heap.size≠g:=by omega
    have k0:w8.cell? ⟨g,0,none⟩=some (.int .u64 (s0:Int)):=hG8.cell (j:=0) (by simp[nI])
    have k1:w8.cell? ⟨g,1,none⟩=some (.int .u64 (s1:Int)):=hG8.cell (j:=1) (by simp[nI])
    have k2:w8.cell? ⟨g,2,none⟩=some (.int .u64 (s2:Int)):=hG8.cell (j:=2) (by simp[nI])
    have k3:w8.cell? ⟨g,3,none⟩=some (.int .u64 (s3:Int)):=hG8.cell (j:=3) (by simp[nI])
    have rl8:=rl.kept hB
    have hfl:=rl8.free i
    have hcl:=rl8.cell (j:=i) (by rw[HL.out.len];exact hlt)
    have rl9:=rl8.set i (s0:Int)
    rw[nI_set] at rl9
    have ra9:=(ra.kept hB).other (p:=⟨w3.heap.size,i,none⟩) (by show w3.heap.size≠_;omega) (.int .u64 (s0:Int))
    have rb9:=(rb.kept hB).other (p:=⟨w3.heap.size,i,none⟩) (by show w3.heap.size≠_;omega) (.int .u64 (s0:Int))
    have rz9:=(rz.kept hB).other (p:=⟨w3.heap.size,i,none⟩) (by show w3.heap.size≠_;omega) (.int .u64 (s0:Int))
    have rh9:=(rh.kept hB).other (p:=⟨w3.heap.size,i,none⟩) (by show w3.heap.size≠_;omega) (.int .u64 (s0:Int))
    have hb9:=(Wrote.set w3.heap.size i w8 (.int .u64 (s0:Int))).below _ _ (by omega) (stepB hbx hB)
    clear rl8 hG8 ra rb rz rl rh hbx hca he1 hxe f1 f2 HS hB
    go_wp2_with (refine wpList_store_row rfl 157 _ _ rfl (nI [s1,s2,s3,c1]) rfl rfl rh9 (by rw[HH.out.len,hH2.len]) (elInfo HH.out) ?_)
    intro w10 rh10 hw10
    replace ra9:=ra9.wrote hw10 (by omega)
    replace rb9:=rb9.wrote hw10 (by omega)
    replace rz9:=rz9.wrote hw10 (by omega)
    replace rl9:=rl9.wrote hw10 (by omega)
    replace hb9:=hw10.below _ _ (by omega) hb9
    clear rh9 hw10 k0 k1 k2 k3 hfl hcl
    go_wp2
    go_roundw
    case rel=>exact⟨i+1,low.set i s0,[s1,s2,s3,c1],by omega,by go_num,HL2,hH2,F1,F2,ra9,rb9,rz9,rl9,rh10,hb9⟩
    case measure=>simp[intOf]<;>omega
  ·have hie:i=4:=by omega
   have hd:decide ((i:Int)<4)=false:=decide_eq_false (by omega)
   have hiI:(4:Int)≤(i:Int):=by omega
   have HE2:Hid (wv low+115792089237316195423570985008687907853269984665640564039457584007913129639936 * wv high=wv a * wv b):=by
    have:=HE.out
    rw[hie,List.take_of_length_le (by rw[HA.out.1];exact Nat.le_refl _)] at this
    exact this
   have hL:=HL.out
   have hH:=HH.out
   clear HE hie HZ ra rb
   go_wp2_with (first|refine wpList_load_row rfl 157 _ rfl rfl rl _ Tryz.underlying157 rfl (elInfo hL) ?_|refine wpList_load_row rfl 157 _ rfl rfl rh _ Tryz.underlying157 rfl (elInfo hH) ?_)
   refine(addTimes_any _ _ low high 38 _ hL hH (by decide) rfl rfl rfl _).mono ?_
   rintro e w6 ⟨x1,c1,rfl,hx1,hc1,he1,b6⟩
   have HE1:Hid _:=mul_math _ _ _ _ _ _ HE2.out he1
   replace rz:=rz.kept b6
   replace hbx:=stepB hbx b6
   clear he1 b6 rl rh HE2
   go_wp2_with fail
   refine(fold_any _ x1 c1 _ hx1 hc1 rfl rfl _).mono ?_
   rintro e w7 ⟨x2,rfl,hx2,he2,b7⟩
   have HF:Hid (wv x2 % pN=wv a * wv b % pN):=by
    show _=_
    rw[he2]
    exact HE1.out
   replace rz:=rz.kept b7
   replace hbx:=stepB hbx b7
   clear he2 HE1 b7
   go_wp2_with (refine wpList_store_row rfl 157 _ _ rfl (nI x2) rfl rfl rz (by rw[z4_el.len,hx2.len]) (elInfo z4_el) ?_;intro w8 r8 hw8)
   refine bodyPost_row (p:=4) (ty:=157) rfl rfl rfl r8 Tryz.underlying157 rfl (elInfo hx2) ?_
   exact⟨x2,rfl,hx2,HF.out,hw8.below _ _ (by omega) hbx⟩
set_option maxRecDepth 100000 in
set_option maxHeartbeats 2000000 in
theorem fsquare_any (A:Array Value) (a:List Nat) (ha:El4 a) (hA:A=((nI a).map (Value.int .u64)).toArray) (w:World):
  Calls Tryz.prog 356 #[.agg A] w fun e w'=>∃r:List Nat,e=.returned (elV r)∧El4 r∧wv r % pN=wv a * wv a % pN∧Below w.heap.size w w':=by
 go_enter Tryz.func356,Tryz.ntmps356
 go_wp2_with (refine wpList_box_row (k:=.u64) rfl 157 _ rfl (nI a) (by rw[←hA];rfl) ha.ne (elMax ha) ?_)
 intro w1 r1 b1 s1
 rw[ha.len] at r1
 go_wp2_with (refine wpList_alloc_row (k:=.u64) rfl 157 rfl (nI z4) (alloc_el _) z4_el.ne (elMax z4_el) ?_)
 intro w2 r2 b2 s2
 rw[z4_el.len] at r2
 replace r1:=r1.kept b2
 have hbw:=stepB b1 b2
 have n1:w.heap.size<w1.heap.size:=by have:=s1.out;omega
 clear b1 b2 s1 s2
 go_wp2_with (refine wpList_load_row rfl 157 _ rfl rfl r1 _ Tryz.underlying157 rfl (elInfo ha) ?_)
 refine(fmul_any _ _ a a ha ha rfl rfl _).mono ?_
 rintro e w3 ⟨x,rfl,hx,he,b3⟩
 have HE:Hid _:=he
 replace r2:=r2.kept b3
 replace hbw:=stepB hbw b3
 clear he b3 r1
 go_wp2_with (refine wpList_store_row rfl 157 _ _ rfl (nI x) rfl rfl r2 (by rw[z4_el.len,hx.len]) (elInfo z4_el) ?_;intro w4 r4 hw4)
 refine bodyPost_row (p:=2) (ty:=157) rfl rfl rfl r4 Tryz.underlying157 rfl (elInfo hx) ?_
 exact⟨x,rfl,hx,HE.out,hw4.below _ _ (by omega) hbw⟩

set_option maxRecDepth 100000 in
set_option maxHeartbeats 2000000 in
theorem squares_any (A:Array Value) (a:List Nat) (n:Nat) (N:Int) (ha:El4 a) (hn:n<1000000) (hA:A=((nI a).map (Value.int .u64)).toArray) (hN:N=(n:Int)) (w:World):
  Calls Tryz.prog 361 #[.agg A,.int .i64 N] w fun e w'=>∃r:List Nat,e=.returned (elV r)∧El4 r∧wv r % pN=wv a ^ 2 ^ n % pN∧Below w.heap.size w w':=by
 subst hN
 go_enter Tryz.func361,Tryz.ntmps361
 go_wp2_with (refine wpList_box_row (k:=.u64) rfl 157 _ rfl (nI a) (by rw[←hA];rfl) ha.ne (elMax ha) ?_)
 intro w1 r1 b1 s1
 rw[ha.len] at r1
 go_wp2_with (refine wpList_alloc_row (k:=.u64) rfl 157 rfl (nI z4) (alloc_el _) z4_el.ne (elMax z4_el) ?_)
 intro w2 r2 b2 s2
 rw[z4_el.len] at r2
 replace r1:=r1.kept b2
 have hbw:=stepB b1 b2
 have n1:w.heap.size<w1.heap.size:=by have:=s1.out;omega
 have HA:Hid (El4 a):=ha
 clear b1 b2 s1 s2 hA ha
 go_wp2
 go_loopw [6] (fun iv wx=>∃(i:Nat) (cur:List Nat),i≤n∧iv=.int .i64 (i:Int)∧Hid (El4 cur)∧Hid (wv cur % pN=wv a ^ 2 ^ i % pN)∧RowAt .u64 157 w.heap.size 4 (nI cur) wx∧RowAt .u64 157 w1.heap.size 4 (nI z4) wx∧Below w.heap.size w wx) (fun iv _=>n - (intOf iv).toNat)
 case atStart=>exact⟨0,a,by omega,rfl,HA,(by show _=_;rw[Nat.pow_zero,Nat.pow_one]),r1,r2,hbw⟩
 case round=>
  obtain⟨i,cur,hi,rfl,HC,HE,ra,rz,hbx⟩:=hrel
  clear r1 r2 hbw
  have hC:=HC.out
  by_cases hlt:i<n
  ·have hd:decide ((i:Int)<(n:Int))=true:=decide_eq_true (by omega)
   have hiI:(i:Int)<(n:Int):=by omega
   go_wp2_with (refine wpList_load_row rfl 157 _ rfl rfl ra _ Tryz.underlying157 rfl (elInfo hC) ?_)
   refine(fsquare_any _ cur hC rfl _).mono ?_
   rintro e w3 ⟨x,rfl,hx,he,b3⟩
   have HE2:Hid (wv x % pN=wv a ^ 2 ^ (i+1) % pN):=sq_step _ _ _ _ HE.out he
   have HX:Hid (El4 x):=hx
   replace ra:=ra.kept b3
   replace rz:=rz.kept b3
   replace hbx:=stepB hbx b3
   clear he b3 HE
   go_wp2_with (refine wpList_store_row rfl 157 _ _ rfl (nI x) rfl rfl ra (by rw[hC.len,hx.len]) (elInfo hC) ?_)
   intro w4 r4 hw4
   replace rz:=rz.wrote hw4 (by omega)
   replace hbx:=hw4.below _ _ (Nat.le_refl _) hbx
   clear ra hw4 hC hx
   go_wp2
   go_roundw
   case rel=>exact⟨i+1,x,by omega,by go_num,HX,HE2,r4,rz,hbx⟩
   case measure=>simp[intOf]<;>omega
  ·have hie:i=n:=by omega
   have hd:decide ((i:Int)<(n:Int))=false:=decide_eq_false (by omega)
   have hiI:(n:Int)≤(i:Int):=by omega
   have HE2:Hid (wv cur % pN=wv a ^ 2 ^ n % pN):=by
    have:=HE.out
    rw[hie] at this
    exact this
   clear HE hie
   go_wp2_with (first|refine wpList_load_row rfl 157 _ rfl rfl ra _ Tryz.underlying157 rfl (elInfo hC) ?_|(refine wpList_store_row rfl 157 _ _ rfl (nI cur) rfl rfl rz (by rw[z4_el.len,hC.len]) (elInfo z4_el) ?_;intro w4 r4 hw4))
   refine bodyPost_row (p:=4) (ty:=157) rfl rfl rfl r4 Tryz.underlying157 rfl (elInfo hC) ?_
   exact⟨cur,rfl,hC,HE2.out,hw4.below _ _ (by omega) hbx⟩

set_option maxRecDepth 100000 in
set_option maxHeartbeats 2000000 in
theorem ftimes_any (A:Array Value) (a:List Nat) (n:Nat) (N:Int) (ha:El4 a) (hn:n<4294967296) (hA:A=((nI a).map (Value.int .u64)).toArray) (hN:N=(n:Int)) (w:World):
  Calls Tryz.prog 359 #[.agg A,.int .u32 N] w fun e w'=>∃r:List Nat,e=.returned (elV r)∧El4 r∧wv r % pN=n * wv a % pN∧Below w.heap.size w w':=by
 subst hN
 have hw0:IntKind.u64.wrap (n:Int)=(n:Int):=wrapN n (by omega)
 go_enter Tryz.func359,Tryz.ntmps359
 go_wp2_with (refine wpList_box_row (k:=.u64) rfl 157 _ rfl (nI a) (by rw[←hA];rfl) ha.ne (elMax ha) ?_)
 intro w1 r1 b1 s1
 rw[ha.len] at r1
 go_wp2_with (refine wpList_alloc_row (k:=.u64) rfl 157 rfl (nI z4) (alloc_el _) z4_el.ne (elMax z4_el) ?_)
 intro w2 r2 b2 s2
 rw[z4_el.len] at r2
 replace r1:=r1.kept b2
 have hbw:=stepB b1 b2
 have n1:w.heap.size<w1.heap.size:=by have:=s1.out;omega
 clear b1 b2 s1 s2 hA
 go_wp2_with (refine wpList_load_row rfl 157 _ rfl rfl r1 _ Tryz.underlying157 rfl (elInfo ha) ?_)
 refine(addTimes_any _ _ z4 a n _ z4_el ha (by omega) rfl rfl rfl _).mono ?_
 rintro e w3 ⟨x1,c1,rfl,hx1,hc1,he1,b3⟩
 have HE1:Hid _:=he1
 replace r2:=r2.kept b3
 replace hbw:=stepB hbw b3
 clear he1 b3 r1
 go_wp2_with fail
 refine(fold_any _ x1 c1 _ hx1 hc1 rfl rfl _).mono ?_
 rintro e w5 ⟨x2,rfl,hx2,he2,b5⟩
 have HE2:Hid (wv x2 % pN=n * wv a % pN):=by
  show _=_
  rw[he2,HE1.out,z4_wv,Nat.zero_add]
 replace r2:=r2.kept b5
 replace hbw:=stepB hbw b5
 clear he2 HE1 b5
 go_wp2_with (refine wpList_store_row rfl 157 _ _ rfl (nI x2) rfl rfl r2 (by rw[z4_el.len,hx2.len]) (elInfo z4_el) ?_;intro w7 r7 hw7)
 refine bodyPost_row (p:=4) (ty:=157) rfl rfl rfl r7 Tryz.underlying157 rfl (elInfo hx2) ?_
 exact⟨x2,rfl,hx2,HE2.out,hw7.below _ _ (by omega) hbw⟩
set_option maxRecDepth 100000 in
set_option maxHeartbeats 2000000 in
theorem fencode_any (A:Array Value) (a:List Nat) (ha:El4 a) (hA:A=((nI a).map (Value.int .u64)).toArray) (w:World):
  Calls Tryz.prog 112 #[.agg A] w fun e w'=>∃r,e=.returned r∧New 5 w r (enL (wv a)) w':=by
 obtain⟨ti,hti,hz0,hz1,hz2⟩:=info_parts info5
 go_enter Tryz.func112,Tryz.ntmps112
 go_wp2_with (refine wpList_box_row (k:=.u64) rfl 157 _ rfl (nI a) (by rw[←hA];rfl) ha.ne (elMax ha) ?_)
 intro w1 r1 b1 s1
 rw[ha.len] at r1
 clear s1
 go_wp2_with (refine wpList_load_row rfl 157 _ rfl rfl r1 _ Tryz.underlying157 rfl (elInfo ha) ?_)
 refine(rest_any _ a ha rfl _).mono ?_
 rintro e w2 ⟨x,rfl,hx,he,b2⟩
 have HE:Hid _:=he
 replace r1:=r1.kept b2
 have hbw:=stepB b1 b2
 clear he b2 b1
 go_wp2_with (refine wpList_store_row rfl 157 _ _ rfl (nI x) rfl rfl r1 (by rw[ha.len,hx.len]) (elInfo ha) ?_)
 intro w3 r3 hw3
 replace hbw:=hw3.below _ _ (Nat.le_refl _) hbw
 have HX:Hid (El4 x):=hx
 clear r1 hw3 hA ha hx
 go_wp2_with (at_make;go_must (refine wpList_make_own _ rfl _ _ 26 rfl w3.heap.size 5 ti _ 1 Tryz.underlying26 hti hz0 hz1 _ _ _ 32 rfl rfl rfl (by rw[hz2];omega) (by unfold maxLen;omega) (Nat.le_refl _) ?_))
 intro w4 hown hgr
 have hN4:New 5 w3 _ [] w4:=⟨hown,(Below.refl _ _).grown hgr (Nat.le_refl _) (by simp)⟩
 clear hown hgr
 go_wp2
 go_loopw [3,8] (fun v iv wx=>∃i:Nat,i≤4∧iv=.int .i64 (i:Int)∧New 5 w3 v ((List.range (8 * i)).map (stB (wv x))) wx) (fun _ iv _=>4 - (intOf iv).toNat)
 case atStart=>exact⟨0,by omega,rfl,hN4⟩
 case round=>
  obtain⟨i,hi,rfl,hN⟩:=hrel
  clear hN4
  by_cases hlt:i<4
  ·have hd:decide ((i:Int)<4)=true:=decide_eq_true (by omega)
   have hiI:(i:Int)<4:=by omega
   have hc:=(r3.kept hN.2).cell (j:=i) (by rw[HX.out.len];exact hlt)
   rw[nI_get] at hc
   have HN:Hid _:=bytes_next x i HX.out hlt
   obtain⟨q,hq⟩:∃q:Nat,q=x.getD i 0:=⟨_,rfl⟩
   rw[←hq] at hc HN
   obtain⟨bs,hbs⟩:∃bs:List UInt8,bs=(List.range 8).map (stB q):=⟨_,rfl⟩
   rw[←hbs] at HN
   have HBS:Hid _:=hbs
   have HL:Hid (((List.range (8 * i)).map (stB (wv x))).length+bs.length≤140737488355328):=by
    show _≤_
    rw[hbs]
    simp only[List.length_map,List.length_range]
    omega
   clear hq hbs
   go_wp2_with fail
   refine(store_k q 8 8 (by omega) (.inr (.inl ⟨by omega,by omega,rfl⟩)) _).mono ?_
   rintro e w5 ⟨v5,rfl,hN5⟩
   have hR5:=hN5.rd
   rw[←HBS.out] at hR5
   replace hN:=hN.kept hN5.2
   clear hN5
   go_wp2_with (at_builtin;go_must (refine wpList_append_new (w:=w3) rfl _ _ 26 rfl 5 Tryz.underlying26 info5 _ _ rfl hN _ _ rfl hR5 HL.out ?_))
   intro v6 w6 hN6 _
   rw[HN.out] at hN6
   clear hN hR5 hc
   go_wp2
   go_roundw
   case rel=>exact⟨i+1,by omega,by go_num,hN6⟩
   case measure=>simp[intOf]<;>omega
  ·have hie:i=4:=by omega
   have hd:decide ((i:Int)<4)=false:=decide_eq_false (by omega)
   have hiI:(4:Int)≤(i:Int):=by omega
   rw[hie,show 8 * 4=32 from rfl,enL_of HE.out] at hN
   clear hie
   go_wp2
   go_ret
   exact⟨_,rfl,hN.from hbw⟩

theorem alloc32 (w:World):(Instr.alloc 27 true (.tuple #[])).run Tryz.prog w=.ok (.pointer (some ⟨w.heap.size,0,none⟩)) (w.alloc (.cells ((byI (List.replicate 32 0)).map (Value.int .u8)).toArray 27)):=by kernel_rfl
def zs32:List UInt8:=List.replicate 32 0
theorem zs32_length:zs32.length=32:=List.length_replicate
theorem zs32_ne:zs32≠[]:=by unfold zs32;simp

theorem dec_fit (b:List UInt8):leN (b.take 32++(List.replicate 32 (0:UInt8)).drop (b.take 32).length)=leN (b.take 32):=by
 rw[leN_append,List.drop_replicate,leN_zeros,Nat.mul_zero,Nat.add_zero]
theorem fit_length (b:List UInt8):(b.take 32++(List.replicate 32 (0:UInt8)).drop (b.take 32).length).length=32:=by
 simp only[List.length_append,List.length_take,List.length_drop,List.length_replicate]
 omega
theorem dec_top {a:List Nat} (ha:El4 a) (b:List UInt8) (h:wv a=leN (b.take 32)):wv (a.set 3 (a.getD 3 0 % 9223372036854775808))=decN b:=by
 rw[(rest_split ha).1,h]
 rfl

set_option maxRecDepth 100000 in
set_option maxHeartbeats 2000000 in
theorem fdecode_any (vb:Value) (b:List UInt8) (w:World) (hr:Rd w vb b):
  Calls Tryz.prog 180 #[vb] w fun e w'=>∃r:List Nat,e=.returned (elV r)∧El4 r∧wv r=decN b∧Below w.heap.size w w':=by
 obtain⟨ab,cb,rfl, -,hmb, -, -⟩:=id hr
 unfold maxLen at hmb
 obtain⟨t3,ht3⟩:∃f:List UInt8,f=b.take zs32.length:=⟨_,rfl⟩
 obtain⟨full,hfull⟩:∃f:List UInt8,f=t3++zs32.drop t3.length:=⟨_,rfl⟩
 have HF:Hid (full.length=32):=by
  show _=_
  rw[hfull,ht3,zs32_length]
  exact fit_length b
 have HD:Hid (leN full=leN (b.take 32)):=by
  show _=_
  rw[hfull,ht3,zs32_length]
  exact dec_fit b
 have HT3:Hid _:=ht3
 have HFU:Hid _:=hfull
 clear ht3 hfull
 go_enter Tryz.func180,Tryz.ntmps180
 go_wp2_with (refine wpList_alloc_row (k:=.u64) rfl 157 rfl (nI z4) (alloc_el _) z4_el.ne (elMax z4_el) ?_)
 intro w1 r1 b1 s1
 rw[z4_el.len] at r1
 go_wp2_with (refine wpList_alloc_row (k:=.u8) rfl 27 rfl (byI zs32) (alloc32 _) (byI_ne zs32_ne) (by rw[byI_length,zs32_length];decide) ?_)
 intro w2 r2 b2 s2
 rw[byI_length,zs32_length] at r2
 have hr2:=(hr.kept b1).kept b2
 have n1:w.heap.size<w1.heap.size:=by have:=s1.out;omega
 clear hr s1 s2
 go_wp2_with (refine wpList_copy_fit (w:=w1) rfl _ _ 26 rfl 5 Tryz.underlying26 (by kernel_rfl) zs32 rfl zs32_length.symm r2 _ b rfl hr2 t3 HT3.out zs32_ne b2 (Nat.le_refl _) ?_)
 intro w3 r3 b3
 rw[←HFU.out] at r3
 replace r1:=r1.kept b3
 have hbw:=stepB b1 b3
 clear hr2 r2 b2 HFU HT3 b1 b3
 go_wp2_with (refine wpList_alloc_row (k:=.u64) rfl 157 rfl (nI z4) (alloc_el _) z4_el.ne (elMax z4_el) ?_)
 intro w4 r4 b4 s4
 rw[z4_el.len] at r4
 have n3:=r3.lt
 replace r1:=r1.kept b4
 replace r3:=r3.kept b4
 replace hbw:=stepB hbw b4
 clear b4 s4
 go_wp2
 go_loopw [9] (fun iv wx=>∃(i:Nat) (cur:List Nat),i≤4∧iv=.int .i64 (i:Int)∧Hid (El4 cur)∧Hid (wv cur=leN (full.take (8 * i)))∧Hid (∀j,i≤j→cur.getD j 0=0)∧RowAt .u64 157 w.heap.size 4 (nI z4) wx∧RowAt .u8 27 w1.heap.size 32 (byI full) wx∧RowAt .u64 157 w3.heap.size 4 (nI cur) wx∧Below w.heap.size w wx) (fun iv _=>4 - (intOf iv).toNat)
 case atStart=>exact⟨0,z4,by omega,rfl,z4_el,(by show _=_;rw[z4_wv];rfl),(fun j _=>z4_get j),r1,r3,r4,hbw⟩
 case round=>
  obtain⟨i,cur,hi,rfl,HC,HV,HZ,rz,rf,rc,hbx⟩:=hrel
  clear r1 r3 r4 hbw
  by_cases hlt:i<4
  ·have hd:decide ((i:Int)<4)=true:=decide_eq_true (by omega)
   have hiI:(i:Int)<4:=by omega
   have hRf:=rf.rdB
   rw[HF.out] at hRf
   have hsub:=hRf.sub (8 * i) 32 (by omega) (by omega)
   have hfc:=rc.free i
   have hcc:=rc.cell (j:=i) (by rw[HC.out.len];exact hlt)
   obtain⟨m,hm⟩:∃m:Nat,m=8 * i:=⟨_,rfl⟩
   have hld:=load_any _ _ _ hsub
   obtain⟨z,hz⟩:∃z:Nat,z=leN (((full.drop (8 * i)).take (32 - 8 * i)).take 8):=⟨_,rfl⟩
   have HS:Hid (El4 (cur.set i z)∧wv (cur.set i z)=leN (full.take (8 * (i+1)))∧∀j,i+1≤j→(cur.set i z).getD j 0=0):=by
    have e:((full.drop (8 * i)).take (32 - 8 * i)).take 8=(full.drop (8 * i)).take 8:=by
     rw[List.take_take,Nat.min_eq_left (by omega)]
    rw[hz,e]
    refine⟨HC.out.set i (leN_take_lt _ 8 (by omega)),dec_step full cur i (by rw[HC.out.1];exact hlt) HF.out hlt (HZ.out i (Nat.le_refl _)) HV.out,fun j hj=>?_⟩
    have:=HZ.out j (by omega)
    rw[List.getD_eq_getElem?_getD,List.getElem?_set_ne (by omega),←List.getD_eq_getElem?_getD]
    exact this
   rw[←hz,←hm,Nat.zero_add] at hld
   have rc2:=rc.set i (z:Int)
   rw[nI_set] at rc2
   have rz2:=rz.other (p:=⟨w3.heap.size,i,none⟩) (by show w3.heap.size≠_;omega) (.int .u64 (z:Int))
   have rf2:=rf.other (p:=⟨w3.heap.size,i,none⟩) (by show w3.heap.size≠_;omega) (.int .u64 (z:Int))
   have hb2:=(Wrote.set w3.heap.size i wr (.int .u64 (z:Int))).below _ _ (by omega) hbx
   have x1:IntKind.i64.wrap (8 * (i:Int))=(m:Int):=by rw[show 8 * (i:Int)=(m:Int) by omega];exact IntWalk.i64_in _ (by omega)
   have hm32:(m:Int)<32:=by omega
   have hm33:(m:Int)≤32:=by omega
   have hm32':m<32:=by omega
   have hmn:m≠32:=by omega
   have hmn':¬(32:Nat)=m:=by omega
   have hmi:¬(32:Int)=(m:Int):=by omega
   have HLD:Hid (Calls Tryz.prog 247 #[.slice (some ⟨w1.heap.size,m,none⟩) (32 - m) (32 - m)] wr fun e w'=>e=.returned (.int .u64 (z:Int))∧w'=wr):=hld
   clear hm hRf rz rf rc hbx HV HZ hsub hz hld
   go_wp2_with fail
   refine Calls.mono HLD.out ?_
   rintro e w5 ⟨rfl,rfl⟩
   go_wp2
   go_roundw
   case rel=>exact⟨i+1,cur.set i z,by omega,by go_num,HS.out.1,HS.out.2.1,HS.out.2.2,rz2,rf2,rc2,hb2⟩
   case measure=>simp[intOf]<;>omega
  ·have hie:i=4:=by omega
   have hd:decide ((i:Int)<4)=false:=decide_eq_false (by omega)
   have hiI:(4:Int)≤(i:Int):=by omega
   have hV:wv cur=leN (b.take 32):=by
    rw[←HD.out,HV.out,hie,List.take_of_length_le (by rw[HF.out];exact Nat.le_refl _)]
   have HT:Hid _:=dec_top HC.out b hV
   have hc3:=rc.cell (j:=3) (by rw[HC.out.len];decide)
   have hf3:=rc.free 3
   rw[nI_get] at hc3
   have h3:=HC.out.get 3
   have m1:=mask63 (cur.getD 3 0) h3
   obtain⟨z,hz⟩:∃z:Nat,z=cur.getD 3 0 % 9223372036854775808:=⟨_,rfl⟩
   rw[←hz] at m1 HT
   have hzl:z<18446744073709551616:=by omega
   have hE:El4 (cur.set 3 z):=HC.out.set 3 hzl
   have rc2:=rc.set 3 (z:Int)
   rw[nI_set] at rc2
   have rz2:=rz.other (p:=⟨w3.heap.size,3,none⟩) (by show w3.heap.size≠_;omega) (.int .u64 (z:Int))
   have hb2:=(Wrote.set w3.heap.size 3 wr (.int .u64 (z:Int))).below _ _ (by omega) hbx
   generalize cur.getD 3 0=q at hc3 m1 h3 hz
   clear hie hz hV rz rf rc hbx HV HZ h3
   go_wp2_with (first|refine wpList_load_row rfl 157 _ rfl rfl rc2 _ Tryz.underlying157 rfl (elInfo hE) ?_|(refine wpList_store_row rfl 157 _ _ rfl (nI (cur.set 3 z)) rfl rfl rz2 (by rw[z4_el.len,hE.len]) (elInfo z4_el) ?_;intro w6 r6 hw6))
   refine bodyPost_row (p:=2) (ty:=157) rfl rfl rfl r6 Tryz.underlying157 rfl (elInfo hE) ?_
   exact⟨_,rfl,hE,HT.out,hw6.below _ _ (by omega) hb2⟩
theorem Pw.one (a:List Nat):Pw (wv a) 1 a:=by
 unfold Pw
 rw[Nat.pow_one]
theorem Pw.sq {x e:Nat} {l r:List Nat} (h1:Pw x e l) (h:wv r % pN=wv l * wv l % pN):Pw x (e+e) r:=h1.mul h1 h
theorem Pw.exp {x e f:Nat} {l:List Nat} (h:Pw x e l) (hf:e=f):Pw x f l:=by
 subst hf
 exact h
theorem Pw.told {x y e:Nat} {l:List Nat} (h:Pw x e l) (hx:x=y):wv l % pN=y ^ e % pN:=by
 subst hx
 exact h
def dn (n:Nat):Nat:=2 ^ n - 1
theorem dn_add (a b:Nat):dn a+dn b * 2 ^ a=dn (a+b):=by
 unfold dn
 have h1:0<2 ^ a:=Nat.pow_pos (by decide)
 have h2:0<2 ^ b:=Nat.pow_pos (by decide)
 rw[Nat.sub_mul,Nat.one_mul,←Nat.pow_add,Nat.add_comm b a]
 have h3:2 ^ a≤2 ^ (a+b):=Nat.pow_le_pow_right (by decide) (by omega)
 omega
theorem dn_inv:11+dn 250 * 2 ^ 5=exN:=inv_exp

set_option maxRecDepth 100000 in
set_option maxHeartbeats 8000000 in
theorem finvert_any (A:Array Value) (a:List Nat) (ha:El4 a) (hA:A=((nI a).map (Value.int .u64)).toArray) (w:World):
  Calls Tryz.prog 320 #[.agg A] w fun e w'=>∃r:List Nat,e=.returned (elV r)∧El4 r∧wv r % pN=wv a ^ exN % pN∧Below w.heap.size w w':=by
 go_enter Tryz.func320,Tryz.ntmps320
 go_wp2_with (refine wpList_box_row (k:=.u64) rfl 157 _ rfl (nI a) (by rw[←hA];rfl) ha.ne (elMax ha) ?_)
 intro w1 r1 b1 s1
 rw[ha.len] at r1
 go_wp2_with (refine wpList_alloc_row (k:=.u64) rfl 157 rfl (nI z4) (alloc_el _) z4_el.ne (elMax z4_el) ?_)
 intro w2 r2 b2 s2
 rw[z4_el.len] at r2
 replace r1:=r1.kept b2
 have hbw:=stepB b1 b2
 have n1:w.heap.size<w1.heap.size:=by have:=s1.out;omega
 have p1:Pw (wv a) 1 a:=Pw.one a
 have h1:=ha
 obtain⟨X,hX⟩:∃n:Nat,n=wv a:=⟨_,rfl⟩
 rw[←hX] at p1
 have HX:Hid _:=hX
 clear b1 b2 s1 s2 hA hX
 go_wp2_with (refine wpList_load_row rfl 157 _ rfl rfl r1 _ Tryz.underlying157 rfl (elInfo h1) ?_)
 refine(fsquare_any _ a h1 rfl _).mono ?_
 rintro e w3 ⟨l3,rfl,h3,he,b3⟩
 have p3:Pw X (1+1) l3:=p1.sq he
 replace r1:=r1.kept b3
 replace r2:=r2.kept b3
 replace hbw:=stepB hbw b3
 clear he b3
 go_wp2_with (refine wpList_alloc_row (k:=.u64) rfl 157 rfl (nI z4) (alloc_el _) z4_el.ne (elMax z4_el) ?_)
 intro w4 r3 b4 s4
 rw[z4_el.len] at r3
 have hg1:=r1.lt
 have hg2:=r2.lt
 replace r1:=r1.kept b4
 replace r2:=r2.kept b4
 have hsz:=hbw.size
 replace hbw:=stepB hbw b4
 clear b4 s4
 go_wp2_with (refine wpList_store_row rfl 157 _ _ rfl (nI l3) rfl rfl r3 (by rw[z4_el.len,h3.len]) (elInfo z4_el) ?_)
 intro w5 r3' hw5
 replace r1:=r1.wrote hw5 (by omega)
 replace r2:=r2.wrote hw5 (by omega)
 replace hbw:=hw5.below _ _ (by omega) hbw
 replace r3:=r3'
 clear r3' hw5
 go_upto_region 2 with fail
 go_cut [4] (fun v wx=>∃(g:Nat) (l:List Nat),v=.pointer (some ⟨g,0,none⟩)∧w5.heap.size≤g∧Hid (El4 l)∧Hid (Pw X (9) l)∧RowAt .u64 157 g 4 (nI l) wx∧Below w5.heap.size w5 wx)
 case first=>
  have hB:Below w5.heap.size w5 w5.drew:=(Below.refl _ _).drew
  refine wpB_begin (Below.refl w5.heap.size w5) (by kernel_rfl) ?_
  refine bU_ hB 0 rfl ⟨_,by intro W hW;refine Eq.trans (exec_load_row' 157 _ (by rfl) (by rfl) r1 hW _ Tryz.underlying157 rfl (elInfo h1)) ?_;with_reducible rfl,?_⟩
  try simp only[Act.put,pA_,pB_,pC_]
  refine bU_ hB 1 rfl ⟨_,by intro W hW;refine Eq.trans (exec_load_row' 157 _ (by rfl) (by rfl) r3 hW _ Tryz.underlying157 rfl (elInfo h3)) ?_;with_reducible rfl,?_⟩
  try simp only[Act.put,pA_,pB_,pC_]
  refine bF_ 2 4 (fun K hK=>?_) (fun K hK=>?_)
  ·go_simp
   refine(squares_any _ l3 2 _ h3 (by decide) rfl rfl _).mono ?_
   rintro e wq ⟨lq,rfl,hq,heq,bq⟩
   have pq:=p3.sqs (n:=2) heq
   replace hB:=stepB hB bq
   try replace hG:=hG.kept bq
   refine hK.out _ _ hB ?_
   clear hK K
   try simp only[Act.put,pA_,pB_,pC_]
   refine bF_ 3 4 (fun K hK=>?_) (fun K hK=>?_)
   ·go_simp
    refine(fmul_any _ _ a lq h1 hq rfl rfl _).mono ?_
    rintro e wm ⟨lm,rfl,hm,hem,bm⟩
    have pm:=Pw.exp (p1.mul pq hem) rfl
    replace hB:=stepB hB bm
    try replace hG:=hG.kept bm
    refine hK.out _ _ hB ?_
    clear hK K
    try simp only[Act.put,pA_,pB_,pC_]
    refine bD_ 4 fun K hK=>?_
    refine wp_alloc_el hB rfl ?_
    intro g wA hG hge hBA
    replace hB:=hBA
    refine hK.out _ _ hB ?_
    clear hK K
    try simp only[Act.put,pA_,pB_,pC_]
    refine bD_ 5 fun K hK=>?_
    refine wp_store_el (l:=z4) (l2:=lm) hB hge _ _ rfl rfl rfl hG z4_el hm ?_
    intro wS hGS hBS
    replace hB:=hBS
    refine hK.out _ _ hB ?_
    clear hK K
    try simp only[Act.put,pA_,pB_,pC_]
    refine wpB_done (by kernel_rfl) ?_
    go_wp2_with fail
    go_meet
    exact⟨g,lm,rfl,hge,hm,pm,hGS,hB⟩
   ·refine wp_alloc_el hB rfl ?_
    intro g wA hG hge hBA
    replace hB:=hBA
    refine hK.out _ _ hB ?_
    clear hK K
    try simp only[Act.put,pA_,pB_,pC_]
    refine bD_ 3 fun K hK=>?_
    go_simp
    refine(fmul_any _ _ a lq h1 hq rfl rfl _).mono ?_
    rintro e wm ⟨lm,rfl,hm,hem,bm⟩
    have pm:=Pw.exp (p1.mul pq hem) rfl
    replace hB:=stepB hB bm
    try replace hG:=hG.kept bm
    refine hK.out _ _ hB ?_
    clear hK K
    try simp only[Act.put,pA_,pB_,pC_]
    refine bD_ 5 fun K hK=>?_
    refine wp_store_el (l:=z4) (l2:=lm) hB hge _ _ rfl rfl rfl hG z4_el hm ?_
    intro wS hGS hBS
    replace hB:=hBS
    refine hK.out _ _ hB ?_
    clear hK K
    try simp only[Act.put,pA_,pB_,pC_]
    refine wpB_done (by kernel_rfl) ?_
    go_wp2_with fail
    go_meet
    exact⟨g,lm,rfl,hge,hm,pm,hGS,hB⟩
  ·refine wp_alloc_el hB rfl ?_
   intro g wA hG hge hBA
   replace hB:=hBA
   refine hK.out _ _ hB ?_
   clear hK K
   try simp only[Act.put,pA_,pB_,pC_]
   refine bD_ 2 fun K hK=>?_
   go_simp
   refine(squares_any _ l3 2 _ h3 (by decide) rfl rfl _).mono ?_
   rintro e wq ⟨lq,rfl,hq,heq,bq⟩
   have pq:=p3.sqs (n:=2) heq
   replace hB:=stepB hB bq
   try replace hG:=hG.kept bq
   refine hK.out _ _ hB ?_
   clear hK K
   try simp only[Act.put,pA_,pB_,pC_]
   refine bD_ 3 fun K hK=>?_
   go_simp
   refine(fmul_any _ _ a lq h1 hq rfl rfl _).mono ?_
   rintro e wm ⟨lm,rfl,hm,hem,bm⟩
   have pm:=Pw.exp (p1.mul pq hem) rfl
   replace hB:=stepB hB bm
   try replace hG:=hG.kept bm
   refine hK.out _ _ hB ?_
   clear hK K
   try simp only[Act.put,pA_,pB_,pC_]
   refine bD_ 5 fun K hK=>?_
   refine wp_store_el (l:=z4) (l2:=lm) hB hge _ _ rfl rfl rfl hG z4_el hm ?_
   intro wS hGS hBS
   replace hB:=hBS
   refine hK.out _ _ hB ?_
   clear hK K
   try simp only[Act.put,pA_,pB_,pC_]
   refine wpB_done (by kernel_rfl) ?_
   go_wp2_with fail
   go_meet
   exact⟨g,lm,rfl,hge,hm,pm,hGS,hB⟩
 case rest=>
 obtain⟨g4,l4,rfl,hge4,H4,P4,r4,bc4⟩:=hcut
 have h4:=H4.out
 have p4:=P4.out
 clear H4 P4
 replace r1:=r1.kept bc4
 replace r2:=r2.kept bc4
 replace r3:=r3.kept bc4
 replace hbw:=stepB hbw bc4
 clear bc4
 rename World=>W4
 go_wp2_with (first|refine wpList_load_row rfl 157 _ rfl rfl r4 _ Tryz.underlying157 rfl (elInfo h4) ?_|refine wpList_load_row rfl 157 _ rfl rfl r3 _ Tryz.underlying157 rfl (elInfo h3) ?_)
 refine(fmul_any _ _ l4 l3 h4 h3 rfl rfl _).mono ?_
 rintro e w6 ⟨l5,rfl,h5,he,b6⟩
 have p5:Pw X 11 l5:=Pw.exp (p4.mul p3 he) rfl
 replace r1:=r1.kept b6
 replace r2:=r2.kept b6
 replace r3:=r3.kept b6
 replace r4:=r4.kept b6
 replace hbw:=stepB hbw b6
 clear he b6
 have hg1:=r1.lt
 have hg2:=r2.lt
 have hg3:=r3.lt
 have hg4:=r4.lt
 have hsz:=hbw.size
 go_wp2_with (refine wpList_alloc_row (k:=.u64) rfl 157 rfl (nI z4) (alloc_el _) z4_el.ne (elMax z4_el) ?_)
 intro w7 r5 b7 s7
 rw[z4_el.len] at r5
 replace r1:=r1.kept b7
 replace r2:=r2.kept b7
 replace r3:=r3.kept b7
 replace r4:=r4.kept b7
 replace hbw:=stepB hbw b7
 clear b7 s7
 go_wp2_with (refine wpList_store_row rfl 157 _ _ rfl (nI l5) rfl rfl r5 (by rw[z4_el.len,h5.len]) (elInfo z4_el) ?_)
 intro w8 r5' hw8
 replace r1:=r1.wrote hw8 (by omega)
 replace r2:=r2.wrote hw8 (by omega)
 replace r3:=r3.wrote hw8 (by omega)
 replace r4:=r4.wrote hw8 (by omega)
 replace hbw:=hw8.below _ _ (by omega) hbw
 replace r5:=r5'
 clear r5' hw8
 clear r1
 clear r3
 go_upto_region 4 with fail
 go_cut [6] (fun v wx=>∃(g:Nat) (l:List Nat),v=.pointer (some ⟨g,0,none⟩)∧w8.heap.size≤g∧Hid (El4 l)∧Hid (Pw X (dn 5) l)∧RowAt .u64 157 g 4 (nI l) wx∧Below w8.heap.size w8 wx)
 case first=>
  have hB:Below w8.heap.size w8 w8.drew:=(Below.refl _ _).drew
  refine wpB_begin (Below.refl w8.heap.size w8) (by kernel_rfl) ?_
  refine bU_ hB 0 rfl ⟨_,by intro W hW;refine Eq.trans (exec_load_row' 157 _ (by rfl) (by rfl) r4 hW _ Tryz.underlying157 rfl (elInfo h4)) ?_;with_reducible rfl,?_⟩
  try simp only[Act.put,pA_,pB_,pC_]
  refine bU_ hB 1 rfl ⟨_,by intro W hW;refine Eq.trans (exec_load_row' 157 _ (by rfl) (by rfl) r5 hW _ Tryz.underlying157 rfl (elInfo h5)) ?_;with_reducible rfl,?_⟩
  try simp only[Act.put,pA_,pB_,pC_]
  refine bF_ 2 4 (fun K hK=>?_) (fun K hK=>?_)
  ·go_simp
   refine(fsquare_any _ l5 h5 rfl _).mono ?_
   rintro e wq ⟨lq,rfl,hq,heq,bq⟩
   have pq:=p5.sq heq
   replace hB:=stepB hB bq
   try replace hG:=hG.kept bq
   refine hK.out _ _ hB ?_
   clear hK K
   try simp only[Act.put,pA_,pB_,pC_]
   refine bF_ 3 4 (fun K hK=>?_) (fun K hK=>?_)
   ·go_simp
    refine(fmul_any _ _ l4 lq h4 hq rfl rfl _).mono ?_
    rintro e wm ⟨lm,rfl,hm,hem,bm⟩
    have pm:=Pw.exp (p4.mul pq hem) rfl
    replace hB:=stepB hB bm
    try replace hG:=hG.kept bm
    refine hK.out _ _ hB ?_
    clear hK K
    try simp only[Act.put,pA_,pB_,pC_]
    refine bD_ 4 fun K hK=>?_
    refine wp_alloc_el hB rfl ?_
    intro g wA hG hge hBA
    replace hB:=hBA
    refine hK.out _ _ hB ?_
    clear hK K
    try simp only[Act.put,pA_,pB_,pC_]
    refine bD_ 5 fun K hK=>?_
    refine wp_store_el (l:=z4) (l2:=lm) hB hge _ _ rfl rfl rfl hG z4_el hm ?_
    intro wS hGS hBS
    replace hB:=hBS
    refine hK.out _ _ hB ?_
    clear hK K
    try simp only[Act.put,pA_,pB_,pC_]
    refine wpB_done (by kernel_rfl) ?_
    go_wp2_with fail
    go_meet
    exact⟨g,lm,rfl,hge,hm,pm,hGS,hB⟩
   ·refine wp_alloc_el hB rfl ?_
    intro g wA hG hge hBA
    replace hB:=hBA
    refine hK.out _ _ hB ?_
    clear hK K
    try simp only[Act.put,pA_,pB_,pC_]
    refine bD_ 3 fun K hK=>?_
    go_simp
    refine(fmul_any _ _ l4 lq h4 hq rfl rfl _).mono ?_
    rintro e wm ⟨lm,rfl,hm,hem,bm⟩
    have pm:=Pw.exp (p4.mul pq hem) rfl
    replace hB:=stepB hB bm
    try replace hG:=hG.kept bm
    refine hK.out _ _ hB ?_
    clear hK K
    try simp only[Act.put,pA_,pB_,pC_]
    refine bD_ 5 fun K hK=>?_
    refine wp_store_el (l:=z4) (l2:=lm) hB hge _ _ rfl rfl rfl hG z4_el hm ?_
    intro wS hGS hBS
    replace hB:=hBS
    refine hK.out _ _ hB ?_
    clear hK K
    try simp only[Act.put,pA_,pB_,pC_]
    refine wpB_done (by kernel_rfl) ?_
    go_wp2_with fail
    go_meet
    exact⟨g,lm,rfl,hge,hm,pm,hGS,hB⟩
  ·refine wp_alloc_el hB rfl ?_
   intro g wA hG hge hBA
   replace hB:=hBA
   refine hK.out _ _ hB ?_
   clear hK K
   try simp only[Act.put,pA_,pB_,pC_]
   refine bD_ 2 fun K hK=>?_
   go_simp
   refine(fsquare_any _ l5 h5 rfl _).mono ?_
   rintro e wq ⟨lq,rfl,hq,heq,bq⟩
   have pq:=p5.sq heq
   replace hB:=stepB hB bq
   try replace hG:=hG.kept bq
   refine hK.out _ _ hB ?_
   clear hK K
   try simp only[Act.put,pA_,pB_,pC_]
   refine bD_ 3 fun K hK=>?_
   go_simp
   refine(fmul_any _ _ l4 lq h4 hq rfl rfl _).mono ?_
   rintro e wm ⟨lm,rfl,hm,hem,bm⟩
   have pm:=Pw.exp (p4.mul pq hem) rfl
   replace hB:=stepB hB bm
   try replace hG:=hG.kept bm
   refine hK.out _ _ hB ?_
   clear hK K
   try simp only[Act.put,pA_,pB_,pC_]
   refine bD_ 5 fun K hK=>?_
   refine wp_store_el (l:=z4) (l2:=lm) hB hge _ _ rfl rfl rfl hG z4_el hm ?_
   intro wS hGS hBS
   replace hB:=hBS
   refine hK.out _ _ hB ?_
   clear hK K
   try simp only[Act.put,pA_,pB_,pC_]
   refine wpB_done (by kernel_rfl) ?_
   go_wp2_with fail
   go_meet
   exact⟨g,lm,rfl,hge,hm,pm,hGS,hB⟩
 case rest=>
 obtain⟨g6,l6,rfl,hge6,H6,P6,r6,bc6⟩:=hcut
 have h6:=H6.out
 have p6:=P6.out
 clear H6 P6
 replace r2:=r2.kept bc6
 replace r4:=r4.kept bc6
 replace r5:=r5.kept bc6
 replace hbw:=stepB hbw bc6
 clear bc6
 rename World=>W6
 clear r4
 go_upto_region 5 with fail
 go_cut [7] (fun v wx=>∃(g:Nat) (l:List Nat),v=.pointer (some ⟨g,0,none⟩)∧W6.heap.size≤g∧Hid (El4 l)∧Hid (Pw X (dn 10) l)∧RowAt .u64 157 g 4 (nI l) wx∧Below W6.heap.size W6 wx)
 case first=>
  have hB:Below W6.heap.size W6 W6.drew:=(Below.refl _ _).drew
  refine wpB_begin (Below.refl W6.heap.size W6) (by kernel_rfl) ?_
  refine bU_ hB 0 rfl ⟨_,by intro W hW;refine Eq.trans (exec_load_row' 157 _ (by rfl) (by rfl) r6 hW _ Tryz.underlying157 rfl (elInfo h6)) ?_;with_reducible rfl,?_⟩
  try simp only[Act.put,pA_,pB_,pC_]
  refine bU_ hB 1 rfl ⟨_,by intro W hW;refine Eq.trans (exec_load_row' 157 _ (by rfl) (by rfl) r6 hW _ Tryz.underlying157 rfl (elInfo h6)) ?_;with_reducible rfl,?_⟩
  try simp only[Act.put,pA_,pB_,pC_]
  refine bF_ 2 4 (fun K hK=>?_) (fun K hK=>?_)
  ·go_simp
   refine(squares_any _ l6 5 _ h6 (by decide) rfl rfl _).mono ?_
   rintro e wq ⟨lq,rfl,hq,heq,bq⟩
   have pq:=p6.sqs (n:=5) heq
   replace hB:=stepB hB bq
   try replace hG:=hG.kept bq
   refine hK.out _ _ hB ?_
   clear hK K
   try simp only[Act.put,pA_,pB_,pC_]
   refine bF_ 3 4 (fun K hK=>?_) (fun K hK=>?_)
   ·go_simp
    refine(fmul_any _ _ l6 lq h6 hq rfl rfl _).mono ?_
    rintro e wm ⟨lm,rfl,hm,hem,bm⟩
    have pm:=Pw.exp (p6.mul pq hem) (dn_add 5 5)
    replace hB:=stepB hB bm
    try replace hG:=hG.kept bm
    refine hK.out _ _ hB ?_
    clear hK K
    try simp only[Act.put,pA_,pB_,pC_]
    refine bD_ 4 fun K hK=>?_
    refine wp_alloc_el hB rfl ?_
    intro g wA hG hge hBA
    replace hB:=hBA
    refine hK.out _ _ hB ?_
    clear hK K
    try simp only[Act.put,pA_,pB_,pC_]
    refine bD_ 5 fun K hK=>?_
    refine wp_store_el (l:=z4) (l2:=lm) hB hge _ _ rfl rfl rfl hG z4_el hm ?_
    intro wS hGS hBS
    replace hB:=hBS
    refine hK.out _ _ hB ?_
    clear hK K
    try simp only[Act.put,pA_,pB_,pC_]
    refine wpB_done (by kernel_rfl) ?_
    go_wp2_with fail
    go_meet
    exact⟨g,lm,rfl,hge,hm,pm,hGS,hB⟩
   ·refine wp_alloc_el hB rfl ?_
    intro g wA hG hge hBA
    replace hB:=hBA
    refine hK.out _ _ hB ?_
    clear hK K
    try simp only[Act.put,pA_,pB_,pC_]
    refine bD_ 3 fun K hK=>?_
    go_simp
    refine(fmul_any _ _ l6 lq h6 hq rfl rfl _).mono ?_
    rintro e wm ⟨lm,rfl,hm,hem,bm⟩
    have pm:=Pw.exp (p6.mul pq hem) (dn_add 5 5)
    replace hB:=stepB hB bm
    try replace hG:=hG.kept bm
    refine hK.out _ _ hB ?_
    clear hK K
    try simp only[Act.put,pA_,pB_,pC_]
    refine bD_ 5 fun K hK=>?_
    refine wp_store_el (l:=z4) (l2:=lm) hB hge _ _ rfl rfl rfl hG z4_el hm ?_
    intro wS hGS hBS
    replace hB:=hBS
    refine hK.out _ _ hB ?_
    clear hK K
    try simp only[Act.put,pA_,pB_,pC_]
    refine wpB_done (by kernel_rfl) ?_
    go_wp2_with fail
    go_meet
    exact⟨g,lm,rfl,hge,hm,pm,hGS,hB⟩
  ·refine wp_alloc_el hB rfl ?_
   intro g wA hG hge hBA
   replace hB:=hBA
   refine hK.out _ _ hB ?_
   clear hK K
   try simp only[Act.put,pA_,pB_,pC_]
   refine bD_ 2 fun K hK=>?_
   go_simp
   refine(squares_any _ l6 5 _ h6 (by decide) rfl rfl _).mono ?_
   rintro e wq ⟨lq,rfl,hq,heq,bq⟩
   have pq:=p6.sqs (n:=5) heq
   replace hB:=stepB hB bq
   try replace hG:=hG.kept bq
   refine hK.out _ _ hB ?_
   clear hK K
   try simp only[Act.put,pA_,pB_,pC_]
   refine bD_ 3 fun K hK=>?_
   go_simp
   refine(fmul_any _ _ l6 lq h6 hq rfl rfl _).mono ?_
   rintro e wm ⟨lm,rfl,hm,hem,bm⟩
   have pm:=Pw.exp (p6.mul pq hem) (dn_add 5 5)
   replace hB:=stepB hB bm
   try replace hG:=hG.kept bm
   refine hK.out _ _ hB ?_
   clear hK K
   try simp only[Act.put,pA_,pB_,pC_]
   refine bD_ 5 fun K hK=>?_
   refine wp_store_el (l:=z4) (l2:=lm) hB hge _ _ rfl rfl rfl hG z4_el hm ?_
   intro wS hGS hBS
   replace hB:=hBS
   refine hK.out _ _ hB ?_
   clear hK K
   try simp only[Act.put,pA_,pB_,pC_]
   refine wpB_done (by kernel_rfl) ?_
   go_wp2_with fail
   go_meet
   exact⟨g,lm,rfl,hge,hm,pm,hGS,hB⟩
 case rest=>
 obtain⟨g7,l7,rfl,hge7,H7,P7,r7,bc7⟩:=hcut
 have h7:=H7.out
 have p7:=P7.out
 clear H7 P7
 replace r2:=r2.kept bc7
 replace r5:=r5.kept bc7
 replace r6:=r6.kept bc7
 replace hbw:=stepB hbw bc7
 clear bc7
 rename World=>W7
 clear r6
 go_upto_region 6 with fail
 go_cut [8] (fun v wx=>∃(g:Nat) (l:List Nat),v=.pointer (some ⟨g,0,none⟩)∧W7.heap.size≤g∧Hid (El4 l)∧Hid (Pw X (dn 20) l)∧RowAt .u64 157 g 4 (nI l) wx∧Below W7.heap.size W7 wx)
 case first=>
  have hB:Below W7.heap.size W7 W7.drew:=(Below.refl _ _).drew
  refine wpB_begin (Below.refl W7.heap.size W7) (by kernel_rfl) ?_
  refine bU_ hB 0 rfl ⟨_,by intro W hW;refine Eq.trans (exec_load_row' 157 _ (by rfl) (by rfl) r7 hW _ Tryz.underlying157 rfl (elInfo h7)) ?_;with_reducible rfl,?_⟩
  try simp only[Act.put,pA_,pB_,pC_]
  refine bU_ hB 1 rfl ⟨_,by intro W hW;refine Eq.trans (exec_load_row' 157 _ (by rfl) (by rfl) r7 hW _ Tryz.underlying157 rfl (elInfo h7)) ?_;with_reducible rfl,?_⟩
  try simp only[Act.put,pA_,pB_,pC_]
  refine bF_ 2 4 (fun K hK=>?_) (fun K hK=>?_)
  ·go_simp
   refine(squares_any _ l7 10 _ h7 (by decide) rfl rfl _).mono ?_
   rintro e wq ⟨lq,rfl,hq,heq,bq⟩
   have pq:=p7.sqs (n:=10) heq
   replace hB:=stepB hB bq
   try replace hG:=hG.kept bq
   refine hK.out _ _ hB ?_
   clear hK K
   try simp only[Act.put,pA_,pB_,pC_]
   refine bF_ 3 4 (fun K hK=>?_) (fun K hK=>?_)
   ·go_simp
    refine(fmul_any _ _ l7 lq h7 hq rfl rfl _).mono ?_
    rintro e wm ⟨lm,rfl,hm,hem,bm⟩
    have pm:=Pw.exp (p7.mul pq hem) (dn_add 10 10)
    replace hB:=stepB hB bm
    try replace hG:=hG.kept bm
    refine hK.out _ _ hB ?_
    clear hK K
    try simp only[Act.put,pA_,pB_,pC_]
    refine bD_ 4 fun K hK=>?_
    refine wp_alloc_el hB rfl ?_
    intro g wA hG hge hBA
    replace hB:=hBA
    refine hK.out _ _ hB ?_
    clear hK K
    try simp only[Act.put,pA_,pB_,pC_]
    refine bD_ 5 fun K hK=>?_
    refine wp_store_el (l:=z4) (l2:=lm) hB hge _ _ rfl rfl rfl hG z4_el hm ?_
    intro wS hGS hBS
    replace hB:=hBS
    refine hK.out _ _ hB ?_
    clear hK K
    try simp only[Act.put,pA_,pB_,pC_]
    refine wpB_done (by kernel_rfl) ?_
    go_wp2_with fail
    go_meet
    exact⟨g,lm,rfl,hge,hm,pm,hGS,hB⟩
   ·refine wp_alloc_el hB rfl ?_
    intro g wA hG hge hBA
    replace hB:=hBA
    refine hK.out _ _ hB ?_
    clear hK K
    try simp only[Act.put,pA_,pB_,pC_]
    refine bD_ 3 fun K hK=>?_
    go_simp
    refine(fmul_any _ _ l7 lq h7 hq rfl rfl _).mono ?_
    rintro e wm ⟨lm,rfl,hm,hem,bm⟩
    have pm:=Pw.exp (p7.mul pq hem) (dn_add 10 10)
    replace hB:=stepB hB bm
    try replace hG:=hG.kept bm
    refine hK.out _ _ hB ?_
    clear hK K
    try simp only[Act.put,pA_,pB_,pC_]
    refine bD_ 5 fun K hK=>?_
    refine wp_store_el (l:=z4) (l2:=lm) hB hge _ _ rfl rfl rfl hG z4_el hm ?_
    intro wS hGS hBS
    replace hB:=hBS
    refine hK.out _ _ hB ?_
    clear hK K
    try simp only[Act.put,pA_,pB_,pC_]
    refine wpB_done (by kernel_rfl) ?_
    go_wp2_with fail
    go_meet
    exact⟨g,lm,rfl,hge,hm,pm,hGS,hB⟩
  ·refine wp_alloc_el hB rfl ?_
   intro g wA hG hge hBA
   replace hB:=hBA
   refine hK.out _ _ hB ?_
   clear hK K
   try simp only[Act.put,pA_,pB_,pC_]
   refine bD_ 2 fun K hK=>?_
   go_simp
   refine(squares_any _ l7 10 _ h7 (by decide) rfl rfl _).mono ?_
   rintro e wq ⟨lq,rfl,hq,heq,bq⟩
   have pq:=p7.sqs (n:=10) heq
   replace hB:=stepB hB bq
   try replace hG:=hG.kept bq
   refine hK.out _ _ hB ?_
   clear hK K
   try simp only[Act.put,pA_,pB_,pC_]
   refine bD_ 3 fun K hK=>?_
   go_simp
   refine(fmul_any _ _ l7 lq h7 hq rfl rfl _).mono ?_
   rintro e wm ⟨lm,rfl,hm,hem,bm⟩
   have pm:=Pw.exp (p7.mul pq hem) (dn_add 10 10)
   replace hB:=stepB hB bm
   try replace hG:=hG.kept bm
   refine hK.out _ _ hB ?_
   clear hK K
   try simp only[Act.put,pA_,pB_,pC_]
   refine bD_ 5 fun K hK=>?_
   refine wp_store_el (l:=z4) (l2:=lm) hB hge _ _ rfl rfl rfl hG z4_el hm ?_
   intro wS hGS hBS
   replace hB:=hBS
   refine hK.out _ _ hB ?_
   clear hK K
   try simp only[Act.put,pA_,pB_,pC_]
   refine wpB_done (by kernel_rfl) ?_
   go_wp2_with fail
   go_meet
   exact⟨g,lm,rfl,hge,hm,pm,hGS,hB⟩
 case rest=>
 obtain⟨g8,l8,rfl,hge8,H8,P8,r8,bc8⟩:=hcut
 have h8:=H8.out
 have p8:=P8.out
 clear H8 P8
 replace r2:=r2.kept bc8
 replace r5:=r5.kept bc8
 replace r7:=r7.kept bc8
 replace hbw:=stepB hbw bc8
 clear bc8
 rename World=>W8
 go_upto_region 7 with fail
 go_cut [9] (fun v wx=>∃(g:Nat) (l:List Nat),v=.pointer (some ⟨g,0,none⟩)∧W8.heap.size≤g∧Hid (El4 l)∧Hid (Pw X (dn 40) l)∧RowAt .u64 157 g 4 (nI l) wx∧Below W8.heap.size W8 wx)
 case first=>
  have hB:Below W8.heap.size W8 W8.drew:=(Below.refl _ _).drew
  refine wpB_begin (Below.refl W8.heap.size W8) (by kernel_rfl) ?_
  refine bU_ hB 0 rfl ⟨_,by intro W hW;refine Eq.trans (exec_load_row' 157 _ (by rfl) (by rfl) r8 hW _ Tryz.underlying157 rfl (elInfo h8)) ?_;with_reducible rfl,?_⟩
  try simp only[Act.put,pA_,pB_,pC_]
  refine bU_ hB 1 rfl ⟨_,by intro W hW;refine Eq.trans (exec_load_row' 157 _ (by rfl) (by rfl) r8 hW _ Tryz.underlying157 rfl (elInfo h8)) ?_;with_reducible rfl,?_⟩
  try simp only[Act.put,pA_,pB_,pC_]
  refine bF_ 2 4 (fun K hK=>?_) (fun K hK=>?_)
  ·go_simp
   refine(squares_any _ l8 20 _ h8 (by decide) rfl rfl _).mono ?_
   rintro e wq ⟨lq,rfl,hq,heq,bq⟩
   have pq:=p8.sqs (n:=20) heq
   replace hB:=stepB hB bq
   try replace hG:=hG.kept bq
   refine hK.out _ _ hB ?_
   clear hK K
   try simp only[Act.put,pA_,pB_,pC_]
   refine bF_ 3 4 (fun K hK=>?_) (fun K hK=>?_)
   ·go_simp
    refine(fmul_any _ _ l8 lq h8 hq rfl rfl _).mono ?_
    rintro e wm ⟨lm,rfl,hm,hem,bm⟩
    have pm:=Pw.exp (p8.mul pq hem) (dn_add 20 20)
    replace hB:=stepB hB bm
    try replace hG:=hG.kept bm
    refine hK.out _ _ hB ?_
    clear hK K
    try simp only[Act.put,pA_,pB_,pC_]
    refine bD_ 4 fun K hK=>?_
    refine wp_alloc_el hB rfl ?_
    intro g wA hG hge hBA
    replace hB:=hBA
    refine hK.out _ _ hB ?_
    clear hK K
    try simp only[Act.put,pA_,pB_,pC_]
    refine bD_ 5 fun K hK=>?_
    refine wp_store_el (l:=z4) (l2:=lm) hB hge _ _ rfl rfl rfl hG z4_el hm ?_
    intro wS hGS hBS
    replace hB:=hBS
    refine hK.out _ _ hB ?_
    clear hK K
    try simp only[Act.put,pA_,pB_,pC_]
    refine wpB_done (by kernel_rfl) ?_
    go_wp2_with fail
    go_meet
    exact⟨g,lm,rfl,hge,hm,pm,hGS,hB⟩
   ·refine wp_alloc_el hB rfl ?_
    intro g wA hG hge hBA
    replace hB:=hBA
    refine hK.out _ _ hB ?_
    clear hK K
    try simp only[Act.put,pA_,pB_,pC_]
    refine bD_ 3 fun K hK=>?_
    go_simp
    refine(fmul_any _ _ l8 lq h8 hq rfl rfl _).mono ?_
    rintro e wm ⟨lm,rfl,hm,hem,bm⟩
    have pm:=Pw.exp (p8.mul pq hem) (dn_add 20 20)
    replace hB:=stepB hB bm
    try replace hG:=hG.kept bm
    refine hK.out _ _ hB ?_
    clear hK K
    try simp only[Act.put,pA_,pB_,pC_]
    refine bD_ 5 fun K hK=>?_
    refine wp_store_el (l:=z4) (l2:=lm) hB hge _ _ rfl rfl rfl hG z4_el hm ?_
    intro wS hGS hBS
    replace hB:=hBS
    refine hK.out _ _ hB ?_
    clear hK K
    try simp only[Act.put,pA_,pB_,pC_]
    refine wpB_done (by kernel_rfl) ?_
    go_wp2_with fail
    go_meet
    exact⟨g,lm,rfl,hge,hm,pm,hGS,hB⟩
  ·refine wp_alloc_el hB rfl ?_
   intro g wA hG hge hBA
   replace hB:=hBA
   refine hK.out _ _ hB ?_
   clear hK K
   try simp only[Act.put,pA_,pB_,pC_]
   refine bD_ 2 fun K hK=>?_
   go_simp
   refine(squares_any _ l8 20 _ h8 (by decide) rfl rfl _).mono ?_
   rintro e wq ⟨lq,rfl,hq,heq,bq⟩
   have pq:=p8.sqs (n:=20) heq
   replace hB:=stepB hB bq
   try replace hG:=hG.kept bq
   refine hK.out _ _ hB ?_
   clear hK K
   try simp only[Act.put,pA_,pB_,pC_]
   refine bD_ 3 fun K hK=>?_
   go_simp
   refine(fmul_any _ _ l8 lq h8 hq rfl rfl _).mono ?_
   rintro e wm ⟨lm,rfl,hm,hem,bm⟩
   have pm:=Pw.exp (p8.mul pq hem) (dn_add 20 20)
   replace hB:=stepB hB bm
   try replace hG:=hG.kept bm
   refine hK.out _ _ hB ?_
   clear hK K
   try simp only[Act.put,pA_,pB_,pC_]
   refine bD_ 5 fun K hK=>?_
   refine wp_store_el (l:=z4) (l2:=lm) hB hge _ _ rfl rfl rfl hG z4_el hm ?_
   intro wS hGS hBS
   replace hB:=hBS
   refine hK.out _ _ hB ?_
   clear hK K
   try simp only[Act.put,pA_,pB_,pC_]
   refine wpB_done (by kernel_rfl) ?_
   go_wp2_with fail
   go_meet
   exact⟨g,lm,rfl,hge,hm,pm,hGS,hB⟩
 case rest=>
 obtain⟨g9,l9,rfl,hge9,H9,P9,r9,bc9⟩:=hcut
 have h9:=H9.out
 have p9:=P9.out
 clear H9 P9
 replace r2:=r2.kept bc9
 replace r5:=r5.kept bc9
 replace r7:=r7.kept bc9
 replace r8:=r8.kept bc9
 replace hbw:=stepB hbw bc9
 clear bc9
 rename World=>W9
 clear r8
 go_upto_region 8 with fail
 go_cut [10] (fun v wx=>∃(g:Nat) (l:List Nat),v=.pointer (some ⟨g,0,none⟩)∧W9.heap.size≤g∧Hid (El4 l)∧Hid (Pw X (dn 50) l)∧RowAt .u64 157 g 4 (nI l) wx∧Below W9.heap.size W9 wx)
 case first=>
  have hB:Below W9.heap.size W9 W9.drew:=(Below.refl _ _).drew
  refine wpB_begin (Below.refl W9.heap.size W9) (by kernel_rfl) ?_
  refine bU_ hB 0 rfl ⟨_,by intro W hW;refine Eq.trans (exec_load_row' 157 _ (by rfl) (by rfl) r7 hW _ Tryz.underlying157 rfl (elInfo h7)) ?_;with_reducible rfl,?_⟩
  try simp only[Act.put,pA_,pB_,pC_]
  refine bU_ hB 1 rfl ⟨_,by intro W hW;refine Eq.trans (exec_load_row' 157 _ (by rfl) (by rfl) r9 hW _ Tryz.underlying157 rfl (elInfo h9)) ?_;with_reducible rfl,?_⟩
  try simp only[Act.put,pA_,pB_,pC_]
  refine bF_ 2 4 (fun K hK=>?_) (fun K hK=>?_)
  ·go_simp
   refine(squares_any _ l9 10 _ h9 (by decide) rfl rfl _).mono ?_
   rintro e wq ⟨lq,rfl,hq,heq,bq⟩
   have pq:=p9.sqs (n:=10) heq
   replace hB:=stepB hB bq
   try replace hG:=hG.kept bq
   refine hK.out _ _ hB ?_
   clear hK K
   try simp only[Act.put,pA_,pB_,pC_]
   refine bF_ 3 4 (fun K hK=>?_) (fun K hK=>?_)
   ·go_simp
    refine(fmul_any _ _ l7 lq h7 hq rfl rfl _).mono ?_
    rintro e wm ⟨lm,rfl,hm,hem,bm⟩
    have pm:=Pw.exp (p7.mul pq hem) (dn_add 10 40)
    replace hB:=stepB hB bm
    try replace hG:=hG.kept bm
    refine hK.out _ _ hB ?_
    clear hK K
    try simp only[Act.put,pA_,pB_,pC_]
    refine bD_ 4 fun K hK=>?_
    refine wp_alloc_el hB rfl ?_
    intro g wA hG hge hBA
    replace hB:=hBA
    refine hK.out _ _ hB ?_
    clear hK K
    try simp only[Act.put,pA_,pB_,pC_]
    refine bD_ 5 fun K hK=>?_
    refine wp_store_el (l:=z4) (l2:=lm) hB hge _ _ rfl rfl rfl hG z4_el hm ?_
    intro wS hGS hBS
    replace hB:=hBS
    refine hK.out _ _ hB ?_
    clear hK K
    try simp only[Act.put,pA_,pB_,pC_]
    refine wpB_done (by kernel_rfl) ?_
    go_wp2_with fail
    go_meet
    exact⟨g,lm,rfl,hge,hm,pm,hGS,hB⟩
   ·refine wp_alloc_el hB rfl ?_
    intro g wA hG hge hBA
    replace hB:=hBA
    refine hK.out _ _ hB ?_
    clear hK K
    try simp only[Act.put,pA_,pB_,pC_]
    refine bD_ 3 fun K hK=>?_
    go_simp
    refine(fmul_any _ _ l7 lq h7 hq rfl rfl _).mono ?_
    rintro e wm ⟨lm,rfl,hm,hem,bm⟩
    have pm:=Pw.exp (p7.mul pq hem) (dn_add 10 40)
    replace hB:=stepB hB bm
    try replace hG:=hG.kept bm
    refine hK.out _ _ hB ?_
    clear hK K
    try simp only[Act.put,pA_,pB_,pC_]
    refine bD_ 5 fun K hK=>?_
    refine wp_store_el (l:=z4) (l2:=lm) hB hge _ _ rfl rfl rfl hG z4_el hm ?_
    intro wS hGS hBS
    replace hB:=hBS
    refine hK.out _ _ hB ?_
    clear hK K
    try simp only[Act.put,pA_,pB_,pC_]
    refine wpB_done (by kernel_rfl) ?_
    go_wp2_with fail
    go_meet
    exact⟨g,lm,rfl,hge,hm,pm,hGS,hB⟩
  ·refine wp_alloc_el hB rfl ?_
   intro g wA hG hge hBA
   replace hB:=hBA
   refine hK.out _ _ hB ?_
   clear hK K
   try simp only[Act.put,pA_,pB_,pC_]
   refine bD_ 2 fun K hK=>?_
   go_simp
   refine(squares_any _ l9 10 _ h9 (by decide) rfl rfl _).mono ?_
   rintro e wq ⟨lq,rfl,hq,heq,bq⟩
   have pq:=p9.sqs (n:=10) heq
   replace hB:=stepB hB bq
   try replace hG:=hG.kept bq
   refine hK.out _ _ hB ?_
   clear hK K
   try simp only[Act.put,pA_,pB_,pC_]
   refine bD_ 3 fun K hK=>?_
   go_simp
   refine(fmul_any _ _ l7 lq h7 hq rfl rfl _).mono ?_
   rintro e wm ⟨lm,rfl,hm,hem,bm⟩
   have pm:=Pw.exp (p7.mul pq hem) (dn_add 10 40)
   replace hB:=stepB hB bm
   try replace hG:=hG.kept bm
   refine hK.out _ _ hB ?_
   clear hK K
   try simp only[Act.put,pA_,pB_,pC_]
   refine bD_ 5 fun K hK=>?_
   refine wp_store_el (l:=z4) (l2:=lm) hB hge _ _ rfl rfl rfl hG z4_el hm ?_
   intro wS hGS hBS
   replace hB:=hBS
   refine hK.out _ _ hB ?_
   clear hK K
   try simp only[Act.put,pA_,pB_,pC_]
   refine wpB_done (by kernel_rfl) ?_
   go_wp2_with fail
   go_meet
   exact⟨g,lm,rfl,hge,hm,pm,hGS,hB⟩
 case rest=>
 obtain⟨g10,l10,rfl,hge10,H10,P10,r10,bc10⟩:=hcut
 have h10:=H10.out
 have p10:=P10.out
 clear H10 P10
 replace r2:=r2.kept bc10
 replace r5:=r5.kept bc10
 replace r7:=r7.kept bc10
 replace r9:=r9.kept bc10
 replace hbw:=stepB hbw bc10
 clear bc10
 rename World=>W10
 clear r7
 clear r9
 go_upto_region 9 with fail
 go_cut [11] (fun v wx=>∃(g:Nat) (l:List Nat),v=.pointer (some ⟨g,0,none⟩)∧W10.heap.size≤g∧Hid (El4 l)∧Hid (Pw X (dn 100) l)∧RowAt .u64 157 g 4 (nI l) wx∧Below W10.heap.size W10 wx)
 case first=>
  have hB:Below W10.heap.size W10 W10.drew:=(Below.refl _ _).drew
  refine wpB_begin (Below.refl W10.heap.size W10) (by kernel_rfl) ?_
  refine bU_ hB 0 rfl ⟨_,by intro W hW;refine Eq.trans (exec_load_row' 157 _ (by rfl) (by rfl) r10 hW _ Tryz.underlying157 rfl (elInfo h10)) ?_;with_reducible rfl,?_⟩
  try simp only[Act.put,pA_,pB_,pC_]
  refine bU_ hB 1 rfl ⟨_,by intro W hW;refine Eq.trans (exec_load_row' 157 _ (by rfl) (by rfl) r10 hW _ Tryz.underlying157 rfl (elInfo h10)) ?_;with_reducible rfl,?_⟩
  try simp only[Act.put,pA_,pB_,pC_]
  refine bF_ 2 4 (fun K hK=>?_) (fun K hK=>?_)
  ·go_simp
   refine(squares_any _ l10 50 _ h10 (by decide) rfl rfl _).mono ?_
   rintro e wq ⟨lq,rfl,hq,heq,bq⟩
   have pq:=p10.sqs (n:=50) heq
   replace hB:=stepB hB bq
   try replace hG:=hG.kept bq
   refine hK.out _ _ hB ?_
   clear hK K
   try simp only[Act.put,pA_,pB_,pC_]
   refine bF_ 3 4 (fun K hK=>?_) (fun K hK=>?_)
   ·go_simp
    refine(fmul_any _ _ l10 lq h10 hq rfl rfl _).mono ?_
    rintro e wm ⟨lm,rfl,hm,hem,bm⟩
    have pm:=Pw.exp (p10.mul pq hem) (dn_add 50 50)
    replace hB:=stepB hB bm
    try replace hG:=hG.kept bm
    refine hK.out _ _ hB ?_
    clear hK K
    try simp only[Act.put,pA_,pB_,pC_]
    refine bD_ 4 fun K hK=>?_
    refine wp_alloc_el hB rfl ?_
    intro g wA hG hge hBA
    replace hB:=hBA
    refine hK.out _ _ hB ?_
    clear hK K
    try simp only[Act.put,pA_,pB_,pC_]
    refine bD_ 5 fun K hK=>?_
    refine wp_store_el (l:=z4) (l2:=lm) hB hge _ _ rfl rfl rfl hG z4_el hm ?_
    intro wS hGS hBS
    replace hB:=hBS
    refine hK.out _ _ hB ?_
    clear hK K
    try simp only[Act.put,pA_,pB_,pC_]
    refine wpB_done (by kernel_rfl) ?_
    go_wp2_with fail
    go_meet
    exact⟨g,lm,rfl,hge,hm,pm,hGS,hB⟩
   ·refine wp_alloc_el hB rfl ?_
    intro g wA hG hge hBA
    replace hB:=hBA
    refine hK.out _ _ hB ?_
    clear hK K
    try simp only[Act.put,pA_,pB_,pC_]
    refine bD_ 3 fun K hK=>?_
    go_simp
    refine(fmul_any _ _ l10 lq h10 hq rfl rfl _).mono ?_
    rintro e wm ⟨lm,rfl,hm,hem,bm⟩
    have pm:=Pw.exp (p10.mul pq hem) (dn_add 50 50)
    replace hB:=stepB hB bm
    try replace hG:=hG.kept bm
    refine hK.out _ _ hB ?_
    clear hK K
    try simp only[Act.put,pA_,pB_,pC_]
    refine bD_ 5 fun K hK=>?_
    refine wp_store_el (l:=z4) (l2:=lm) hB hge _ _ rfl rfl rfl hG z4_el hm ?_
    intro wS hGS hBS
    replace hB:=hBS
    refine hK.out _ _ hB ?_
    clear hK K
    try simp only[Act.put,pA_,pB_,pC_]
    refine wpB_done (by kernel_rfl) ?_
    go_wp2_with fail
    go_meet
    exact⟨g,lm,rfl,hge,hm,pm,hGS,hB⟩
  ·refine wp_alloc_el hB rfl ?_
   intro g wA hG hge hBA
   replace hB:=hBA
   refine hK.out _ _ hB ?_
   clear hK K
   try simp only[Act.put,pA_,pB_,pC_]
   refine bD_ 2 fun K hK=>?_
   go_simp
   refine(squares_any _ l10 50 _ h10 (by decide) rfl rfl _).mono ?_
   rintro e wq ⟨lq,rfl,hq,heq,bq⟩
   have pq:=p10.sqs (n:=50) heq
   replace hB:=stepB hB bq
   try replace hG:=hG.kept bq
   refine hK.out _ _ hB ?_
   clear hK K
   try simp only[Act.put,pA_,pB_,pC_]
   refine bD_ 3 fun K hK=>?_
   go_simp
   refine(fmul_any _ _ l10 lq h10 hq rfl rfl _).mono ?_
   rintro e wm ⟨lm,rfl,hm,hem,bm⟩
   have pm:=Pw.exp (p10.mul pq hem) (dn_add 50 50)
   replace hB:=stepB hB bm
   try replace hG:=hG.kept bm
   refine hK.out _ _ hB ?_
   clear hK K
   try simp only[Act.put,pA_,pB_,pC_]
   refine bD_ 5 fun K hK=>?_
   refine wp_store_el (l:=z4) (l2:=lm) hB hge _ _ rfl rfl rfl hG z4_el hm ?_
   intro wS hGS hBS
   replace hB:=hBS
   refine hK.out _ _ hB ?_
   clear hK K
   try simp only[Act.put,pA_,pB_,pC_]
   refine wpB_done (by kernel_rfl) ?_
   go_wp2_with fail
   go_meet
   exact⟨g,lm,rfl,hge,hm,pm,hGS,hB⟩
 case rest=>
 obtain⟨g11,l11,rfl,hge11,H11,P11,r11,bc11⟩:=hcut
 have h11:=H11.out
 have p11:=P11.out
 clear H11 P11
 replace r2:=r2.kept bc11
 replace r5:=r5.kept bc11
 replace r10:=r10.kept bc11
 replace hbw:=stepB hbw bc11
 clear bc11
 rename World=>W11
 go_upto_region 10 with fail
 go_cut [12] (fun v wx=>∃(g:Nat) (l:List Nat),v=.pointer (some ⟨g,0,none⟩)∧W11.heap.size≤g∧Hid (El4 l)∧Hid (Pw X (dn 200) l)∧RowAt .u64 157 g 4 (nI l) wx∧Below W11.heap.size W11 wx)
 case first=>
  have hB:Below W11.heap.size W11 W11.drew:=(Below.refl _ _).drew
  refine wpB_begin (Below.refl W11.heap.size W11) (by kernel_rfl) ?_
  refine bU_ hB 0 rfl ⟨_,by intro W hW;refine Eq.trans (exec_load_row' 157 _ (by rfl) (by rfl) r11 hW _ Tryz.underlying157 rfl (elInfo h11)) ?_;with_reducible rfl,?_⟩
  try simp only[Act.put,pA_,pB_,pC_]
  refine bU_ hB 1 rfl ⟨_,by intro W hW;refine Eq.trans (exec_load_row' 157 _ (by rfl) (by rfl) r11 hW _ Tryz.underlying157 rfl (elInfo h11)) ?_;with_reducible rfl,?_⟩
  try simp only[Act.put,pA_,pB_,pC_]
  refine bF_ 2 4 (fun K hK=>?_) (fun K hK=>?_)
  ·go_simp
   refine(squares_any _ l11 100 _ h11 (by decide) rfl rfl _).mono ?_
   rintro e wq ⟨lq,rfl,hq,heq,bq⟩
   have pq:=p11.sqs (n:=100) heq
   replace hB:=stepB hB bq
   try replace hG:=hG.kept bq
   refine hK.out _ _ hB ?_
   clear hK K
   try simp only[Act.put,pA_,pB_,pC_]
   refine bF_ 3 4 (fun K hK=>?_) (fun K hK=>?_)
   ·go_simp
    refine(fmul_any _ _ l11 lq h11 hq rfl rfl _).mono ?_
    rintro e wm ⟨lm,rfl,hm,hem,bm⟩
    have pm:=Pw.exp (p11.mul pq hem) (dn_add 100 100)
    replace hB:=stepB hB bm
    try replace hG:=hG.kept bm
    refine hK.out _ _ hB ?_
    clear hK K
    try simp only[Act.put,pA_,pB_,pC_]
    refine bD_ 4 fun K hK=>?_
    refine wp_alloc_el hB rfl ?_
    intro g wA hG hge hBA
    replace hB:=hBA
    refine hK.out _ _ hB ?_
    clear hK K
    try simp only[Act.put,pA_,pB_,pC_]
    refine bD_ 5 fun K hK=>?_
    refine wp_store_el (l:=z4) (l2:=lm) hB hge _ _ rfl rfl rfl hG z4_el hm ?_
    intro wS hGS hBS
    replace hB:=hBS
    refine hK.out _ _ hB ?_
    clear hK K
    try simp only[Act.put,pA_,pB_,pC_]
    refine wpB_done (by kernel_rfl) ?_
    go_wp2_with fail
    go_meet
    exact⟨g,lm,rfl,hge,hm,pm,hGS,hB⟩
   ·refine wp_alloc_el hB rfl ?_
    intro g wA hG hge hBA
    replace hB:=hBA
    refine hK.out _ _ hB ?_
    clear hK K
    try simp only[Act.put,pA_,pB_,pC_]
    refine bD_ 3 fun K hK=>?_
    go_simp
    refine(fmul_any _ _ l11 lq h11 hq rfl rfl _).mono ?_
    rintro e wm ⟨lm,rfl,hm,hem,bm⟩
    have pm:=Pw.exp (p11.mul pq hem) (dn_add 100 100)
    replace hB:=stepB hB bm
    try replace hG:=hG.kept bm
    refine hK.out _ _ hB ?_
    clear hK K
    try simp only[Act.put,pA_,pB_,pC_]
    refine bD_ 5 fun K hK=>?_
    refine wp_store_el (l:=z4) (l2:=lm) hB hge _ _ rfl rfl rfl hG z4_el hm ?_
    intro wS hGS hBS
    replace hB:=hBS
    refine hK.out _ _ hB ?_
    clear hK K
    try simp only[Act.put,pA_,pB_,pC_]
    refine wpB_done (by kernel_rfl) ?_
    go_wp2_with fail
    go_meet
    exact⟨g,lm,rfl,hge,hm,pm,hGS,hB⟩
  ·refine wp_alloc_el hB rfl ?_
   intro g wA hG hge hBA
   replace hB:=hBA
   refine hK.out _ _ hB ?_
   clear hK K
   try simp only[Act.put,pA_,pB_,pC_]
   refine bD_ 2 fun K hK=>?_
   go_simp
   refine(squares_any _ l11 100 _ h11 (by decide) rfl rfl _).mono ?_
   rintro e wq ⟨lq,rfl,hq,heq,bq⟩
   have pq:=p11.sqs (n:=100) heq
   replace hB:=stepB hB bq
   try replace hG:=hG.kept bq
   refine hK.out _ _ hB ?_
   clear hK K
   try simp only[Act.put,pA_,pB_,pC_]
   refine bD_ 3 fun K hK=>?_
   go_simp
   refine(fmul_any _ _ l11 lq h11 hq rfl rfl _).mono ?_
   rintro e wm ⟨lm,rfl,hm,hem,bm⟩
   have pm:=Pw.exp (p11.mul pq hem) (dn_add 100 100)
   replace hB:=stepB hB bm
   try replace hG:=hG.kept bm
   refine hK.out _ _ hB ?_
   clear hK K
   try simp only[Act.put,pA_,pB_,pC_]
   refine bD_ 5 fun K hK=>?_
   refine wp_store_el (l:=z4) (l2:=lm) hB hge _ _ rfl rfl rfl hG z4_el hm ?_
   intro wS hGS hBS
   replace hB:=hBS
   refine hK.out _ _ hB ?_
   clear hK K
   try simp only[Act.put,pA_,pB_,pC_]
   refine wpB_done (by kernel_rfl) ?_
   go_wp2_with fail
   go_meet
   exact⟨g,lm,rfl,hge,hm,pm,hGS,hB⟩
 case rest=>
 obtain⟨g12,l12,rfl,hge12,H12,P12,r12,bc12⟩:=hcut
 have h12:=H12.out
 have p12:=P12.out
 clear H12 P12
 replace r2:=r2.kept bc12
 replace r5:=r5.kept bc12
 replace r10:=r10.kept bc12
 replace r11:=r11.kept bc12
 replace hbw:=stepB hbw bc12
 clear bc12
 rename World=>W12
 clear r11
 go_upto_region 11 with fail
 go_cut [13] (fun v wx=>∃(g:Nat) (l:List Nat),v=.pointer (some ⟨g,0,none⟩)∧W12.heap.size≤g∧Hid (El4 l)∧Hid (Pw X (dn 250) l)∧RowAt .u64 157 g 4 (nI l) wx∧Below W12.heap.size W12 wx)
 case first=>
  have hB:Below W12.heap.size W12 W12.drew:=(Below.refl _ _).drew
  refine wpB_begin (Below.refl W12.heap.size W12) (by kernel_rfl) ?_
  refine bU_ hB 0 rfl ⟨_,by intro W hW;refine Eq.trans (exec_load_row' 157 _ (by rfl) (by rfl) r10 hW _ Tryz.underlying157 rfl (elInfo h10)) ?_;with_reducible rfl,?_⟩
  try simp only[Act.put,pA_,pB_,pC_]
  refine bU_ hB 1 rfl ⟨_,by intro W hW;refine Eq.trans (exec_load_row' 157 _ (by rfl) (by rfl) r12 hW _ Tryz.underlying157 rfl (elInfo h12)) ?_;with_reducible rfl,?_⟩
  try simp only[Act.put,pA_,pB_,pC_]
  refine bF_ 2 4 (fun K hK=>?_) (fun K hK=>?_)
  ·go_simp
   refine(squares_any _ l12 50 _ h12 (by decide) rfl rfl _).mono ?_
   rintro e wq ⟨lq,rfl,hq,heq,bq⟩
   have pq:=p12.sqs (n:=50) heq
   replace hB:=stepB hB bq
   try replace hG:=hG.kept bq
   refine hK.out _ _ hB ?_
   clear hK K
   try simp only[Act.put,pA_,pB_,pC_]
   refine bF_ 3 4 (fun K hK=>?_) (fun K hK=>?_)
   ·go_simp
    refine(fmul_any _ _ l10 lq h10 hq rfl rfl _).mono ?_
    rintro e wm ⟨lm,rfl,hm,hem,bm⟩
    have pm:=Pw.exp (p10.mul pq hem) (dn_add 50 200)
    replace hB:=stepB hB bm
    try replace hG:=hG.kept bm
    refine hK.out _ _ hB ?_
    clear hK K
    try simp only[Act.put,pA_,pB_,pC_]
    refine bD_ 4 fun K hK=>?_
    refine wp_alloc_el hB rfl ?_
    intro g wA hG hge hBA
    replace hB:=hBA
    refine hK.out _ _ hB ?_
    clear hK K
    try simp only[Act.put,pA_,pB_,pC_]
    refine bD_ 5 fun K hK=>?_
    refine wp_store_el (l:=z4) (l2:=lm) hB hge _ _ rfl rfl rfl hG z4_el hm ?_
    intro wS hGS hBS
    replace hB:=hBS
    refine hK.out _ _ hB ?_
    clear hK K
    try simp only[Act.put,pA_,pB_,pC_]
    refine wpB_done (by kernel_rfl) ?_
    go_wp2_with fail
    go_meet
    exact⟨g,lm,rfl,hge,hm,pm,hGS,hB⟩
   ·refine wp_alloc_el hB rfl ?_
    intro g wA hG hge hBA
    replace hB:=hBA
    refine hK.out _ _ hB ?_
    clear hK K
    try simp only[Act.put,pA_,pB_,pC_]
    refine bD_ 3 fun K hK=>?_
    go_simp
    refine(fmul_any _ _ l10 lq h10 hq rfl rfl _).mono ?_
    rintro e wm ⟨lm,rfl,hm,hem,bm⟩
    have pm:=Pw.exp (p10.mul pq hem) (dn_add 50 200)
    replace hB:=stepB hB bm
    try replace hG:=hG.kept bm
    refine hK.out _ _ hB ?_
    clear hK K
    try simp only[Act.put,pA_,pB_,pC_]
    refine bD_ 5 fun K hK=>?_
    refine wp_store_el (l:=z4) (l2:=lm) hB hge _ _ rfl rfl rfl hG z4_el hm ?_
    intro wS hGS hBS
    replace hB:=hBS
    refine hK.out _ _ hB ?_
    clear hK K
    try simp only[Act.put,pA_,pB_,pC_]
    refine wpB_done (by kernel_rfl) ?_
    go_wp2_with fail
    go_meet
    exact⟨g,lm,rfl,hge,hm,pm,hGS,hB⟩
  ·refine wp_alloc_el hB rfl ?_
   intro g wA hG hge hBA
   replace hB:=hBA
   refine hK.out _ _ hB ?_
   clear hK K
   try simp only[Act.put,pA_,pB_,pC_]
   refine bD_ 2 fun K hK=>?_
   go_simp
   refine(squares_any _ l12 50 _ h12 (by decide) rfl rfl _).mono ?_
   rintro e wq ⟨lq,rfl,hq,heq,bq⟩
   have pq:=p12.sqs (n:=50) heq
   replace hB:=stepB hB bq
   try replace hG:=hG.kept bq
   refine hK.out _ _ hB ?_
   clear hK K
   try simp only[Act.put,pA_,pB_,pC_]
   refine bD_ 3 fun K hK=>?_
   go_simp
   refine(fmul_any _ _ l10 lq h10 hq rfl rfl _).mono ?_
   rintro e wm ⟨lm,rfl,hm,hem,bm⟩
   have pm:=Pw.exp (p10.mul pq hem) (dn_add 50 200)
   replace hB:=stepB hB bm
   try replace hG:=hG.kept bm
   refine hK.out _ _ hB ?_
   clear hK K
   try simp only[Act.put,pA_,pB_,pC_]
   refine bD_ 5 fun K hK=>?_
   refine wp_store_el (l:=z4) (l2:=lm) hB hge _ _ rfl rfl rfl hG z4_el hm ?_
   intro wS hGS hBS
   replace hB:=hBS
   refine hK.out _ _ hB ?_
   clear hK K
   try simp only[Act.put,pA_,pB_,pC_]
   refine wpB_done (by kernel_rfl) ?_
   go_wp2_with fail
   go_meet
   exact⟨g,lm,rfl,hge,hm,pm,hGS,hB⟩
 case rest=>
 obtain⟨g13,l13,rfl,hge13,H13,P13,r13,bc13⟩:=hcut
 have h13:=H13.out
 have p13:=P13.out
 clear H13 P13
 replace r2:=r2.kept bc13
 replace r5:=r5.kept bc13
 replace r10:=r10.kept bc13
 replace r12:=r12.kept bc13
 replace hbw:=stepB hbw bc13
 clear bc13
 rename World=>W13
 clear r10
 clear r12
 have hg2:=r2.lt
 go_wp2_with fail
 refine wpE_begin 4 (by kernel_rfl) ?_
 refine eU_ 0 rfl ⟨_,by intro W hW;refine Eq.trans (exec_load_row 157 _ (by rfl) (by rfl) r5 hW _ Tryz.underlying157 rfl (elInfo h5)) ?_;with_reducible rfl,?_⟩
 try simp only[Act.put,pA_,pB_,pC_]
 refine eU_ 1 rfl ⟨_,by intro W hW;refine Eq.trans (exec_load_row 157 _ (by rfl) (by rfl) r13 hW _ Tryz.underlying157 rfl (elInfo h13)) ?_;with_reducible rfl,?_⟩
 try simp only[Act.put,pA_,pB_,pC_]
 refine eD_ 2 fun K hK=>?_
 go_simp
 refine(squares_any _ l13 5 _ h13 (by decide) rfl rfl _).mono ?_
 rintro e wq ⟨lq,rfl,hq,heq,bq⟩
 have pq:=p13.sqs (n:=5) heq
 refine hK.out _ _ bq ?_
 clear hK K
 try simp only[Act.put,pA_,pB_,pC_]
 refine eD_ 3 fun K hK=>?_
 go_simp
 refine(fmul_any _ _ l5 lq h5 hq rfl rfl _).mono ?_
 rintro e wm ⟨lm,rfl,hm,hem,bm⟩
 have pm:=Pw.exp (p5.mul pq hem) dn_inv
 refine hK.out _ _ bm ?_
 clear hK K
 try simp only[Act.put,pA_,pB_,pC_]
 refine eL_ fun K hK=>?_
 refine wp_store_row 157 _ _ rfl (nI lm) rfl rfl ((r2.drew.kept bq).kept bm) (by rw[z4_el.len,hm.len]) (elInfo z4_el) ?_
 intro wS rS hwS
 refine hK.out _ _ ?_
 clear hK K
 try simp only[Act.put,pA_,pB_,pC_]
 go_wp2_with fail
 refine bodyPost_row (p:=2) (ty:=157) rfl rfl rfl rS Tryz.underlying157 rfl (elInfo hm) ?_
 exact⟨lm,rfl,hm,pm.told HX.out,hwS.below _ _ (by omega) (stepB (stepB hbw.drew bq) bm)⟩
def gv (l:List Nat):FF:=fv (wv l)
theorem fv_back {x y z:Nat} (h:(x+y) % pN=z % pN):fv x=fv z - fv y:=by
 have h1:fv x+fv y=fv z:=by rw[←fv_add,fv_eq];exact h
 rw[←h1]
 generalize fv x=a
 generalize fv y=b
 grind -lia

theorem gadd_any (A B:Array Value) (a b:List Nat) (ha:El4 a) (hb:El4 b) (hA:A=((nI a).map (Value.int .u64)).toArray) (hB:B=((nI b).map (Value.int .u64)).toArray) (w:World):
  Calls Tryz.prog 357 #[.agg A,.agg B] w fun e w'=>∃r:List Nat,e=.returned (elV r)∧El4 r∧gv r=gv a+gv b∧Below w.heap.size w w':=
 (fadd_any A B a b ha hb hA hB w).mono fun e w' ⟨r,h1,h2,h3,h4⟩=>⟨r,h1,h2,by unfold gv;rw[←fv_add,fv_eq];exact h3,h4⟩
theorem gsub_any (A B:Array Value) (a b:List Nat) (ha:El4 a) (hb:El4 b) (hA:A=((nI a).map (Value.int .u64)).toArray) (hB:B=((nI b).map (Value.int .u64)).toArray) (w:World):
  Calls Tryz.prog 358 #[.agg A,.agg B] w fun e w'=>∃r:List Nat,e=.returned (elV r)∧El4 r∧gv r=gv a - gv b∧Below w.heap.size w w':=
 (fsub_any A B a b ha hb hA hB w).mono fun e w' ⟨r,h1,h2,h3,h4⟩=>⟨r,h1,h2,fv_back h3,h4⟩
theorem gmul_any (A B:Array Value) (a b:List Nat) (ha:El4 a) (hb:El4 b) (hA:A=((nI a).map (Value.int .u64)).toArray) (hB:B=((nI b).map (Value.int .u64)).toArray) (w:World):
  Calls Tryz.prog 319 #[.agg A,.agg B] w fun e w'=>∃r:List Nat,e=.returned (elV r)∧El4 r∧gv r=gv a * gv b∧Below w.heap.size w w':=
 (fmul_any A B a b ha hb hA hB w).mono fun e w' ⟨r,h1,h2,h3,h4⟩=>⟨r,h1,h2,by unfold gv;rw[←fv_mul,fv_eq];exact h3,h4⟩
theorem gsquare_any (A:Array Value) (a:List Nat) (ha:El4 a) (hA:A=((nI a).map (Value.int .u64)).toArray) (w:World):
  Calls Tryz.prog 356 #[.agg A] w fun e w'=>∃r:List Nat,e=.returned (elV r)∧El4 r∧gv r=gv a * gv a∧Below w.heap.size w w':=
 (fsquare_any A a ha hA w).mono fun e w' ⟨r,h1,h2,h3,h4⟩=>⟨r,h1,h2,by unfold gv;rw[←fv_mul,fv_eq];exact h3,h4⟩
theorem gtimes_any (A:Array Value) (a:List Nat) (ha:El4 a) (hA:A=((nI a).map (Value.int .u64)).toArray) (w:World):
  Calls Tryz.prog 359 #[.agg A,.int .u32 121665] w fun e w'=>∃r:List Nat,e=.returned (elV r)∧El4 r∧gv r=121665 * gv a∧Below w.heap.size w w':=
 (ftimes_any A a 121665 121665 ha (by decide) hA rfl w).mono fun e w' ⟨r,h1,h2,h3,h4⟩=>⟨r,h1,h2,by unfold gv;rw[←fv_c,←fv_mul,fv_eq];exact h3,h4⟩
theorem ginvert_any (A:Array Value) (a:List Nat) (ha:El4 a) (hA:A=((nI a).map (Value.int .u64)).toArray) (w:World):
  Calls Tryz.prog 320 #[.agg A] w fun e w'=>∃r:List Nat,e=.returned (elV r)∧El4 r∧gv r=finv (gv a)∧Below w.heap.size w w':=
 (finvert_any A a ha hA w).mono fun e w' ⟨r,h1,h2,h3,h4⟩=>⟨r,h1,h2,by unfold gv;rw[←fv_pow,fv_eq];exact h3,h4⟩

def cE (l:List Nat):List Value:=(nI l).map (Value.int .u64)
theorem cE_len {l:List Nat} (h:El4 l):(cE l).length=4:=by unfold cE;rw[List.length_map,h.len]
theorem cE_one (l:List Nat):∀v∈cE l,v.oneCell'=true:=by
 intro v hv
 obtain⟨x,_,rfl⟩:=List.mem_map.1 hv
 rfl
def frC (a b:List Nat):List Value:=cE a++cE b
def prC (a b c d:List Nat):List Value:=frC a b++frC c d
theorem frC_len {a b:List Nat} (ha:El4 a) (hb:El4 b):(frC a b).length=8:=by rw[frC,List.length_append,cE_len ha,cE_len hb]
theorem prC_len {a b c d:List Nat} (ha:El4 a) (hb:El4 b) (hc:El4 c) (hd:El4 d):(prC a b c d).length=16:=by rw[prC,List.length_append,frC_len ha hb,frC_len hc hd]
theorem cE_all (l:List Nat):(cE l).toArray.all (·.oneCell')=true:=all_oneCell_toArray (cE_one l)
theorem frC_all (a b:List Nat):(frC a b).toArray.all (·.oneCell')=true:=all_oneCell_toArray fun v hv=>by
 rcases List.mem_append.1 hv with h|h
 ·exact cE_one a v h
 ·exact cE_one b v h
theorem prC_all (a b c d:List Nat):(prC a b c d).toArray.all (·.oneCell')=true:=all_oneCell_toArray fun v hv=>by
 rcases List.mem_append.1 hv with h|h
 ·rcases List.mem_append.1 h with h|h
  ·exact cE_one a v h
  ·exact cE_one b v h
 ·rcases List.mem_append.1 h with h|h
  ·exact cE_one c v h
  ·exact cE_one d v h
theorem infE {l:List Nat} (h:El4 l):(Tryz.prog.info? 157).map (·.size)=some (cE l).length:=by rw[cE_len h];kernel_rfl
theorem infF {a b:List Nat} (ha:El4 a) (hb:El4 b):(Tryz.prog.info? 284).map (·.size)=some (frC a b).length:=by rw[frC_len ha hb];kernel_rfl
theorem infP {a b c d:List Nat} (ha:El4 a) (hb:El4 b) (hc:El4 c) (hd:El4 d):(Tryz.prog.info? 286).map (·.size)=some (prC a b c d).length:=by rw[prC_len ha hb hc hd];kernel_rfl
theorem allocE (w:World):(Instr.alloc 157 true (.tuple #[])).run Tryz.prog w=.ok (.pointer (some ⟨w.heap.size,0,none⟩)) (w.alloc (.cells (cE z4).toArray 157)):=by kernel_rfl
theorem allocF (w:World):(Instr.alloc 284 true (.tuple #[])).run Tryz.prog w=.ok (.pointer (some ⟨w.heap.size,0,none⟩)) (w.alloc (.cells (frC z4 z4).toArray 284)):=by kernel_rfl
theorem allocP (w:World):(Instr.alloc 286 true (.tuple #[])).run Tryz.prog w=.ok (.pointer (some ⟨w.heap.size,0,none⟩)) (w.alloc (.cells (prC z4 z4 z4 z4).toArray 286)):=by kernel_rfl
theorem buildF {a b:List Nat} (ha:El4 a) (hb:El4 b) (w:World):(Instr.build 284 #[(0,.agg (cE a).toArray),(1,.agg (cE b).toArray)]).run Tryz.prog w=.ok (.agg (frC a b).toArray) w:=by
 obtain⟨p,q,r,s,rfl, -⟩:=ha.four
 obtain⟨p',q',r',s',rfl, -⟩:=hb.four
 kernel_rfl
theorem buildP {a b c d:List Nat} (ha:El4 a) (hb:El4 b) (hc:El4 c) (hd:El4 d) (w:World):(Instr.build 286 #[(0,.agg (frC a b).toArray),(1,.agg (frC c d).toArray)]).run Tryz.prog w=.ok (.agg (prC a b c d).toArray) w:=by
 obtain⟨p,q,r,s,rfl, -⟩:=ha.four
 obtain⟨p',q',r',s',rfl, -⟩:=hb.four
 obtain⟨p2,q2,r2,s2,rfl, -⟩:=hc.four
 obtain⟨p3,q3,r3,s3,rfl, -⟩:=hd.four
 kernel_rfl
theorem parts1 (a b c d:List Nat):prC a b c d=[]++cE a++(cE b++(cE c++cE d)):=by simp[prC,frC]
theorem parts2 (a b c d:List Nat):prC a b c d=cE a++cE b++(cE c++cE d):=by simp[prC,frC]
theorem parts3 (a b c d:List Nat):prC a b c d=frC a b++cE c++cE d:=by simp[prC,frC]
theorem parts4 (a b c d:List Nat):prC a b c d=(frC a b++cE c)++cE d++[]:=by simp[prC,frC]
theorem first1 (a b c d:List Nat):prC a b c d=[]++frC a b++frC c d:=by simp[prC]
theorem whole1 (a:List Value):a=[]++a++[]:=by simp
theorem half1 (a b:List Nat):frC a b=[]++cE a++cE b:=by simp[frC]
theorem half2 (a b:List Nat):frC a b=cE a++cE b++[]:=by simp[frC]

set_option maxRecDepth 100000 in
set_option maxHeartbeats 2000000 in
theorem turned06_any (bit:Int) (P:Array Value) (a b c d:List Nat) (ha:El4 a) (hb:El4 b) (hc:El4 c) (hd:El4 d) (hP:P=(prC a b c d).toArray) (w:World):
  Calls Tryz.prog 244 #[.agg P,.int .i64 bit] w fun e w'=>e=.returned (.agg (prC (if bit=1 then c else a) (if bit=1 then d else b) (if bit=1 then a else c) (if bit=1 then b else d)).toArray)∧Below w.heap.size w w':=by
 obtain⟨X,hX⟩:∃l:List Nat,l=if bit=1 then c else a:=⟨_,rfl⟩
 obtain⟨Z,hZ⟩:∃l:List Nat,l=if bit=1 then d else b:=⟨_,rfl⟩
 obtain⟨S,hS⟩:∃l:List Nat,l=if bit=1 then a else c:=⟨_,rfl⟩
 obtain⟨T,hT⟩:∃l:List Nat,l=if bit=1 then b else d:=⟨_,rfl⟩
 have eX:El4 X:=by rw[hX];split<;>assumption
 have eZ:El4 Z:=by rw[hZ];split<;>assumption
 have eS:El4 S:=by rw[hS];split<;>assumption
 have eT:El4 T:=by rw[hT];split<;>assumption
 rw[←hX,←hZ,←hS,←hT]
 have HX:Hid _:=hX
 have HZ:Hid _:=hZ
 have HS:Hid _:=hS
 have HT:Hid _:=hT
 clear hX hZ hS hT
 go_enter Tryz.func244,Tryz.ntmps244
 go_wp2_with (refine wpList_box_blk rfl 286 _ rfl (prC a b c d) (by rw[←hP];rfl) ?_)
 intro w1 r1 b1 s1
 go_wp2_with (refine wpList_alloc_blk rfl 286 rfl (prC z4 z4 z4 z4) (allocP _) ?_)
 intro w2 r2 b2 s2
 replace r1:=r1.kept b2
 have hbw:=stepB b1 b2
 have n1:w.heap.size<w1.heap.size:=by have:=s1.out;omega
 clear b1 b2 s1 s2 hP
 go_wp2_with (first|refine wpList_load_part rfl 157 _ rfl rfl [] (cE a) (cE b++(cE c++cE d)) r1 (parts1 _ _ _ _) rfl Tryz.underlying157 rfl (infE ha) ?_|refine wpList_load_part rfl 157 _ rfl rfl (frC a b) (cE c) (cE d) r1 (parts3 _ _ _ _) (frC_len ha hb) Tryz.underlying157 rfl (infE hc) ?_)
 refine(swap_any _ _ _ a c ha hc rfl rfl _).mono ?_
 rintro e w3 ⟨rfl,b3⟩
 rw[←HX.out,←HS.out]
 replace r1:=r1.kept b3
 replace r2:=r2.kept b3
 replace hbw:=stepB hbw b3
 clear b3
 go_wp2_with (refine wpList_store_part rfl 157 _ _ rfl rfl (cE X) rfl [] (cE a) (cE b++(cE c++cE d)) (prC X b c d) r1 (parts1 _ _ _ _) (parts1 _ _ _ _) rfl (by rw[cE_len ha,cE_len eX]) (infE ha) (cE_all _) ?_)
 intro w4 r4 hw4
 replace r2:=r2.wrote hw4 (by omega)
 replace hbw:=hw4.below _ _ (Nat.le_refl _) hbw
 clear r1 hw4
 go_wp2_with (refine wpList_store_part rfl 157 _ _ rfl rfl (cE S) rfl (frC X b) (cE c) (cE d) (prC X b S d) r4 (parts3 _ _ _ _) (parts3 _ _ _ _) (frC_len eX hb) (by rw[cE_len hc,cE_len eS]) (infE hc) (cE_all _) ?_)
 intro w5 r5 hw5
 replace r2:=r2.wrote hw5 (by omega)
 replace hbw:=hw5.below _ _ (Nat.le_refl _) hbw
 clear r4 hw5
 go_wp2_with (first|refine wpList_load_part rfl 157 _ rfl rfl (cE X) (cE b) (cE S++cE d) r5 (parts2 _ _ _ _) (cE_len eX) Tryz.underlying157 rfl (infE hb) ?_|refine wpList_load_part rfl 157 _ rfl rfl (frC X b++cE S) (cE d) [] r5 (parts4 _ _ _ _) (by rw[List.length_append,frC_len eX hb,cE_len eS]) Tryz.underlying157 rfl (infE hd) ?_)
 refine(swap_any _ _ _ b d hb hd rfl rfl _).mono ?_
 rintro e w6 ⟨rfl,b6⟩
 rw[←HZ.out,←HT.out]
 replace r5:=r5.kept b6
 replace r2:=r2.kept b6
 replace hbw:=stepB hbw b6
 clear b6
 go_wp2_with (refine wpList_store_part rfl 157 _ _ rfl rfl (cE Z) rfl (cE X) (cE b) (cE S++cE d) (prC X Z S d) r5 (parts2 _ _ _ _) (parts2 _ _ _ _) (cE_len eX) (by rw[cE_len hb,cE_len eZ]) (infE hb) (cE_all _) ?_)
 intro w7 r7 hw7
 replace r2:=r2.wrote hw7 (by omega)
 replace hbw:=hw7.below _ _ (Nat.le_refl _) hbw
 clear r5 hw7
 go_wp2_with (refine wpList_store_part rfl 157 _ _ rfl rfl (cE T) rfl (frC X Z++cE S) (cE d) [] (prC X Z S T) r7 (parts4 _ _ _ _) (parts4 _ _ _ _) (by rw[List.length_append,frC_len eX eZ,cE_len eS]) (by rw[cE_len hd,cE_len eT]) (infE hd) (cE_all _) ?_)
 intro w8 r8 hw8
 replace r2:=r2.wrote hw8 (by omega)
 replace hbw:=hw8.below _ _ (Nat.le_refl _) hbw
 clear r7 hw8
 go_wp2_with (first|refine wpList_load_part rfl 286 _ rfl rfl [] (prC X Z S T) [] r8 (whole1 _) rfl Tryz.underlying286 rfl (infP eX eZ eS eT) ?_|(refine wpList_store_part rfl 286 _ _ rfl rfl (prC X Z S T) rfl [] (prC z4 z4 z4 z4) [] (prC X Z S T) r2 (whole1 _) (whole1 _) rfl (by rw[prC_len eX eZ eS eT,prC_len z4_el z4_el z4_el z4_el]) (infP z4_el z4_el z4_el z4_el) (prC_all _ _ _ _) ?_;intro w9 r9 hw9))
 refine bodyPost_blk (p:=4) (ty:=286) rfl rfl rfl r9 Tryz.underlying286 rfl (infP eX eZ eS eT) ?_
 exact⟨rfl,hw9.below _ _ (by omega) hbw⟩

def dgI (b:Bool):Int:=if b then 1 else 0
theorem shr_byte (x:Nat) (i:Nat) (h:x<256) (hi:i<8):bits .and .i64 (((x / 2 ^ i:Nat):Int)) 1=dgI (x / 2 ^ i % 2==1):=by
 have h1:∀(x:Fin 256) (i:Fin 8),bits .and .i64 (((x.val / 2 ^ i.val:Nat):Int)) 1=dgI (x.val / 2 ^ i.val % 2==1):=by decide+kernel
 exact h1 ⟨x,h⟩ ⟨i,hi⟩

set_option maxRecDepth 100000 in
set_option maxHeartbeats 2000000 in
theorem digitAt_any (vn:Value) (n:List UInt8) (hn:n.length=32) (i:Nat) (I:Int) (hI:I=(i:Int)) (hi:i<256) (w:World) (hr:Rd w vn n):
  Calls Tryz.prog 243 #[vn,.int .i64 I] w fun e w'=>e=.returned (.int .i64 (dgI (bitB n i)))∧w'=w:=by
 subst hI
 obtain⟨b,off,cc,rfl, -,hcell, -⟩:=hr.cellAt (i:=i / 8) (by rw[hn];omega)
 have hlt:=(n.getD (i / 8) 0).toNat_lt
 have HB:Hid (bitB n i=((n.getD (i / 8) 0).toNat / 2 ^ (i % 8) % 2==1)):=rfl
 generalize (n.getD (i / 8) 0).toNat=x at hcell hlt HB
 have hq32:(i:Int) / 8<(n.length:Int):=by omega
 have hqn:i / 8<n.length:=by omega
 have e3:=shr_byte x (i % 8) hlt (by omega)
 go_enter Tryz.func243,Tryz.ntmps243
 go_wp2
 go_ret
 refine⟨ret_int ?_,rfl⟩
 rw[HB.out,←e3]
 have h1:(x:Int) / 2 ^ (i % 8)=((x / 2 ^ (i % 8):Nat):Int):=by simp
 have h2:x / 2 ^ (i % 8)≤x:=Nat.div_le_self _ _
 rw[h1]
 generalize x / 2 ^ (i % 8)=y at h2
 have h3:wrap64 (y:Int)=(y:Int):=by unfold wrap64;omega
 rw[h3]
def dbX (x z:FF):FF:=(x+z) * (x+z) * ((x - z) * (x - z))
def dbZ (x z:FF):FF:=((x+z) * (x+z) - (x - z) * (x - z)) * ((x+z) * (x+z)+121665 * ((x+z) * (x+z) - (x - z) * (x - z)))

set_option maxRecDepth 100000 in
set_option maxHeartbeats 4000000 in
theorem doubled_any (P:Array Value) (o u:List Nat) (ho:El4 o) (hu:El4 u) (hP:P=(frC o u).toArray) (w:World):
  Calls Tryz.prog 317 #[.agg P] w fun e w'=>∃x z:List Nat,e=.returned (.agg (frC x z).toArray)∧El4 x∧El4 z∧gv x=dbX (gv o) (gv u)∧gv z=dbZ (gv o) (gv u)∧Below w.heap.size w w':=by
 go_enter Tryz.func317,Tryz.ntmps317
 go_wp2_with (refine wpList_box_blk rfl 284 _ rfl (frC o u) (by rw[←hP];rfl) ?_)
 intro w1 r1 b1 s1
 go_wp2_with (refine wpList_alloc_blk rfl 284 rfl (frC z4 z4) (allocF _) ?_)
 intro w2 r2 b2 s2
 replace r1:=r1.kept b2
 have hbw:=stepB b1 b2
 have n1:w.heap.size<w1.heap.size:=by have:=s1.out;omega
 have n2:w1.heap.size<w2.heap.size:=by have:=s2.out;omega
 clear b1 b2 s1 s2 hP
 go_wp2_with (first|refine wpList_load_part rfl 157 _ rfl rfl [] (cE o) (cE u) r1 (half1 _ _) rfl Tryz.underlying157 rfl (infE ho) ?_|refine wpList_load_part rfl 157 _ rfl rfl (cE o) (cE u) [] r1 (half2 _ _) (cE_len ho) Tryz.underlying157 rfl (infE hu) ?_)
 refine(gadd_any _ _ o u ho hu rfl rfl _).mono ?_
 rintro e w3 ⟨x3,rfl,h3,v3,bn⟩
 replace r1:=r1.kept bn
 replace r2:=r2.kept bn
 replace hbw:=stepB hbw bn
 clear bn
 go_wp2_with fail
 refine(gsquare_any _ x3 h3 rfl _).mono ?_
 rintro e w4 ⟨la,rfl,ha,va,bn⟩
 rw[v3] at va
 replace r1:=r1.kept bn
 replace r2:=r2.kept bn
 replace hbw:=stepB hbw bn
 clear bn v3 h3
 have z4s:=r2.lt
 go_wp2_with (refine wpList_alloc_blk rfl 157 rfl (cE z4) (allocE _) ?_)
 intro w5 r5 bn sn
 replace r1:=r1.kept bn
 replace r2:=r2.kept bn
 have hz:=hbw.size
 replace hbw:=stepB hbw bn
 clear bn sn
 go_wp2_with (refine wpList_store_part rfl 157 _ _ rfl rfl (cE la) rfl [] (cE z4) [] (cE la) r5 (whole1 _) (whole1 _) rfl (by rw[cE_len ha,cE_len z4_el]) (infE z4_el) (cE_all _) ?_)
 intro w6 ra hwn
 replace r1:=r1.wrote hwn (by omega)
 replace r2:=r2.wrote hwn (by omega)
 replace hbw:=hwn.below _ _ (by omega) hbw
 clear r5 hwn hz
 go_wp2_with (first|refine wpList_load_part rfl 157 _ rfl rfl [] (cE o) (cE u) r1 (half1 _ _) rfl Tryz.underlying157 rfl (infE ho) ?_|refine wpList_load_part rfl 157 _ rfl rfl (cE o) (cE u) [] r1 (half2 _ _) (cE_len ho) Tryz.underlying157 rfl (infE hu) ?_)
 refine(gsub_any _ _ o u ho hu rfl rfl _).mono ?_
 rintro e w7 ⟨x7,rfl,h7,v7,bn⟩
 replace r1:=r1.kept bn
 replace r2:=r2.kept bn
 replace ra:=ra.kept bn
 replace hbw:=stepB hbw bn
 clear bn
 go_wp2_with fail
 refine(gsquare_any _ x7 h7 rfl _).mono ?_
 rintro e w8 ⟨lb,rfl,hb,vb,bn⟩
 rw[v7] at vb
 replace r1:=r1.kept bn
 replace r2:=r2.kept bn
 replace ra:=ra.kept bn
 replace hbw:=stepB hbw bn
 clear bn v7 h7
 have z8:=ra.lt
 have z82:=r2.lt
 go_wp2_with (refine wpList_alloc_blk rfl 157 rfl (cE z4) (allocE _) ?_)
 intro w9 r9 bn sn
 replace r1:=r1.kept bn
 replace r2:=r2.kept bn
 replace ra:=ra.kept bn
 have hz:=hbw.size
 replace hbw:=stepB hbw bn
 clear bn sn
 go_wp2_with (refine wpList_store_part rfl 157 _ _ rfl rfl (cE lb) rfl [] (cE z4) [] (cE lb) r9 (whole1 _) (whole1 _) rfl (by rw[cE_len hb,cE_len z4_el]) (infE z4_el) (cE_all _) ?_)
 intro w10 rb hwn
 replace r2:=r2.wrote hwn (by omega)
 replace ra:=ra.wrote hwn (by omega)
 replace hbw:=hwn.below _ _ (by omega) hbw
 clear r1 r9 hwn hz
 go_wp2_with (first|refine wpList_load_part rfl 157 _ rfl rfl [] (cE la) [] ra (whole1 _) rfl Tryz.underlying157 rfl (infE ha) ?_|refine wpList_load_part rfl 157 _ rfl rfl [] (cE lb) [] rb (whole1 _) rfl Tryz.underlying157 rfl (infE hb) ?_)
 refine(gsub_any _ _ la lb ha hb rfl rfl _).mono ?_
 rintro e w11 ⟨le,rfl,he,ve,bn⟩
 replace r2:=r2.kept bn
 replace ra:=ra.kept bn
 replace rb:=rb.kept bn
 replace hbw:=stepB hbw bn
 clear bn
 have y1:=ra.lt
 have y2:=r2.lt
 have y3:=rb.lt
 go_wp2_with (refine wpList_alloc_blk rfl 157 rfl (cE z4) (allocE _) ?_)
 intro w12 r12 bn sn
 replace r2:=r2.kept bn
 replace ra:=ra.kept bn
 replace rb:=rb.kept bn
 have hz:=hbw.size
 replace hbw:=stepB hbw bn
 clear bn sn
 go_wp2_with (refine wpList_store_part rfl 157 _ _ rfl rfl (cE le) rfl [] (cE z4) [] (cE le) r12 (whole1 _) (whole1 _) rfl (by rw[cE_len he,cE_len z4_el]) (infE z4_el) (cE_all _) ?_)
 intro w13 re hwn
 replace r2:=r2.wrote hwn (by omega)
 replace ra:=ra.wrote hwn (by omega)
 replace rb:=rb.wrote hwn (by omega)
 replace hbw:=hwn.below _ _ (by omega) hbw
 clear r12 hwn hz
 replace r2:=r2.drew
 replace ra:=ra.drew
 replace rb:=rb.drew
 replace re:=re.drew
 replace hbw:=hbw.drew
 go_wp2_with fail
 refine wpE_begin 10 (by kernel_rfl) ?_
 refine eU_ 0 rfl ⟨_,by intro W hW;refine Eq.trans (exec_load_part 157 _ (by rfl) (by rfl) [] (cE la) [] ra hW (whole1 _) rfl Tryz.underlying157 rfl (infE ha)) ?_;with_reducible rfl,?_⟩
 try simp only[Act.put,pA_,pB_,pC_]
 refine eU_ 1 rfl ⟨_,by intro W hW;refine Eq.trans (exec_load_part 157 _ (by rfl) (by rfl) [] (cE lb) [] rb hW (whole1 _) rfl Tryz.underlying157 rfl (infE hb)) ?_;with_reducible rfl,?_⟩
 try simp only[Act.put,pA_,pB_,pC_]
 refine eU_ 3 rfl ⟨_,by intro W hW;refine Eq.trans (exec_load_part 157 _ (by rfl) (by rfl) [] (cE le) [] re hW (whole1 _) rfl Tryz.underlying157 rfl (infE he)) ?_;with_reducible rfl,?_⟩
 try simp only[Act.put,pA_,pB_,pC_]
 refine eU_ 4 rfl ⟨_,by intro W hW;refine Eq.trans (exec_load_part 157 _ (by rfl) (by rfl) [] (cE la) [] ra hW (whole1 _) rfl Tryz.underlying157 rfl (infE ha)) ?_;with_reducible rfl,?_⟩
 try simp only[Act.put,pA_,pB_,pC_]
 refine eU_ 5 rfl ⟨_,by intro W hW;refine Eq.trans (exec_load_part 157 _ (by rfl) (by rfl) [] (cE le) [] re hW (whole1 _) rfl Tryz.underlying157 rfl (infE he)) ?_;with_reducible rfl,?_⟩
 try simp only[Act.put,pA_,pB_,pC_]
 refine eD_ 2 fun K hK=>?_
 go_simp
 refine(gmul_any _ _ la lb ha hb rfl rfl _).mono ?_
 rintro e w14 ⟨x,rfl,hx,vx,b14⟩
 refine hK.out _ _ b14 ?_
 clear hK K
 replace r2:=r2.kept b14
 replace hbw:=stepB hbw b14
 try simp only[Act.put,pA_,pB_,pC_]
 refine eD_ 6 fun K hK=>?_
 go_simp
 refine(gtimes_any _ le he rfl _).mono ?_
 rintro e w15 ⟨x15,rfl,h15,v15,b15⟩
 refine hK.out _ _ b15 ?_
 clear hK K
 replace r2:=r2.kept b15
 replace hbw:=stepB hbw b15
 try simp only[Act.put,pA_,pB_,pC_]
 refine eD_ 7 fun K hK=>?_
 go_simp
 refine(gadd_any _ _ la x15 ha h15 rfl rfl _).mono ?_
 rintro e w16 ⟨x16,rfl,h16,v16,b16⟩
 refine hK.out _ _ b16 ?_
 clear hK K
 replace r2:=r2.kept b16
 replace hbw:=stepB hbw b16
 try simp only[Act.put,pA_,pB_,pC_]
 refine eD_ 8 fun K hK=>?_
 go_simp
 refine(gmul_any _ _ le x16 he h16 rfl rfl _).mono ?_
 rintro e w17 ⟨z,rfl,hz,vz,b17⟩
 refine hK.out _ _ b17 ?_
 clear hK K
 replace r2:=r2.kept b17
 replace hbw:=stepB hbw b17
 try simp only[Act.put,pA_,pB_,pC_]
 refine eU_ 9 rfl ⟨_,by intro W hW;refine Eq.trans (exec_build 284 _ rfl #[(0,elV x),(1,elV z)] (by go_simp;done) _ (buildF hx hz _)) ?_;with_reducible rfl,?_⟩
 try simp only[Act.put,pA_,pB_,pC_]
 refine eL_ fun K hK=>?_
 refine wp_store_part 284 _ _ rfl rfl (frC x z) rfl [] (frC z4 z4) [] (frC x z) r2 (whole1 _) (whole1 _) rfl (by rw[frC_len hx hz,frC_len z4_el z4_el]) (infF z4_el z4_el) (frC_all _ _) ?_
 intro w18 r18 hw18
 refine hK.out _ _ ?_
 clear hK K
 try simp only[Act.put,pA_,pB_,pC_]
 go_wp2_with fail
 refine bodyPost_blk (p:=2) (ty:=284) rfl rfl rfl r18 Tryz.underlying284 rfl (infF hx hz) ?_
 refine⟨x,z,rfl,hx,hz,?_,?_,hw18.below _ _ (by omega) hbw⟩
 ·rw[vx,va,vb]
  rfl
 ·rw[vz,v16,v15,ve,va,vb]
  rfl
def smS (x z s t:FF):FF:=((x+z) * (s - t)+(x - z) * (s+t)) * ((x+z) * (s - t)+(x - z) * (s+t))
def smT (u x z s t:FF):FF:=u * (((x+z) * (s - t) - (x - z) * (s+t)) * ((x+z) * (s - t) - (x - z) * (s+t)))

set_option maxRecDepth 100000 in
set_option maxHeartbeats 8000000 in
theorem sum_any (P:Array Value) (a b c d:List Nat) (ha:El4 a) (hb:El4 b) (hc:El4 c) (hd:El4 d) (hP:P=(prC a b c d).toArray) (U:Array Value) (u:List Nat) (hu:El4 u) (hU:U=(cE u).toArray) (w:World):
  Calls Tryz.prog 318 #[.agg P,.agg U] w fun e w'=>∃s t:List Nat,e=.returned (.agg (frC s t).toArray)∧El4 s∧El4 t∧gv s=smS (gv a) (gv b) (gv c) (gv d)∧gv t=smT (gv u) (gv a) (gv b) (gv c) (gv d)∧Below w.heap.size w w':=by
 go_enter Tryz.func318,Tryz.ntmps318
 go_wp2_with (refine wpList_box_blk rfl 286 _ rfl (prC a b c d) (by rw[←hP];rfl) ?_)
 intro w1 r1 b1 s1
 go_wp2_with (refine wpList_box_blk rfl 157 _ rfl (cE u) (by rw[←hU];rfl) ?_)
 intro w2 ru b2 s2
 go_wp2_with (refine wpList_alloc_blk rfl 284 rfl (frC z4 z4) (allocF _) ?_)
 intro w3 r2 b3 s3
 replace r1:=(r1.kept b2).kept b3
 replace ru:=ru.kept b3
 have hbw:=stepB (stepB b1 b2) b3
 have n1:w.heap.size<w1.heap.size:=by have:=s1.out;omega
 have n2:w1.heap.size<w2.heap.size:=by have:=s2.out;omega
 clear b1 b2 b3 s1 s2 s3 hP hU
 go_upto_region 1 with fail
 go_cut [5] (fun v wx=>∃(g:Nat) (l:List Nat),v=.pointer (some ⟨g,0,none⟩)∧w3.heap.size≤g∧Hid (El4 l)∧Hid (gv l=(gv a+gv b) * (gv c - gv d))∧BlkAt g 157 (cE l) wx∧Below w3.heap.size w3 wx)
 case first=>
  have hB:Below w3.heap.size w3 w3.drew:=(Below.refl _ _).drew
  refine wpB_begin (Below.refl w3.heap.size w3) (by kernel_rfl) ?_
  refine bU_ hB 0 rfl ⟨_,by intro W hW;go_simp<;>with_reducible rfl,?_⟩
  try simp only[Act.put,pA_,pB_,pC_]
  refine bU_ hB 1 rfl ⟨_,by intro W hW;go_simp<;>with_reducible rfl,?_⟩
  try simp only[Act.put,pA_,pB_,pC_]
  refine bU_ hB 2 rfl ⟨_,by intro W hW;refine Eq.trans (exec_load_part 157 _ (by rfl) (by rfl) ([]:List Value) (cE a) (cE b++(cE c++cE d)) r1 hW (parts1 _ _ _ _) rfl Tryz.underlying157 rfl (infE ha)) ?_;with_reducible rfl,?_⟩
  try simp only[Act.put,pA_,pB_,pC_]
  refine bU_ hB 3 rfl ⟨_,by intro W hW;go_simp<;>with_reducible rfl,?_⟩
  try simp only[Act.put,pA_,pB_,pC_]
  refine bU_ hB 4 rfl ⟨_,by intro W hW;go_simp<;>with_reducible rfl,?_⟩
  try simp only[Act.put,pA_,pB_,pC_]
  refine bU_ hB 5 rfl ⟨_,by intro W hW;refine Eq.trans (exec_load_part 157 _ (by rfl) (by rfl) (cE a) (cE b) (cE c++cE d) r1 hW (parts2 _ _ _ _) (cE_len ha) Tryz.underlying157 rfl (infE hb)) ?_;with_reducible rfl,?_⟩
  try simp only[Act.put,pA_,pB_,pC_]
  refine bU_ hB 7 rfl ⟨_,by intro W hW;go_simp<;>with_reducible rfl,?_⟩
  try simp only[Act.put,pA_,pB_,pC_]
  refine bU_ hB 8 rfl ⟨_,by intro W hW;go_simp<;>with_reducible rfl,?_⟩
  try simp only[Act.put,pA_,pB_,pC_]
  refine bU_ hB 9 rfl ⟨_,by intro W hW;refine Eq.trans (exec_load_part 157 _ (by rfl) (by rfl) (frC a b) (cE c) (cE d) r1 hW (parts3 _ _ _ _) (frC_len ha hb) Tryz.underlying157 rfl (infE hc)) ?_;with_reducible rfl,?_⟩
  try simp only[Act.put,pA_,pB_,pC_]
  refine bU_ hB 10 rfl ⟨_,by intro W hW;go_simp<;>with_reducible rfl,?_⟩
  try simp only[Act.put,pA_,pB_,pC_]
  refine bU_ hB 11 rfl ⟨_,by intro W hW;go_simp<;>with_reducible rfl,?_⟩
  try simp only[Act.put,pA_,pB_,pC_]
  refine bU_ hB 12 rfl ⟨_,by intro W hW;refine Eq.trans (exec_load_part 157 _ (by rfl) (by rfl) (frC a b++cE c) (cE d) [] r1 hW (parts4 _ _ _ _) (by rw[List.length_append,frC_len ha hb,cE_len hc]) Tryz.underlying157 rfl (infE hd)) ?_;with_reducible rfl,?_⟩
  try simp only[Act.put,pA_,pB_,pC_]
  refine bF_ 6 15 (fun K hK=>?_) (fun K hK=>?_)
  ·go_simp
   refine(gadd_any _ _ a b ha hb rfl rfl _).mono ?_
   rintro e wq ⟨lq,rfl,hq,vq,bq⟩
   replace hB:=stepB hB bq
   try replace hG:=hG.kept bq
   refine hK.out _ _ hB ?_
   clear hK K
   try simp only[Act.put,pA_,pB_,pC_]
   refine bF_ 13 15 (fun K hK=>?_) (fun K hK=>?_)
   ·go_simp
    refine(gsub_any _ _ c d hc hd rfl rfl _).mono ?_
    rintro e wp ⟨lp,rfl,hp,vp,bp⟩
    replace hB:=stepB hB bp
    try replace hG:=hG.kept bp
    refine hK.out _ _ hB ?_
    clear hK K
    try simp only[Act.put,pA_,pB_,pC_]
    refine bF_ 14 15 (fun K hK=>?_) (fun K hK=>?_)
    ·go_simp
     refine(gmul_any _ _ lq lp hq hp rfl rfl _).mono ?_
     rintro e wm ⟨lm,rfl,hm,vm,bm⟩
     rw[vq,vp] at vm
     replace hB:=stepB hB bm
     try replace hG:=hG.kept bm
     refine hK.out _ _ hB ?_
     clear hK K
     try simp only[Act.put,pA_,pB_,pC_]
     refine bD_ 15 fun K hK=>?_
     refine wp_alloc_blk hB 157 rfl (cE z4) (allocE _) ?_
     intro g wA hG hge hBA
     replace hB:=hBA
     refine hK.out _ _ hB ?_
     clear hK K
     try simp only[Act.put,pA_,pB_,pC_]
     refine bD_ 16 fun K hK=>?_
     refine wp_store_part 157 _ _ rfl rfl (cE lm) rfl [] (cE z4) [] (cE lm) hG (whole1 _) (whole1 _) rfl (by rw[cE_len hm,cE_len z4_el]) (infE z4_el) (cE_all _) ?_
     intro wS hGS hwS
     replace hB:=hwS.below _ _ hge hB
     refine hK.out _ _ hB ?_
     clear hK K
     try simp only[Act.put,pA_,pB_,pC_]
     refine wpB_done (by kernel_rfl) ?_
     go_wp2_with fail
     go_meet
     exact⟨g,lm,rfl,hge,hm,vm,hGS,hB⟩
    ·refine wp_alloc_blk hB 157 rfl (cE z4) (allocE _) ?_
     intro g wA hG hge hBA
     replace hB:=hBA
     refine hK.out _ _ hB ?_
     clear hK K
     try simp only[Act.put,pA_,pB_,pC_]
     refine bD_ 14 fun K hK=>?_
     go_simp
     refine(gmul_any _ _ lq lp hq hp rfl rfl _).mono ?_
     rintro e wm ⟨lm,rfl,hm,vm,bm⟩
     rw[vq,vp] at vm
     replace hB:=stepB hB bm
     try replace hG:=hG.kept bm
     refine hK.out _ _ hB ?_
     clear hK K
     try simp only[Act.put,pA_,pB_,pC_]
     refine bD_ 16 fun K hK=>?_
     refine wp_store_part 157 _ _ rfl rfl (cE lm) rfl [] (cE z4) [] (cE lm) hG (whole1 _) (whole1 _) rfl (by rw[cE_len hm,cE_len z4_el]) (infE z4_el) (cE_all _) ?_
     intro wS hGS hwS
     replace hB:=hwS.below _ _ hge hB
     refine hK.out _ _ hB ?_
     clear hK K
     try simp only[Act.put,pA_,pB_,pC_]
     refine wpB_done (by kernel_rfl) ?_
     go_wp2_with fail
     go_meet
     exact⟨g,lm,rfl,hge,hm,vm,hGS,hB⟩
   ·refine wp_alloc_blk hB 157 rfl (cE z4) (allocE _) ?_
    intro g wA hG hge hBA
    replace hB:=hBA
    refine hK.out _ _ hB ?_
    clear hK K
    try simp only[Act.put,pA_,pB_,pC_]
    refine bD_ 13 fun K hK=>?_
    go_simp
    refine(gsub_any _ _ c d hc hd rfl rfl _).mono ?_
    rintro e wp ⟨lp,rfl,hp,vp,bp⟩
    replace hB:=stepB hB bp
    try replace hG:=hG.kept bp
    refine hK.out _ _ hB ?_
    clear hK K
    try simp only[Act.put,pA_,pB_,pC_]
    refine bD_ 14 fun K hK=>?_
    go_simp
    refine(gmul_any _ _ lq lp hq hp rfl rfl _).mono ?_
    rintro e wm ⟨lm,rfl,hm,vm,bm⟩
    rw[vq,vp] at vm
    replace hB:=stepB hB bm
    try replace hG:=hG.kept bm
    refine hK.out _ _ hB ?_
    clear hK K
    try simp only[Act.put,pA_,pB_,pC_]
    refine bD_ 16 fun K hK=>?_
    refine wp_store_part 157 _ _ rfl rfl (cE lm) rfl [] (cE z4) [] (cE lm) hG (whole1 _) (whole1 _) rfl (by rw[cE_len hm,cE_len z4_el]) (infE z4_el) (cE_all _) ?_
    intro wS hGS hwS
    replace hB:=hwS.below _ _ hge hB
    refine hK.out _ _ hB ?_
    clear hK K
    try simp only[Act.put,pA_,pB_,pC_]
    refine wpB_done (by kernel_rfl) ?_
    go_wp2_with fail
    go_meet
    exact⟨g,lm,rfl,hge,hm,vm,hGS,hB⟩
  ·refine wp_alloc_blk hB 157 rfl (cE z4) (allocE _) ?_
   intro g wA hG hge hBA
   replace hB:=hBA
   refine hK.out _ _ hB ?_
   clear hK K
   try simp only[Act.put,pA_,pB_,pC_]
   refine bD_ 6 fun K hK=>?_
   go_simp
   refine(gadd_any _ _ a b ha hb rfl rfl _).mono ?_
   rintro e wq ⟨lq,rfl,hq,vq,bq⟩
   replace hB:=stepB hB bq
   try replace hG:=hG.kept bq
   refine hK.out _ _ hB ?_
   clear hK K
   try simp only[Act.put,pA_,pB_,pC_]
   refine bD_ 13 fun K hK=>?_
   go_simp
   refine(gsub_any _ _ c d hc hd rfl rfl _).mono ?_
   rintro e wp ⟨lp,rfl,hp,vp,bp⟩
   replace hB:=stepB hB bp
   try replace hG:=hG.kept bp
   refine hK.out _ _ hB ?_
   clear hK K
   try simp only[Act.put,pA_,pB_,pC_]
   refine bD_ 14 fun K hK=>?_
   go_simp
   refine(gmul_any _ _ lq lp hq hp rfl rfl _).mono ?_
   rintro e wm ⟨lm,rfl,hm,vm,bm⟩
   rw[vq,vp] at vm
   replace hB:=stepB hB bm
   try replace hG:=hG.kept bm
   refine hK.out _ _ hB ?_
   clear hK K
   try simp only[Act.put,pA_,pB_,pC_]
   refine bD_ 16 fun K hK=>?_
   refine wp_store_part 157 _ _ rfl rfl (cE lm) rfl [] (cE z4) [] (cE lm) hG (whole1 _) (whole1 _) rfl (by rw[cE_len hm,cE_len z4_el]) (infE z4_el) (cE_all _) ?_
   intro wS hGS hwS
   replace hB:=hwS.below _ _ hge hB
   refine hK.out _ _ hB ?_
   clear hK K
   try simp only[Act.put,pA_,pB_,pC_]
   refine wpB_done (by kernel_rfl) ?_
   go_wp2_with fail
   go_meet
   exact⟨g,lm,rfl,hge,hm,vm,hGS,hB⟩
 case rest=>
 obtain⟨ge,le,rfl,hgee,He,Ve,re,bc⟩:=hcut
 have he:=He.out
 have ve:=Ve.out
 clear He Ve
 replace r1:=r1.kept bc
 replace ru:=ru.kept bc
 replace r2:=r2.kept bc
 replace hbw:=stepB hbw bc
 clear bc
 rename World=>We
 go_upto_region 2 with fail
 go_cut [6] (fun v wx=>∃(g:Nat) (l:List Nat),v=.pointer (some ⟨g,0,none⟩)∧We.heap.size≤g∧Hid (El4 l)∧Hid (gv l=(gv a - gv b) * (gv c+gv d))∧BlkAt g 157 (cE l) wx∧Below We.heap.size We wx)
 case first=>
  have hB:Below We.heap.size We We.drew:=(Below.refl _ _).drew
  refine wpB_begin (Below.refl We.heap.size We) (by kernel_rfl) ?_
  refine bU_ hB 0 rfl ⟨_,by intro W hW;go_simp<;>with_reducible rfl,?_⟩
  try simp only[Act.put,pA_,pB_,pC_]
  refine bU_ hB 1 rfl ⟨_,by intro W hW;go_simp<;>with_reducible rfl,?_⟩
  try simp only[Act.put,pA_,pB_,pC_]
  refine bU_ hB 2 rfl ⟨_,by intro W hW;refine Eq.trans (exec_load_part 157 _ (by rfl) (by rfl) ([]:List Value) (cE a) (cE b++(cE c++cE d)) r1 hW (parts1 _ _ _ _) rfl Tryz.underlying157 rfl (infE ha)) ?_;with_reducible rfl,?_⟩
  try simp only[Act.put,pA_,pB_,pC_]
  refine bU_ hB 3 rfl ⟨_,by intro W hW;go_simp<;>with_reducible rfl,?_⟩
  try simp only[Act.put,pA_,pB_,pC_]
  refine bU_ hB 4 rfl ⟨_,by intro W hW;go_simp<;>with_reducible rfl,?_⟩
  try simp only[Act.put,pA_,pB_,pC_]
  refine bU_ hB 5 rfl ⟨_,by intro W hW;refine Eq.trans (exec_load_part 157 _ (by rfl) (by rfl) (cE a) (cE b) (cE c++cE d) r1 hW (parts2 _ _ _ _) (cE_len ha) Tryz.underlying157 rfl (infE hb)) ?_;with_reducible rfl,?_⟩
  try simp only[Act.put,pA_,pB_,pC_]
  refine bU_ hB 7 rfl ⟨_,by intro W hW;go_simp<;>with_reducible rfl,?_⟩
  try simp only[Act.put,pA_,pB_,pC_]
  refine bU_ hB 8 rfl ⟨_,by intro W hW;go_simp<;>with_reducible rfl,?_⟩
  try simp only[Act.put,pA_,pB_,pC_]
  refine bU_ hB 9 rfl ⟨_,by intro W hW;refine Eq.trans (exec_load_part 157 _ (by rfl) (by rfl) (frC a b) (cE c) (cE d) r1 hW (parts3 _ _ _ _) (frC_len ha hb) Tryz.underlying157 rfl (infE hc)) ?_;with_reducible rfl,?_⟩
  try simp only[Act.put,pA_,pB_,pC_]
  refine bU_ hB 10 rfl ⟨_,by intro W hW;go_simp<;>with_reducible rfl,?_⟩
  try simp only[Act.put,pA_,pB_,pC_]
  refine bU_ hB 11 rfl ⟨_,by intro W hW;go_simp<;>with_reducible rfl,?_⟩
  try simp only[Act.put,pA_,pB_,pC_]
  refine bU_ hB 12 rfl ⟨_,by intro W hW;refine Eq.trans (exec_load_part 157 _ (by rfl) (by rfl) (frC a b++cE c) (cE d) [] r1 hW (parts4 _ _ _ _) (by rw[List.length_append,frC_len ha hb,cE_len hc]) Tryz.underlying157 rfl (infE hd)) ?_;with_reducible rfl,?_⟩
  try simp only[Act.put,pA_,pB_,pC_]
  refine bF_ 6 15 (fun K hK=>?_) (fun K hK=>?_)
  ·go_simp
   refine(gsub_any _ _ a b ha hb rfl rfl _).mono ?_
   rintro e wq ⟨lq,rfl,hq,vq,bq⟩
   replace hB:=stepB hB bq
   try replace hG:=hG.kept bq
   refine hK.out _ _ hB ?_
   clear hK K
   try simp only[Act.put,pA_,pB_,pC_]
   refine bF_ 13 15 (fun K hK=>?_) (fun K hK=>?_)
   ·go_simp
    refine(gadd_any _ _ c d hc hd rfl rfl _).mono ?_
    rintro e wp ⟨lp,rfl,hp,vp,bp⟩
    replace hB:=stepB hB bp
    try replace hG:=hG.kept bp
    refine hK.out _ _ hB ?_
    clear hK K
    try simp only[Act.put,pA_,pB_,pC_]
    refine bF_ 14 15 (fun K hK=>?_) (fun K hK=>?_)
    ·go_simp
     refine(gmul_any _ _ lq lp hq hp rfl rfl _).mono ?_
     rintro e wm ⟨lm,rfl,hm,vm,bm⟩
     rw[vq,vp] at vm
     replace hB:=stepB hB bm
     try replace hG:=hG.kept bm
     refine hK.out _ _ hB ?_
     clear hK K
     try simp only[Act.put,pA_,pB_,pC_]
     refine bD_ 15 fun K hK=>?_
     refine wp_alloc_blk hB 157 rfl (cE z4) (allocE _) ?_
     intro g wA hG hge hBA
     replace hB:=hBA
     refine hK.out _ _ hB ?_
     clear hK K
     try simp only[Act.put,pA_,pB_,pC_]
     refine bD_ 16 fun K hK=>?_
     refine wp_store_part 157 _ _ rfl rfl (cE lm) rfl [] (cE z4) [] (cE lm) hG (whole1 _) (whole1 _) rfl (by rw[cE_len hm,cE_len z4_el]) (infE z4_el) (cE_all _) ?_
     intro wS hGS hwS
     replace hB:=hwS.below _ _ hge hB
     refine hK.out _ _ hB ?_
     clear hK K
     try simp only[Act.put,pA_,pB_,pC_]
     refine wpB_done (by kernel_rfl) ?_
     go_wp2_with fail
     go_meet
     exact⟨g,lm,rfl,hge,hm,vm,hGS,hB⟩
    ·refine wp_alloc_blk hB 157 rfl (cE z4) (allocE _) ?_
     intro g wA hG hge hBA
     replace hB:=hBA
     refine hK.out _ _ hB ?_
     clear hK K
     try simp only[Act.put,pA_,pB_,pC_]
     refine bD_ 14 fun K hK=>?_
     go_simp
     refine(gmul_any _ _ lq lp hq hp rfl rfl _).mono ?_
     rintro e wm ⟨lm,rfl,hm,vm,bm⟩
     rw[vq,vp] at vm
     replace hB:=stepB hB bm
     try replace hG:=hG.kept bm
     refine hK.out _ _ hB ?_
     clear hK K
     try simp only[Act.put,pA_,pB_,pC_]
     refine bD_ 16 fun K hK=>?_
     refine wp_store_part 157 _ _ rfl rfl (cE lm) rfl [] (cE z4) [] (cE lm) hG (whole1 _) (whole1 _) rfl (by rw[cE_len hm,cE_len z4_el]) (infE z4_el) (cE_all _) ?_
     intro wS hGS hwS
     replace hB:=hwS.below _ _ hge hB
     refine hK.out _ _ hB ?_
     clear hK K
     try simp only[Act.put,pA_,pB_,pC_]
     refine wpB_done (by kernel_rfl) ?_
     go_wp2_with fail
     go_meet
     exact⟨g,lm,rfl,hge,hm,vm,hGS,hB⟩
   ·refine wp_alloc_blk hB 157 rfl (cE z4) (allocE _) ?_
    intro g wA hG hge hBA
    replace hB:=hBA
    refine hK.out _ _ hB ?_
    clear hK K
    try simp only[Act.put,pA_,pB_,pC_]
    refine bD_ 13 fun K hK=>?_
    go_simp
    refine(gadd_any _ _ c d hc hd rfl rfl _).mono ?_
    rintro e wp ⟨lp,rfl,hp,vp,bp⟩
    replace hB:=stepB hB bp
    try replace hG:=hG.kept bp
    refine hK.out _ _ hB ?_
    clear hK K
    try simp only[Act.put,pA_,pB_,pC_]
    refine bD_ 14 fun K hK=>?_
    go_simp
    refine(gmul_any _ _ lq lp hq hp rfl rfl _).mono ?_
    rintro e wm ⟨lm,rfl,hm,vm,bm⟩
    rw[vq,vp] at vm
    replace hB:=stepB hB bm
    try replace hG:=hG.kept bm
    refine hK.out _ _ hB ?_
    clear hK K
    try simp only[Act.put,pA_,pB_,pC_]
    refine bD_ 16 fun K hK=>?_
    refine wp_store_part 157 _ _ rfl rfl (cE lm) rfl [] (cE z4) [] (cE lm) hG (whole1 _) (whole1 _) rfl (by rw[cE_len hm,cE_len z4_el]) (infE z4_el) (cE_all _) ?_
    intro wS hGS hwS
    replace hB:=hwS.below _ _ hge hB
    refine hK.out _ _ hB ?_
    clear hK K
    try simp only[Act.put,pA_,pB_,pC_]
    refine wpB_done (by kernel_rfl) ?_
    go_wp2_with fail
    go_meet
    exact⟨g,lm,rfl,hge,hm,vm,hGS,hB⟩
  ·refine wp_alloc_blk hB 157 rfl (cE z4) (allocE _) ?_
   intro g wA hG hge hBA
   replace hB:=hBA
   refine hK.out _ _ hB ?_
   clear hK K
   try simp only[Act.put,pA_,pB_,pC_]
   refine bD_ 6 fun K hK=>?_
   go_simp
   refine(gsub_any _ _ a b ha hb rfl rfl _).mono ?_
   rintro e wq ⟨lq,rfl,hq,vq,bq⟩
   replace hB:=stepB hB bq
   try replace hG:=hG.kept bq
   refine hK.out _ _ hB ?_
   clear hK K
   try simp only[Act.put,pA_,pB_,pC_]
   refine bD_ 13 fun K hK=>?_
   go_simp
   refine(gadd_any _ _ c d hc hd rfl rfl _).mono ?_
   rintro e wp ⟨lp,rfl,hp,vp,bp⟩
   replace hB:=stepB hB bp
   try replace hG:=hG.kept bp
   refine hK.out _ _ hB ?_
   clear hK K
   try simp only[Act.put,pA_,pB_,pC_]
   refine bD_ 14 fun K hK=>?_
   go_simp
   refine(gmul_any _ _ lq lp hq hp rfl rfl _).mono ?_
   rintro e wm ⟨lm,rfl,hm,vm,bm⟩
   rw[vq,vp] at vm
   replace hB:=stepB hB bm
   try replace hG:=hG.kept bm
   refine hK.out _ _ hB ?_
   clear hK K
   try simp only[Act.put,pA_,pB_,pC_]
   refine bD_ 16 fun K hK=>?_
   refine wp_store_part 157 _ _ rfl rfl (cE lm) rfl [] (cE z4) [] (cE lm) hG (whole1 _) (whole1 _) rfl (by rw[cE_len hm,cE_len z4_el]) (infE z4_el) (cE_all _) ?_
   intro wS hGS hwS
   replace hB:=hwS.below _ _ hge hB
   refine hK.out _ _ hB ?_
   clear hK K
   try simp only[Act.put,pA_,pB_,pC_]
   refine wpB_done (by kernel_rfl) ?_
   go_wp2_with fail
   go_meet
   exact⟨g,lm,rfl,hge,hm,vm,hGS,hB⟩
 case rest=>
 obtain⟨gf,lf,rfl,hgef,Hf,Vf,rf,bc⟩:=hcut
 have hf:=Hf.out
 have vf:=Vf.out
 clear Hf Vf
 replace ru:=ru.kept bc
 replace r2:=r2.kept bc
 replace re:=re.kept bc
 replace hbw:=stepB hbw bc
 clear bc
 rename World=>Wf
 replace r2:=r2.drew
 replace ru:=ru.drew
 replace re:=re.drew
 replace rf:=rf.drew
 replace hbw:=hbw.drew
 clear r1
 go_wp2_with fail
 refine wpE_begin 11 (by kernel_rfl) ?_
 refine eU_ 0 rfl ⟨_,by intro W hW;refine Eq.trans (exec_load_part 157 _ (by rfl) (by rfl) [] (cE le) [] re hW (whole1 _) rfl Tryz.underlying157 rfl (infE he)) ?_;with_reducible rfl,?_⟩
 try simp only[Act.put,pA_,pB_,pC_]
 refine eU_ 1 rfl ⟨_,by intro W hW;refine Eq.trans (exec_load_part 157 _ (by rfl) (by rfl) [] (cE lf) [] rf hW (whole1 _) rfl Tryz.underlying157 rfl (infE hf)) ?_;with_reducible rfl,?_⟩
 try simp only[Act.put,pA_,pB_,pC_]
 refine eU_ 4 rfl ⟨_,by intro W hW;refine Eq.trans (exec_load_part 157 _ (by rfl) (by rfl) [] (cE u) [] ru hW (whole1 _) rfl Tryz.underlying157 rfl (infE hu)) ?_;with_reducible rfl,?_⟩
 try simp only[Act.put,pA_,pB_,pC_]
 refine eU_ 5 rfl ⟨_,by intro W hW;refine Eq.trans (exec_load_part 157 _ (by rfl) (by rfl) [] (cE le) [] re hW (whole1 _) rfl Tryz.underlying157 rfl (infE he)) ?_;with_reducible rfl,?_⟩
 try simp only[Act.put,pA_,pB_,pC_]
 refine eU_ 6 rfl ⟨_,by intro W hW;refine Eq.trans (exec_load_part 157 _ (by rfl) (by rfl) [] (cE lf) [] rf hW (whole1 _) rfl Tryz.underlying157 rfl (infE hf)) ?_;with_reducible rfl,?_⟩
 try simp only[Act.put,pA_,pB_,pC_]
 refine eD_ 2 fun K hK=>?_
 go_simp
 refine(gadd_any _ _ le lf he hf rfl rfl _).mono ?_
 rintro e w4 ⟨p,rfl,hp,vp,b4⟩
 refine hK.out _ _ b4 ?_
 clear hK K
 replace r2:=r2.kept b4
 replace hbw:=stepB hbw b4
 try simp only[Act.put,pA_,pB_,pC_]
 refine eD_ 3 fun K hK=>?_
 go_simp
 refine(gsquare_any _ p hp rfl _).mono ?_
 rintro e w5 ⟨s,rfl,hs,vs,b5⟩
 refine hK.out _ _ b5 ?_
 clear hK K
 replace r2:=r2.kept b5
 replace hbw:=stepB hbw b5
 try simp only[Act.put,pA_,pB_,pC_]
 refine eD_ 7 fun K hK=>?_
 go_simp
 refine(gsub_any _ _ le lf he hf rfl rfl _).mono ?_
 rintro e w6 ⟨q,rfl,hq,vq,b6⟩
 refine hK.out _ _ b6 ?_
 clear hK K
 replace r2:=r2.kept b6
 replace hbw:=stepB hbw b6
 try simp only[Act.put,pA_,pB_,pC_]
 refine eD_ 8 fun K hK=>?_
 go_simp
 refine(gsquare_any _ q hq rfl _).mono ?_
 rintro e w7 ⟨r,rfl,hr,vr,b7⟩
 refine hK.out _ _ b7 ?_
 clear hK K
 replace r2:=r2.kept b7
 replace hbw:=stepB hbw b7
 try simp only[Act.put,pA_,pB_,pC_]
 refine eD_ 9 fun K hK=>?_
 go_simp
 refine(gmul_any _ _ u r hu hr rfl rfl _).mono ?_
 rintro e w8 ⟨t,rfl,ht,vt,b8⟩
 refine hK.out _ _ b8 ?_
 clear hK K
 replace r2:=r2.kept b8
 replace hbw:=stepB hbw b8
 try simp only[Act.put,pA_,pB_,pC_]
 refine eU_ 10 rfl ⟨_,by intro W hW;refine Eq.trans (exec_build 284 _ rfl #[(0,elV s),(1,elV t)] (by go_simp;done) _ (buildF hs ht _)) ?_;with_reducible rfl,?_⟩
 try simp only[Act.put,pA_,pB_,pC_]
 refine eL_ fun K hK=>?_
 refine wp_store_part 284 _ _ rfl rfl (frC s t) rfl [] (frC z4 z4) [] (frC s t) r2 (whole1 _) (whole1 _) rfl (by rw[frC_len hs ht,frC_len z4_el z4_el]) (infF z4_el z4_el) (frC_all _ _) ?_
 intro w9 r9 hw9
 refine hK.out _ _ ?_
 clear hK K
 try simp only[Act.put,pA_,pB_,pC_]
 go_wp2_with fail
 refine bodyPost_blk (p:=4) (ty:=284) rfl rfl rfl r9 Tryz.underlying284 rfl (infF hs ht) ?_
 refine⟨s,t,rfl,hs,ht,?_,?_,hw9.below _ _ (by omega) hbw⟩
 ·rw[vs,vp,ve,vf]
  rfl
 ·rw[vt,vr,vq,ve,vf]
  rfl
structure Lw (a b c d:List Nat) (l:Ld):Prop where
 ea:El4 a
 eb:El4 b
 ec:El4 c
 ed:El4 d
 x:gv a=l.x
 z:gv b=l.z
 s:gv c=l.s
 t:gv d=l.t
theorem Lw.turn {a b c d:List Nat} {l:Ld} (h:Lw a b c d l):Lw c d a b (ldT l):=⟨h.ec,h.ed,h.ea,h.eb,h.s,h.t,h.x,h.z⟩

set_option maxRecDepth 100000 in
set_option maxHeartbeats 4000000 in
theorem lnext_any (P:Array Value) (a b c d:List Nat) (l:Ld) (h:Lw a b c d l) (hP:P=(prC a b c d).toArray) (U:Array Value) (u:List Nat) (hu:El4 u) (hU:U=(cE u).toArray) (w:World):
  Calls Tryz.prog 245 #[.agg P,.agg U] w fun e w'=>∃a' b' c' d':List Nat,e=.returned (.agg (prC a' b' c' d').toArray)∧Lw a' b' c' d' (ldS (gv u) l)∧Below w.heap.size w w':=by
 obtain⟨ha,hb,hc,hd,x1,x2,x3,x4⟩:=h
 go_enter Tryz.func245,Tryz.ntmps245
 go_wp2_with (refine wpList_box_blk rfl 286 _ rfl (prC a b c d) (by rw[←hP];rfl) ?_)
 intro w1 r1 b1 s1
 go_wp2_with (refine wpList_box_blk rfl 157 _ rfl (cE u) (by rw[←hU];rfl) ?_)
 intro w2 ru b2 s2
 go_wp2_with (refine wpList_alloc_blk rfl 286 rfl (prC z4 z4 z4 z4) (allocP _) ?_)
 intro w3 r2 b3 s3
 replace r1:=((r1.kept b2).kept b3).drew
 replace ru:=(ru.kept b3).drew
 replace r2:=r2.drew
 have hbw:=(stepB (stepB b1 b2) b3).drew
 have n1:w.heap.size<w1.heap.size:=by have:=s1.out;omega
 have n2:w1.heap.size<w2.heap.size:=by have:=s2.out;omega
 clear b1 b2 b3 s1 s2 s3 hP hU
 go_wp2_with fail
 refine wpE_begin 7 (by kernel_rfl) ?_
 refine eU_ 0 rfl ⟨_,by intro W hW;go_simp<;>with_reducible rfl,?_⟩
 try simp only[Act.put,pA_,pB_,pC_]
 refine eU_ 1 rfl ⟨_,by intro W hW;refine Eq.trans (exec_load_part 284 _ (by rfl) (by rfl) [] (frC a b) (frC c d) r1 hW (first1 _ _ _ _) rfl Tryz.underlying284 rfl (infF ha hb)) ?_;with_reducible rfl,?_⟩
 try simp only[Act.put,pA_,pB_,pC_]
 refine eU_ 3 rfl ⟨_,by intro W hW;refine Eq.trans (exec_load_part 286 _ (by rfl) (by rfl) [] (prC a b c d) [] r1 hW (whole1 _) rfl Tryz.underlying286 rfl (infP ha hb hc hd)) ?_;with_reducible rfl,?_⟩
 try simp only[Act.put,pA_,pB_,pC_]
 refine eU_ 4 rfl ⟨_,by intro W hW;refine Eq.trans (exec_load_part 157 _ (by rfl) (by rfl) [] (cE u) [] ru hW (whole1 _) rfl Tryz.underlying157 rfl (infE hu)) ?_;with_reducible rfl,?_⟩
 try simp only[Act.put,pA_,pB_,pC_]
 refine eD_ 2 fun K hK=>?_
 go_simp
 refine(doubled_any _ a b ha hb rfl _).mono ?_
 rintro e w4 ⟨x,z,rfl,hx,hz,vx,vz,b4⟩
 refine hK.out _ _ b4 ?_
 clear hK K
 replace r2:=r2.kept b4
 replace hbw:=stepB hbw b4
 try simp only[Act.put,pA_,pB_,pC_]
 refine eD_ 5 fun K hK=>?_
 go_simp
 refine(sum_any _ a b c d ha hb hc hd rfl _ u hu rfl _).mono ?_
 rintro e w5 ⟨s,t,rfl,hs,ht,vs,vt,b5⟩
 refine hK.out _ _ b5 ?_
 clear hK K
 replace r2:=r2.kept b5
 replace hbw:=stepB hbw b5
 try simp only[Act.put,pA_,pB_,pC_]
 refine eU_ 6 rfl ⟨_,by intro W hW;refine Eq.trans (exec_build 286 _ rfl #[(0,.agg (frC x z).toArray),(1,.agg (frC s t).toArray)] (by go_simp;done) _ (buildP hx hz hs ht _)) ?_;with_reducible rfl,?_⟩
 try simp only[Act.put,pA_,pB_,pC_]
 refine eL_ fun K hK=>?_
 refine wp_store_part 286 _ _ rfl rfl (prC x z s t) rfl [] (prC z4 z4 z4 z4) [] (prC x z s t) r2 (whole1 _) (whole1 _) rfl (by rw[prC_len hx hz hs ht,prC_len z4_el z4_el z4_el z4_el]) (infP z4_el z4_el z4_el z4_el) (prC_all _ _ _ _) ?_
 intro w6 r6 hw6
 refine hK.out _ _ ?_
 clear hK K
 try simp only[Act.put,pA_,pB_,pC_]
 go_wp2_with fail
 refine bodyPost_blk (p:=4) (ty:=286) rfl rfl rfl r6 Tryz.underlying286 rfl (infP hx hz hs ht) ?_
 refine⟨x,z,s,t,rfl,⟨hx,hz,hs,ht,?_,?_,?_,?_⟩,hw6.below _ _ (by omega) hbw⟩
 ·rw[vx,x1,x2]
  rfl
 ·rw[vz,x1,x2]
  rfl
 ·rw[vs,x1,x2,x3,x4]
  rfl
 ·rw[vt,x1,x2,x3,x4]
  rfl

set_option maxRecDepth 100000 in
set_option maxHeartbeats 4000000 in
theorem number06_any (P:Array Value) (a b:List Nat) (ha:El4 a) (hb:El4 b) (hP:P=(frC a b).toArray) (w:World):
  Calls Tryz.prog 246 #[.agg P] w fun e w'=>∃r:List Nat,e=.returned (elV r)∧El4 r∧gv r=gv a * finv (gv b)∧Below w.heap.size w w':=by
 go_enter Tryz.func246,Tryz.ntmps246
 go_wp2_with (refine wpList_box_blk rfl 284 _ rfl (frC a b) (by rw[←hP];rfl) ?_)
 intro w1 r1 b1 s1
 go_wp2_with (refine wpList_alloc_blk rfl 157 rfl (cE z4) (allocE _) ?_)
 intro w3 r2 b3 s3
 replace r1:=(r1.kept b3).drew
 replace r2:=r2.drew
 have hbw:=(stepB b1 b3).drew
 have n1:w.heap.size<w1.heap.size:=by have:=s1.out;omega
 clear b1 b3 s1 s3 hP
 go_wp2_with fail
 refine wpE_begin 6 (by kernel_rfl) ?_
 refine eU_ 0 rfl ⟨_,by intro W hW;go_simp<;>with_reducible rfl,?_⟩
 try simp only[Act.put,pA_,pB_,pC_]
 refine eU_ 1 rfl ⟨_,by intro W hW;refine Eq.trans (exec_load_part 157 _ (by rfl) (by rfl) [] (cE a) (cE b) r1 hW (half1 _ _) rfl Tryz.underlying157 rfl (infE ha)) ?_;with_reducible rfl,?_⟩
 try simp only[Act.put,pA_,pB_,pC_]
 refine eU_ 2 rfl ⟨_,by intro W hW;go_simp<;>with_reducible rfl,?_⟩
 try simp only[Act.put,pA_,pB_,pC_]
 refine eU_ 3 rfl ⟨_,by intro W hW;refine Eq.trans (exec_load_part 157 _ (by rfl) (by rfl) (cE a) (cE b) [] r1 hW (half2 _ _) (cE_len ha) Tryz.underlying157 rfl (infE hb)) ?_;with_reducible rfl,?_⟩
 try simp only[Act.put,pA_,pB_,pC_]
 refine eD_ 4 fun K hK=>?_
 go_simp
 refine(ginvert_any _ b hb rfl _).mono ?_
 rintro e w4 ⟨x,rfl,hx,vx,b4⟩
 refine hK.out _ _ b4 ?_
 clear hK K
 replace r2:=r2.kept b4
 replace hbw:=stepB hbw b4
 try simp only[Act.put,pA_,pB_,pC_]
 refine eD_ 5 fun K hK=>?_
 go_simp
 refine(gmul_any _ _ a x ha hx rfl rfl _).mono ?_
 rintro e w5 ⟨r,rfl,hr,vr,b5⟩
 refine hK.out _ _ b5 ?_
 clear hK K
 replace r2:=r2.kept b5
 replace hbw:=stepB hbw b5
 try simp only[Act.put,pA_,pB_,pC_]
 refine eL_ fun K hK=>?_
 refine wp_store_part 157 _ _ rfl rfl (cE r) rfl [] (cE z4) [] (cE r) r2 (whole1 _) (whole1 _) rfl (by rw[cE_len hr,cE_len z4_el]) (infE z4_el) (cE_all _) ?_
 intro w6 r6 hw6
 refine hK.out _ _ ?_
 clear hK K
 try simp only[Act.put,pA_,pB_,pC_]
 go_wp2_with fail
 refine bodyPost_blk (p:=2) (ty:=157) rfl rfl rfl r6 Tryz.underlying157 rfl (infE hr) ?_
 refine⟨r,rfl,hr,?_,hw6.below _ _ (by omega) hbw⟩
 rw[vr,vx]
theorem turnedL_any (t:Bool) (B:Int) (hB:B=dgI t) (P:Array Value) (a b c d:List Nat) (l:Ld) (h:Lw a b c d l) (hP:P=(prC a b c d).toArray) (w:World):
  Calls Tryz.prog 244 #[.agg P,.int .i64 B] w fun e w'=>∃a' b' c' d':List Nat,e=.returned (.agg (prC a' b' c' d').toArray)∧Lw a' b' c' d' (if t=true then ldT l else l)∧Below w.heap.size w w':=by
 subst hB
 refine(turned06_any (dgI t) P a b c d h.ea h.eb h.ec h.ed hP w).mono ?_
 rintro e w' ⟨rfl,hb⟩
 cases t
 ·exact⟨a,b,c,d,rfl,h,hb⟩
 ·exact⟨c,d,a,b,rfl,h.turn,hb⟩
theorem ldN_next (u:FF) (bit:Nat→Bool) (j:Nat) (t:Bool) (ht:bit (254 - j)=t):(if t=true then ldT (ldS u (if t=true then ldT (ldN u bit j) else ldN u bit j)) else ldS u (if t=true then ldT (ldN u bit j) else ldN u bit j))=ldN u bit (j+1):=by
 show _=ldB u (bit (254 - j)) _
 rw[ht]
 cases t<;>rfl
def o4:List Nat:=[1,0,0,0]
theorem o4_el:El4 o4:=El4.mk4 (by decide) (by decide) (by decide) (by decide)
theorem Lw.first {u:List Nat} (hu:El4 u) (bit:Nat→Bool):Lw o4 z4 u o4 (ldN (gv u) bit 0):=
 ⟨o4_el,z4_el,hu,o4_el,(by show gv o4=1;decide+kernel),(by show gv z4=0;decide+kernel),rfl,(by show gv o4=1;decide+kernel)⟩
theorem build1 (w:World):(Instr.build 284 #[(0,.agg #[.int .u64 1,.int .u64 0,.int .u64 0,.int .u64 0])]).run Tryz.prog w=.ok (.agg (frC o4 z4).toArray) w:=by kernel_rfl
theorem build2 {u:List Nat} (hu:El4 u) (w:World):(Instr.build 284 #[(0,.agg (cE u).toArray),(1,.agg #[.int .u64 1,.int .u64 0,.int .u64 0,.int .u64 0])]).run Tryz.prog w=.ok (.agg (frC u o4).toArray) w:=by
 obtain⟨p,q,r,s,rfl, -⟩:=hu.four
 kernel_rfl

set_option maxRecDepth 100000 in
set_option maxHeartbeats 4000000 in
theorem ladder_any (vn:Value) (n:List UInt8) (hn:n.length=32) (U:Array Value) (u:List Nat) (hu:El4 u) (hU:U=((nI u).map (Value.int .u64)).toArray) (w:World) (hr:Rd w vn n):
  Calls Tryz.prog 179 #[vn,.agg U] w fun e w'=>∃r:List Nat,e=.returned (elV r)∧El4 r∧gv r=ldX (gv u) (bitB n)∧Below w.heap.size w w':=by
 have HN:Hid (n.length=32):=hn
 clear hn
 go_enter Tryz.func179,Tryz.ntmps179
 go_wp2_with (refine wpList_box_blk rfl 157 _ rfl (cE u) (by rw[show cE u=(nI u).map (Value.int .u64) from rfl,←hU];rfl) ?_)
 intro w1 ru b1 s1
 go_wp2_with (refine wpList_alloc_blk rfl 157 rfl (cE z4) (allocE _) ?_)
 intro w2 rz b2 s2
 replace ru:=ru.kept b2
 have hbw:=stepB b1 b2
 have n1:w.heap.size<w1.heap.size:=by have:=s1.out;omega
 have n2:w1.heap.size<w2.heap.size:=by have:=s2.out;omega
 clear b1 b2 s1 s2 hU
 go_wp2_with (first|refine wpList_load_part rfl 157 _ rfl rfl [] (cE u) [] ru (whole1 _) rfl Tryz.underlying157 rfl (infE hu) ?_|refine wpList_buildB rfl 284 #[(0,.tmp 8)] rfl #[(0,.agg #[.int .u64 1,.int .u64 0,.int .u64 0,.int .u64 0])] (by go_simp;done) _ (build1 _) ?_|refine wpList_buildB rfl 284 #[(0,.tmp 10),(1,.tmp 11)] rfl #[(0,.agg (cE u).toArray),(1,.agg #[.int .u64 1,.int .u64 0,.int .u64 0,.int .u64 0])] (by go_simp;done) _ (build2 hu _) ?_|refine wpList_buildB rfl 286 #[(0,.tmp 9),(1,.tmp 12)] rfl #[(0,.agg (frC o4 z4).toArray),(1,.agg (frC u o4).toArray)] (by go_simp;done) _ (buildP o4_el z4_el hu o4_el _) ?_|refine wpList_alloc_blk rfl 286 rfl (prC z4 z4 z4 z4) (allocP _) ?_)
 intro w3 rp b3 s3
 replace ru:=ru.kept b3
 replace rz:=rz.kept b3
 replace hbw:=stepB hbw b3
 clear b3 s3
 go_wp2_with (refine wpList_store_part rfl 286 _ _ rfl rfl (prC o4 z4 u o4) rfl [] (prC z4 z4 z4 z4) [] (prC o4 z4 u o4) rp (whole1 _) (whole1 _) rfl (by rw[prC_len o4_el z4_el hu o4_el,prC_len z4_el z4_el z4_el z4_el]) (infP z4_el z4_el z4_el z4_el) (prC_all _ _ _ _) ?_)
 intro w4 rq hw4
 replace ru:=ru.wrote hw4 (by omega)
 replace rz:=rz.wrote hw4 (by omega)
 replace hbw:=hw4.below _ _ (by omega) hbw
 clear rp hw4
 go_wp2_with fail
 go_loopw [14] (fun iv wx=>∃(i:Nat) (a b c d:List Nat),i≤255∧iv=.int .i64 (i:Int)∧Hid (Lw a b c d (ldN (gv u) (bitB n) i))∧BlkAt w2.heap.size 286 (prC a b c d) wx∧BlkAt w.heap.size 157 (cE u) wx∧BlkAt w1.heap.size 157 (cE z4) wx∧Below w.heap.size w wx) (fun iv _=>255 - (intOf iv).toNat)
 case atStart=>exact⟨0,o4,z4,u,o4,by omega,rfl,Lw.first hu _,rq,ru,rz,hbw⟩
 case round=>
  obtain⟨i,a,b,c,d,hi,rfl,HL,rp,ru',rz',hb⟩:=hrel
  clear rq ru rz hbw
  have hL:=HL.out
  by_cases hlt:i<255
  ·have hd:decide ((i:Int)<255)=true:=decide_eq_true (by omega)
   have hiI:(i:Int)<255:=by omega
   have hrr:=hr.kept hb
   go_wp2_with fail
   refine(digitAt_any _ n HN.out (254 - i) _ (by omega) (by omega) _ hrr).mono ?_
   rintro e wd ⟨rfl,rfl⟩
   obtain⟨t,ht⟩:∃t,t=bitB n (254 - i):=⟨_,rfl⟩
   rw[←ht]
   have HT:Hid _:=ldN_next (gv u) (bitB n) i t ht.symm
   clear ht hrr
   replace rp:=rp.drew
   replace ru':=ru'.drew
   replace rz':=rz'.drew
   replace hb:=hb.drew
   go_wp2_with fail
   refine wpE_begin 7 (by kernel_rfl) ?_
   refine eU_ 0 rfl ⟨_,by intro W hW;refine Eq.trans (exec_load_part 286 _ (by rfl) (by rfl) [] (prC a b c d) [] rp hW (whole1 _) rfl Tryz.underlying286 rfl (infP hL.ea hL.eb hL.ec hL.ed)) ?_;with_reducible rfl,?_⟩
   try simp only[Act.put,pA_,pB_,pC_]
   refine eU_ 1 rfl ⟨_,by intro W hW;go_simp<;>with_reducible rfl,?_⟩
   try simp only[Act.put,pA_,pB_,pC_]
   refine eU_ 3 rfl ⟨_,by intro W hW;refine Eq.trans (exec_load_part 157 _ (by rfl) (by rfl) [] (cE u) [] ru' hW (whole1 _) rfl Tryz.underlying157 rfl (infE hu)) ?_;with_reducible rfl,?_⟩
   try simp only[Act.put,pA_,pB_,pC_]
   refine eU_ 5 rfl ⟨_,by intro W hW;go_simp<;>with_reducible rfl,?_⟩
   try simp only[Act.put,pA_,pB_,pC_]
   refine eD_ 2 fun K hK=>?_
   go_simp
   refine(turnedL_any t _ rfl _ a b c d _ hL rfl _).mono ?_
   rintro e w5 ⟨a5,b5,c5,d5,rfl,h5,bn⟩
   refine hK.out _ _ bn ?_
   clear hK K
   replace rp:=rp.kept bn
   replace ru':=ru'.kept bn
   replace rz':=rz'.kept bn
   replace hb:=stepB hb bn
   clear bn
   try simp only[Act.put,pA_,pB_,pC_]
   refine eD_ 4 fun K hK=>?_
   go_simp
   refine(lnext_any _ a5 b5 c5 d5 _ h5 rfl _ u hu rfl _).mono ?_
   rintro e w6 ⟨a6,b6,c6,d6,rfl,h6,bn⟩
   refine hK.out _ _ bn ?_
   clear hK K
   replace rp:=rp.kept bn
   replace ru':=ru'.kept bn
   replace rz':=rz'.kept bn
   replace hb:=stepB hb bn
   clear bn
   try simp only[Act.put,pA_,pB_,pC_]
   refine eD_ 6 fun K hK=>?_
   go_simp
   refine(turnedL_any t _ rfl _ a6 b6 c6 d6 _ h6 rfl _).mono ?_
   rintro e w7 ⟨a7,b7,c7,d7,rfl,h7,bn⟩
   refine hK.out _ _ bn ?_
   clear hK K
   replace rp:=rp.kept bn
   replace ru':=ru'.kept bn
   replace rz':=rz'.kept bn
   replace hb:=stepB hb bn
   clear bn
   try simp only[Act.put,pA_,pB_,pC_]
   refine eL_ fun K hK=>?_
   refine wp_store_part 286 _ _ rfl rfl (prC a7 b7 c7 d7) rfl [] (prC a b c d) [] (prC a7 b7 c7 d7) rp (whole1 _) (whole1 _) rfl (by rw[prC_len h7.ea h7.eb h7.ec h7.ed,prC_len hL.ea hL.eb hL.ec hL.ed]) (infP hL.ea hL.eb hL.ec hL.ed) (prC_all _ _ _ _) ?_
   intro w8 r8 hw8
   refine hK.out _ _ ?_
   clear hK K
   try simp only[Act.put,pA_,pB_,pC_]
   rw[HT.out] at h7
   have HL7:Hid _:=h7
   replace ru':=ru'.wrote hw8 (by omega)
   replace rz':=rz'.wrote hw8 (by omega)
   replace hb:=hw8.below _ _ (by omega) hb
   clear h5 h6 h7 rp hw8 hL HL HT
   go_wp2
   go_roundw
   case rel=>exact⟨i+1,a7,b7,c7,d7,by omega,by go_num,HL7,r8,ru',rz',hb⟩
   case measure=>simp[intOf]<;>omega
  ·have hie:i=255:=by omega
   have hd:decide ((i:Int)<255)=false:=decide_eq_false (by omega)
   have hiI:(255:Int)≤(i:Int):=by omega
   rw[hie] at hL
   clear hie HL
   go_wp2_with (refine wpList_load_part rfl 284 _ rfl rfl [] (frC a b) (frC c d) rp (first1 _ _ _ _) rfl Tryz.underlying284 rfl (infF hL.ea hL.eb) ?_)
   refine(number06_any _ a b hL.ea hL.eb rfl _).mono ?_
   rintro e w9 ⟨r,rfl,hr9,v9,b9⟩
   rw[hL.x,hL.z] at v9
   replace rz':=rz'.kept b9
   replace hb:=stepB hb b9
   clear b9 rp ru'
   go_wp2_with (refine wpList_store_part rfl 157 _ _ rfl rfl (cE r) rfl [] (cE z4) [] (cE r) rz' (whole1 _) (whole1 _) rfl (by rw[cE_len hr9,cE_len z4_el]) (infE z4_el) (cE_all _) ?_)
   intro w10 r10 hw10
   go_wp2_with fail
   refine bodyPost_blk (p:=4) (ty:=157) rfl rfl rfl r10 Tryz.underlying157 rfl (infE hr9) ?_
   exact⟨r,rfl,hr9,v9,hw10.below _ _ (by omega) hb⟩
end Go.Proofs.YtpgjobpmafbigaaGreatDoor

namespace Go.Proofs.YtpgjobpmafbigaaGreatDoor
set_option linter.unusedSimpArgs false
set_option linter.unusedVariables false

theorem scN_lt (k u:List UInt8):scN k u<pN:=(ldX (fv (decN u)) (bitB (clL k))).isLt
end Go.Proofs.YtpgjobpmafbigaaGreatDoor

namespace Go.Proofs.YtpgjobpmafbigaaGreatDoor
open Go.ChangeShapes Go.WideShapes Go.ChangeAt Go.RowKit
set_option linter.unusedSimpArgs false
set_option linter.unusedVariables false

theorem and248 (x:Nat) (h:x<256):bits .and .u8 (x:Int) 248=((x / 8 * 8:Nat):Int):=by
 have h1:∀x:Fin 256,bits .and .u8 (x.val:Int) 248=((x.val / 8 * 8:Nat):Int):=by decide+kernel
 exact h1 ⟨x,h⟩
theorem and127 (x:Nat) (h:x<256):bits .and .u8 (x:Int) 127=((x % 128:Nat):Int):=by
 have h1:∀x:Fin 256,bits .and .u8 (x.val:Int) 127=((x.val % 128:Nat):Int):=by decide+kernel
 exact h1 ⟨x,h⟩
theorem or64 (x:Nat) (h:x<256):bits .or .u8 ((x % 128:Nat):Int) 64=((x % 64+64:Nat):Int):=by
 have h1:∀x:Fin 256,bits .or .u8 ((x.val % 128:Nat):Int) 64=((x.val % 64+64:Nat):Int):=by decide+kernel
 exact h1 ⟨x,h⟩
theorem RdL.lit1 {w:World} {e:TypeId} {v1:Value} {l1:List UInt8} (h1:Rd w v1 l1):RdL (w.alloc (.cells #[v1] e)) (.slice (some ⟨w.heap.size,0,none⟩) 1 1) [v1] [l1]:=
 RdL.lit _ _ rfl rfl rfl (by simp[maxLen]) rfl (fun i hi=>by
  match i with
  |0=>exact h1
  |i+1=>exact absurd hi (by simp))
theorem New.one {e:TypeId} {w w':World} {v:Value} {l1:List UInt8} (h:New e w v [l1].flatten w'):New e w v l1 w':=by
 simpa using h

theorem clamp_arg (vk:Value) (k:List UInt8) (w:World) (hr:Rd w vk k) (hk:k.length≠32):
  Calls Tryz.prog 178 #[vk] w fun e w'=>e=.returned (.tuple #[.slice none 0 0,.int .i64 1])∧w'=w:=by
 obtain⟨ak,ck,rfl, -,hmk, -, -⟩:=id hr
 have hne:((k.length:Int) !=32)=true:=by simp;omega
 go_enter Tryz.func178,Tryz.ntmps178
 go_wp2
 go_ret2
 exact⟨rfl,rfl⟩

set_option maxRecDepth 100000 in
set_option maxHeartbeats 2000000 in
theorem clamp_any (vk:Value) (k:List UInt8) (hk:k.length=32) (w:World) (hr:Rd w vk k):
  Calls Tryz.prog 178 #[vk] w fun e w'=>∃r,e=.returned (.tuple #[r,.int .i64 0])∧New 5 w r (clL k) w':=by
 obtain⟨ak,ck,rfl, -,hmk, -, -⟩:=id hr
 have hne:((k.length:Int) !=32)=false:=by simp;omega
 have HK:Hid (k.length=32):=hk
 have hL:=RdL.lit1 (e:=26) hr
 have g1:=growB (w:=w) (.cells #[.slice ak k.length ck] 26)
 have HT:Hid (totL [k]≤1000000000):=by show _≤_;simp[totL];omega
 clear hk hmk
 go_enter Tryz.func178,Tryz.ntmps178
 go_wp2_with fail
 refine(join_any _ _ _ _ hL HT.out).mono ?_
 rintro e w1 ⟨v1,rfl,hN0⟩
 have hN1:New 5 w v1 k w1:=hN0.one.from g1
 clear hN0 hL g1 hr hne
 obtain⟨g,c,rfl,hc,hcell,hfree,hset⟩:=hN1.store (j:=0) (by have:=HK.out;omega)
 have hb0:=(k.getD 0 0).toNat_lt
 obtain⟨p,hp⟩:∃p:Nat,p=(k.getD 0 0).toNat / 8 * 8:=⟨_,rfl⟩
 have e1:=and248 (k.getD 0 0).toNat hb0
 rw[←hp] at e1
 have e4:(((UInt8.ofNat p).toNat:Nat):Int)=(p:Int):=by rw[UInt8.toNat_ofNat'];omega
 have hN2:=hset (UInt8.ofNat p)
 rw[e4] at hN2
 have hl0:(0:Int)<(k.length:Int):=by have:=HK.out;omega
 have hl31:(31:Int)<(k.length:Int):=by have:=HK.out;omega
 have hn0:0<k.length:=by have:=HK.out;omega
 have hn31:31<k.length:=by have:=HK.out;omega
 obtain⟨g',c',ev, -,hcell2,hfree2,hset2⟩:=hN2.store (j:=31) (by rw[List.length_set];exact hn31)
 simp only[Value.slice.injEq,Option.some.injEq,Addr.mk.injEq,and_true,true_and] at ev
 obtain⟨rfl, -,rfl⟩:=ev
 have hget:(k.set 0 (UInt8.ofNat p)).getD 31 0=k.getD 31 0:=by
  rw[List.getD_eq_getElem?_getD,List.getElem?_set_ne (by decide),←List.getD_eq_getElem?_getD]
 rw[hget] at hcell2
 have hb1:=(k.getD 31 0).toNat_lt
 obtain⟨m,hm⟩:∃m:Nat,m=(k.getD 31 0).toNat % 128:=⟨_,rfl⟩
 obtain⟨s,hs⟩:∃s:Nat,s=(k.getD 31 0).toNat % 64+64:=⟨_,rfl⟩
 have e5:=and127 (k.getD 31 0).toNat hb1
 have e6:=or64 (k.getD 31 0).toNat hb1
 rw[←hm] at e5 e6
 rw[←hs] at e6
 have e8:(((UInt8.ofNat s).toNat:Nat):Int)=(s:Int):=by rw[UInt8.toNat_ofNat'];omega
 have hN3:=hset2 (UInt8.ofNat s)
 rw[e8] at hN3
 have HN:Hid (New 5 w (.slice (some ⟨g,0,none⟩) k.length c) (clL k) ((w1.setCell ⟨g,0,none⟩ (.int .u8 (p:Int))).setCell ⟨g,31,none⟩ (.int .u8 (s:Int)))):=by
  have:clL k=(k.set 0 (UInt8.ofNat p)).set 31 (UInt8.ofNat s):=by
   unfold clL
   rw[hs,hp]
  rw[this]
  exact hN3
 generalize (k.getD 0 0).toNat=t0 at hcell e1
 generalize (k.getD 31 0).toNat=t1 at hcell2 e5
 clear hset hset2 hN3 hN2 hN1 hget hp hs hm hb0 hb1 e4 e8
 go_wp2
 go_ret2
 exact⟨_,rfl,HN.out⟩

set_option maxRecDepth 100000 in
set_option maxHeartbeats 2000000 in
theorem scalar_arg (vk vu:Value) (k u:List UInt8) (w:World) (hk:Rd w vk k) (hu:Rd w vu u) (h:¬(k.length=32∧u.length=32)):
  Calls Tryz.prog 111 #[vk,vu] w fun e w'=>e=.returned (.tuple #[.slice none 0 0,.int .i64 1])∧Below w.heap.size w w':=by
 obtain⟨au,cu,rfl, -,hmu, -, -⟩:=id hu
 go_enter Tryz.func111,Tryz.ntmps111
 go_wp2_with fail
 by_cases hl:k.length=32
 ·have hne:((u.length:Int) !=32)=true:=by simp;omega
  refine(clamp_any _ k hl _ hk).mono ?_
  rintro e w1 ⟨v1,rfl,hN⟩
  clear h
  go_wp2
  go_ret2
  exact⟨rfl,hN.2⟩
 ·refine(clamp_arg _ k _ hk hl).mono ?_
  rintro e w1 ⟨rfl,rfl⟩
  clear h hl
  go_wp2
  go_ret2
  exact⟨rfl,Below.refl _ _⟩

theorem scN_of {r l:List Nat} {k u:List UInt8} (h:gv r=ldX (gv l) (bitB (clL k))) (hl:wv l=decN u):enL (wv r)=enL (scN k u):=by
 have e:wv r % pN=scN k u % pN:=by
  have h1:(gv r).val=scN k u:=by rw[h];unfold scN gv;rw[hl]
  rw[Nat.mod_eq_of_lt (scN_lt k u),←h1]
  rfl
 unfold enL
 rw[e]

set_option maxRecDepth 100000 in
set_option maxHeartbeats 2000000 in
theorem scalar_any (vk vu:Value) (k u:List UInt8) (w:World) (hk:Rd w vk k) (hu:Rd w vu u) (hk32:k.length=32) (hu32:u.length=32):
  Calls Tryz.prog 111 #[vk,vu] w fun e w'=>∃r,e=.returned (.tuple #[r,.int .i64 0])∧New 5 w r (enL (scN k u)) w':=by
 obtain⟨au,cu,rfl, -,hmu, -, -⟩:=id hu
 have hne:((u.length:Int) !=32)=false:=by simp;omega
 obtain⟨L,hL⟩:∃L:List UInt8,L=enL (scN k u):=⟨_,rfl⟩
 rw[←hL]
 have HL:Hid _:=hL
 have H1:Hid _:=hk32
 clear hL hk32 hu32
 go_enter Tryz.func111,Tryz.ntmps111
 go_wp2_with fail
 refine(clamp_any _ k H1.out _ hk).mono ?_
 rintro e w1 ⟨v1,rfl,hN⟩
 replace hu:=hu.kept hN.2
 have hb:=hN.2
 have hc:=hN.rd
 clear hN
 go_wp2_with fail
 refine(fdecode_any _ u _ hu).mono ?_
 rintro e w2 ⟨l2,rfl,h2,v2,bn⟩
 have HV:Hid _:=v2
 clear v2
 replace hc:=hc.kept bn
 replace hb:=stepB hb bn
 clear bn
 go_wp2_with fail
 refine(ladder_any _ (clL k) (by rw[clL_length,H1.out]) _ l2 h2 rfl _ hc).mono ?_
 rintro e w3 ⟨r,rfl,hr,vr,bn⟩
 have HR:Hid _:=vr
 clear vr
 replace hb:=stepB hb bn
 clear bn hc
 go_wp2_with fail
 refine(fencode_any _ r hr rfl _).mono ?_
 rintro e w4 ⟨v4,rfl,hN4⟩
 rw[scN_of HR.out HV.out,←HL.out] at hN4
 go_wp2
 go_ret2
 exact⟨_,rfl,hN4.from hb⟩

theorem nine_enc:enL (wv [9,0,0,0])=key9:=by decide+kernel
set_option maxHeartbeats 1000000 in
theorem public_any (vk:Value) (k:List UInt8) (w:World) (hk:Rd w vk k):
  Calls Tryz.prog 62 #[vk] w fun e w'=>(k.length=32→∃r,e=.returned (.tuple #[r,.int .i64 0])∧New 5 w r (enL (scN k key9)) w')∧(k.length≠32→e=.returned (.tuple #[.slice none 0 0,.int .i64 1])∧Below w.heap.size w w'):=by
 go_enter Tryz.func62,Tryz.ntmps62
 go_wp2_with fail
 refine(fencode_any _ [9,0,0,0] (small4 9 (by decide)) rfl _).mono ?_
 rintro e w1 ⟨v1,rfl,hN⟩
 rw[nine_enc] at hN
 replace hk:=hk.kept hN.2
 have h9:=hN.rd
 have hb:=hN.2
 clear hN
 go_wp2_with fail
 by_cases hl:k.length=32
 ·refine(scalar_any _ _ k key9 _ hk h9 hl key9_length).mono ?_
  rintro e w2 ⟨v2,rfl,hN3⟩
  go_wp2
  go_ret2
  exact⟨fun _=>⟨_,rfl,hN3.from hb⟩,fun h=>absurd hl h⟩
 ·refine(scalar_arg _ _ k key9 _ hk h9 (fun h=>hl h.1)).mono ?_
  rintro e w2 ⟨rfl,b2⟩
  go_wp2
  go_ret2
  exact⟨fun h=>absurd h hl,fun _=>⟨rfl,stepB hb b2⟩⟩
theorem Tabs.chg {S:Nat→Prop} {w w':World} (h:Tabs w) (c:Chg S w w') (hS:∀k,k≤7→¬S k):Tabs w':=by
 have k2:=h.two
 exact⟨fun i hi=>by rw[World.cell?_of_block (w:=w) (a:=⟨7,i,none⟩) (c.block _ (by show 7<_;omega) (hS _ (by show 7≤_;omega)))];exact h.turns i hi,
  fun i hi=>by rw[World.cell?_of_block (w:=w) (a:=⟨6,i,none⟩) (c.block _ (by show 6<_;omega) (hS _ (by show 6≤_;omega)))];exact h.consts i hi⟩
theorem xofC_rate (f:Nat→Nat) (r c:Nat):(xofC f r c)[25]?=some (.int .i64 (r:Int)):=by
 unfold xofC
 rw[List.getElem?_append_right (by rw[List.length_map,stL_length];omega),List.length_map,stL_length]
 rfl
theorem xofC_given (f:Nat→Nat) (r c:Nat):(xofC f r c)[26]?=some (.int .i64 (c:Int)):=by
 unfold xofC
 rw[List.getElem?_append_right (by rw[List.length_map,stL_length];omega),List.length_map,stL_length]
 rfl
theorem xofC_set (f:Nat→Nat) (r c d:Nat) (D:Int) (hD:D=(d:Int)):(xofC f r c).set 26 (.int .i64 D)=xofC f r d:=by
 subst hD
 unfold xofC
 rw[List.set_append_right _ _ (by rw[List.length_map,stL_length];omega),List.length_map,stL_length]
 rfl
theorem smF_at (f:Nat→Nat) (r t c:Nat) (hc:c<r):smF f r (t * r+c)=byF (itF f t) c:=by
 unfold smF
 rw[Nat.mul_comm,Nat.mul_add_div (by omega),Nat.mul_add_mod,Nat.div_eq_of_lt hc,Nat.mod_eq_of_lt hc,Nat.add_zero]

set_option maxRecDepth 100000 in
set_option maxHeartbeats 1000000 in
theorem next_any (g:Nat) (f:Nat→Nat) (hf:∀i,f i<18446744073709551616) (r p:Nat) (h1:1≤r) (h2:r≤200) (w:World) (hX:XP g f r p w) (hg:7<g) (ht:Tabs w):
  Calls Tryz.prog 206 #[.pointer (some ⟨g,0,none⟩)] w fun e w'=>e=.returned (.int .u8 ((smF f r p).toNat:Int))∧XP g f r (p+1) w'∧Chg (fun b=>b=g) w w'∧Tabs w':=by
 have HF:Hid (∀i,f i<18446744073709551616):=hf
 clear hf
 obtain⟨t,c,hc,hp,hB⟩:=hX
 have c25:w.cell? ⟨g,25,none⟩=some (.int .i64 (r:Int)):=by rw[hB.cell,xofC_rate]
 have c26:w.cell? ⟨g,26,none⟩=some (.int .i64 (c:Int)):=by rw[hB.cell,xofC_given]
 have f26:=hB.free 26
 by_cases hcr:c=r
 ·subst hcr
  have HP:Hid (smF f c p=byF (itF f (t+1)) 0):=by
   have:=smF_at f c (t+1) 0 (by omega)
   rw[Nat.add_zero,Nat.add_mul,Nat.one_mul,←hp] at this
   exact this
  have HP2:Hid (p+1=(t+1) * c+1):=by
   show p+1=_
   rw[hp,Nat.add_mul,Nat.one_mul]
  clear hp
  have hB0:BlkAt g 248 ([]++(stL (itF f t)).map (Value.int .u64)++[.int .i64 (c:Int),.int .i64 (c:Int)]) w:=hB
  go_enter Tryz.func206,Tryz.ntmps206
  go_wp2_with fail
  refine wpG_begin (by kernel_rfl) ?_
  refine gU_ 0 rfl ⟨_,by intro W hW;go_simp<;>with_reducible rfl,?_⟩
  try simp only[Act.put,pA_,pB_,pC_]
  refine gU_ 1 rfl ⟨_,by intro W hW;go_simp<;>with_reducible rfl,?_⟩
  try simp only[Act.put,pA_,pB_,pC_]
  refine gU_ 2 rfl ⟨_,by intro W hW;go_simp<;>with_reducible rfl,?_⟩
  try simp only[Act.put,pA_,pB_,pC_]
  refine gU_ 3 rfl ⟨_,by intro W hW;have hcW:=cellU c26 hW;go_simp<;>with_reducible rfl,?_⟩
  try simp only[Act.put,pA_,pB_,pC_]
  refine gU_ 4 rfl ⟨_,by intro W hW;go_simp<;>with_reducible rfl,?_⟩
  try simp only[Act.put,pA_,pB_,pC_]
  refine gU_ 5 rfl ⟨_,by intro W hW;go_simp<;>with_reducible rfl,?_⟩
  try simp only[Act.put,pA_,pB_,pC_]
  refine gU_ 6 rfl ⟨_,by intro W hW;go_simp<;>with_reducible rfl,?_⟩
  try simp only[Act.put,pA_,pB_,pC_]
  refine gU_ 7 rfl ⟨_,by intro W hW;have hcW:=cellU c25 hW;go_simp<;>with_reducible rfl,?_⟩
  try simp only[Act.put,pA_,pB_,pC_]
  refine gU_ 8 rfl ⟨_,by intro W hW;go_simp<;>with_reducible rfl,?_⟩
  try simp only[Act.put,pA_,pB_,pC_]
  refine wpG_done (by kernel_rfl) ?_
  have hBd:=hB0.drew
  have htd:=ht.kept (Below.refl _ _).drew
  have f26d:w.drew.frozen? ⟨g,26,none⟩=false:=f26
  have c26d:w.drew.cell? ⟨g,26,none⟩=some (.int .i64 (c:Int)):=c26
  go_wp2_with (refine wpList_load_blk rfl 235 _ rfl (g:=g) (o:=0) (by go_simp;done) hBd rfl Tryz.underlying235 rfl (by rw[List.length_map];exact arrInfo _) ?_)
  refine(kF_any _ (itF f t) (itF_lt f HF.out t) rfl _ htd).mono ?_
  rintro e w2 ⟨rfl,hB2⟩
  rw[arrV_F _ (itF_lt f HF.out t)]
  have hBd2:=hBd.kept hB2
  have ht2:=htd.kept hB2
  have hch2:Chg (fun b=>b=g) w w2:=(Chg.refl _ w).drew.trans (.of_below hB2)
  clear hB0 hBd htd f26d c26d c25 c26 f26 hB ht hB2
  go_wp2_with (refine wpList_store_blk rfl 235 _ _ rfl (g:=g) (o:=0) (by go_simp;done) ((stL (itF f (t+1))).map (Value.int .u64)) rfl hBd2 rfl (by rw[List.length_map,List.length_map,stL_length,stL_length]) (by rw[List.length_map];exact arrInfo _) (ints_one _ _) ?_)
  intro w3 hB3 hw3
  have hBx:BlkAt g 248 (xofC (itF f (t+1)) c c) w3:=hB3
  have d25:w3.cell? ⟨g,25,none⟩=some (.int .i64 (c:Int)):=by rw[hBx.cell,xofC_rate]
  have d26:w3.cell? ⟨g,26,none⟩=some (.int .i64 (c:Int)):=by rw[hBx.cell,xofC_given]
  have e26:=hBx.free 26
  have hch3:=hch2.trans (Chg.of_wrote hw3)
  have ht3:=ht2.chg (Chg.of_wrote hw3) (fun k hk h=>by omega)
  have hB4:=hBx.set 26 (.int .i64 0)
  rw[xofC_set _ _ _ 0 0 rfl] at hB4
  have hB5:=hB4.set 26 (.int .i64 1)
  rw[xofC_set _ _ _ 1 1 rfl] at hB5
  have hw4:=(Wrote.set g 26 w3 (.int .i64 0)).trans (Wrote.set g 26 _ (.int .i64 1))
  have hch5:=hch3.trans (Chg.of_wrote hw4)
  have ht5:=ht3.chg (Chg.of_wrote hw4) (fun k hk h=>by omega)
  clear hB3 hw3 hBd2 ht2 hch2 hBx hch3 ht3 hB4 hw4
  go_wp2_with fail
  generalize (w3.setCell ⟨g,26,none⟩ (.int .i64 0)).setCell ⟨g,26,none⟩ (.int .i64 1)=w5 at hB5 hch5 ht5
  have k26:w5.cell? ⟨g,26,none⟩=some (.int .i64 1):=by rw[hB5.cell,xofC_given];rfl
  have hB6:BlkAt g 248 ([]++(stL (itF f (t+1))).map (Value.int .u64)++[.int .i64 (c:Int),.int .i64 ((1:Nat):Int)]) w5:=hB5
  refine wpG_begin (by kernel_rfl) ?_
  refine gU_ 0 rfl ⟨_,by intro W hW;go_simp<;>with_reducible rfl,?_⟩
  try simp only[Act.put,pA_,pB_,pC_]
  refine gU_ 1 rfl ⟨_,by intro W hW;go_simp<;>with_reducible rfl,?_⟩
  try simp only[Act.put,pA_,pB_,pC_]
  refine gU_ 2 rfl ⟨_,by intro W hW;go_simp<;>with_reducible rfl,?_⟩
  try simp only[Act.put,pA_,pB_,pC_]
  refine gU_ 3 rfl ⟨_,by intro W hW;refine Eq.trans (exec_load_blk 235 _ (by rfl) (g:=g) (o:=0) (by go_simp;done) (hB6.drew.kept hW) rfl Tryz.underlying235 rfl (by rw[List.length_map];exact arrInfo _)) ?_;with_reducible rfl,?_⟩
  try simp only[Act.put,pA_,pB_,pC_]
  refine gU_ 4 rfl ⟨_,by intro W hW;go_simp<;>with_reducible rfl,?_⟩
  try simp only[Act.put,pA_,pB_,pC_]
  refine gU_ 5 rfl ⟨_,by intro W hW;go_simp<;>with_reducible rfl,?_⟩
  try simp only[Act.put,pA_,pB_,pC_]
  refine gU_ 6 rfl ⟨_,by intro W hW;go_simp<;>with_reducible rfl,?_⟩
  try simp only[Act.put,pA_,pB_,pC_]
  refine gU_ 7 rfl ⟨_,by intro W hW;have hcW:=cellU k26 hW;go_simp<;>with_reducible rfl,?_⟩
  try simp only[Act.put,pA_,pB_,pC_]
  refine gU_ 8 rfl ⟨_,by intro W hW;go_simp<;>with_reducible rfl,?_⟩
  try simp only[Act.put,pA_,pB_,pC_]
  refine gD_ 9 fun K hK=>?_
  go_simp
  refine(byteAt_any _ (itF f (t+1)) (itF_lt f HF.out (t+1)) rfl 0 (by omega) _).mono ?_
  rintro e w6 ⟨rfl,hB7⟩
  refine hK.out _ _ hB7 ?_
  clear hK K
  try simp only[Act.put,pA_,pB_,pC_]
  refine gU_ 10 rfl ⟨_,by intro W hW;go_simp<;>with_reducible rfl,?_⟩
  try simp only[Act.put,pA_,pB_,pC_]
  refine wpG_done (by kernel_rfl) ?_
  have hfin:Chg (fun b=>b=g) w w6:=hch5.drew.trans (.of_below hB7)
  have hBf:BlkAt g 248 (xofC (itF f (t+1)) c 1) w6:=hB5.drew.kept hB7
  have htf:=(ht5.kept (Below.refl _ _).drew).kept hB7
  go_wp2
  go_ret
  rw[HP.out]
  exact⟨rfl,⟨t+1,1,by omega,HP2.out,hBf⟩,hfin,htf⟩
 ·have hclt:c<r:=by omega
  have hne:¬(c:Int)=(r:Int):=by omega
  have HP:Hid (smF f r p=byF (itF f t) c):=by
   have:=smF_at f r t c hclt
   rw[←hp] at this
   exact this
  have HP2:Hid (p+1=t * r+(c+1)):=by
   show p+1=_
   rw[hp]
   omega
  have cw:IntKind.i64.wrap ((c:Int)+1)=(c:Int)+1:=IntWalk.i64_in _ (by omega)
  have cw2:IntKind.i64.wrap (c:Int)=(c:Int):=IntWalk.i64_in _ (by omega)
  clear hp
  go_enter Tryz.func206,Tryz.ntmps206
  go_wp2_with fail
  refine wpG_begin (by kernel_rfl) ?_
  refine gU_ 0 rfl ⟨_,by intro W hW;go_simp<;>with_reducible rfl,?_⟩
  try simp only[Act.put,pA_,pB_,pC_]
  refine gU_ 1 rfl ⟨_,by intro W hW;go_simp<;>with_reducible rfl,?_⟩
  try simp only[Act.put,pA_,pB_,pC_]
  refine gU_ 2 rfl ⟨_,by intro W hW;go_simp<;>with_reducible rfl,?_⟩
  try simp only[Act.put,pA_,pB_,pC_]
  refine gU_ 3 rfl ⟨_,by intro W hW;have hcW:=cellU c26 hW;go_simp<;>with_reducible rfl,?_⟩
  try simp only[Act.put,pA_,pB_,pC_]
  refine gU_ 4 rfl ⟨_,by intro W hW;go_simp<;>with_reducible rfl,?_⟩
  try simp only[Act.put,pA_,pB_,pC_]
  refine gU_ 5 rfl ⟨_,by intro W hW;go_simp<;>with_reducible rfl,?_⟩
  try simp only[Act.put,pA_,pB_,pC_]
  refine gU_ 6 rfl ⟨_,by intro W hW;go_simp<;>with_reducible rfl,?_⟩
  try simp only[Act.put,pA_,pB_,pC_]
  refine gU_ 7 rfl ⟨_,by intro W hW;have hcW:=cellU c25 hW;go_simp<;>with_reducible rfl,?_⟩
  try simp only[Act.put,pA_,pB_,pC_]
  refine gU_ 8 rfl ⟨_,by intro W hW;go_simp<;>with_reducible rfl,?_⟩
  try simp only[Act.put,pA_,pB_,pC_]
  refine wpG_done (by kernel_rfl) ?_
  have hBd:=hB.drew
  have htd:=ht.kept (Below.refl _ _).drew
  have f26d:w.drew.frozen? ⟨g,26,none⟩=false:=f26
  have c26d:w.drew.cell? ⟨g,26,none⟩=some (.int .i64 (c:Int)):=c26
  have hchd:Chg (fun b=>b=g) w w.drew:=(Chg.refl _ w).drew
  generalize w.drew=wd at hBd htd f26d c26d hchd ⊢
  have hB5:=hBd.set 26 (.int .i64 ((c:Int)+1))
  rw[xofC_set _ _ _ (c+1) _ (by omega)] at hB5
  have hw4:=Wrote.set g 26 wd (.int .i64 ((c:Int)+1))
  have hch5:Chg (fun b=>b=g) w (wd.setCell ⟨g,26,none⟩ (.int .i64 ((c:Int)+1))):=hchd.trans (Chg.of_wrote hw4)
  have ht5:=htd.chg (Chg.of_wrote hw4) (fun k hk h=>by omega)
  clear hBd htd hchd c25 c26 f26 hB ht hw4
  go_wp2_with fail
  generalize wd.setCell ⟨g,26,none⟩ (.int .i64 ((c:Int)+1))=w5 at hB5 hch5 ht5
  have k26:w5.cell? ⟨g,26,none⟩=some (.int .i64 ((c:Int)+1)):=by rw[hB5.cell,xofC_given];rfl
  have hB6:BlkAt g 248 ([]++(stL (itF f t)).map (Value.int .u64)++[.int .i64 (r:Int),.int .i64 ((c+1:Nat):Int)]) w5:=hB5
  refine wpG_begin (by kernel_rfl) ?_
  refine gU_ 0 rfl ⟨_,by intro W hW;go_simp<;>with_reducible rfl,?_⟩
  try simp only[Act.put,pA_,pB_,pC_]
  refine gU_ 1 rfl ⟨_,by intro W hW;go_simp<;>with_reducible rfl,?_⟩
  try simp only[Act.put,pA_,pB_,pC_]
  refine gU_ 2 rfl ⟨_,by intro W hW;go_simp<;>with_reducible rfl,?_⟩
  try simp only[Act.put,pA_,pB_,pC_]
  refine gU_ 3 rfl ⟨_,by intro W hW;refine Eq.trans (exec_load_blk 235 _ (by rfl) (g:=g) (o:=0) (by go_simp;done) (hB6.drew.kept hW) rfl Tryz.underlying235 rfl (by rw[List.length_map];exact arrInfo _)) ?_;with_reducible rfl,?_⟩
  try simp only[Act.put,pA_,pB_,pC_]
  refine gU_ 4 rfl ⟨_,by intro W hW;go_simp<;>with_reducible rfl,?_⟩
  try simp only[Act.put,pA_,pB_,pC_]
  refine gU_ 5 rfl ⟨_,by intro W hW;go_simp<;>with_reducible rfl,?_⟩
  try simp only[Act.put,pA_,pB_,pC_]
  refine gU_ 6 rfl ⟨_,by intro W hW;go_simp<;>with_reducible rfl,?_⟩
  try simp only[Act.put,pA_,pB_,pC_]
  refine gU_ 7 rfl ⟨_,by intro W hW;have hcW:=cellU k26 hW;go_simp<;>with_reducible rfl,?_⟩
  try simp only[Act.put,pA_,pB_,pC_]
  refine gU_ 8 rfl ⟨_,by intro W hW;go_simp<;>with_reducible rfl,?_⟩
  try simp only[Act.put,pA_,pB_,pC_]
  refine gD_ 9 fun K hK=>?_
  go_simp
  refine(byteAt_any _ (itF f t) (itF_lt f HF.out t) rfl c (by omega) _).mono ?_
  rintro e w6 ⟨rfl,hB7⟩
  refine hK.out _ _ hB7 ?_
  clear hK K
  try simp only[Act.put,pA_,pB_,pC_]
  refine gU_ 10 rfl ⟨_,by intro W hW;go_simp<;>with_reducible rfl,?_⟩
  try simp only[Act.put,pA_,pB_,pC_]
  refine wpG_done (by kernel_rfl) ?_
  have hfin:Chg (fun b=>b=g) w w6:=hch5.drew.trans (.of_below hB7)
  have hBf:BlkAt g 248 (xofC (itF f t) r (c+1)) w6:=hB5.drew.kept hB7
  have htf:=(ht5.kept (Below.refl _ _).drew).kept hB7
  go_wp2
  go_ret
  rw[HP.out]
  exact⟨rfl,⟨t,c+1,by omega,HP2.out,hBf⟩,hfin,htf⟩
def pcL (f:Nat→Nat) (r p m:Nat):List UInt8:=(List.range m).map fun k=>smF f r (p+k)
theorem pcL_length (f:Nat→Nat) (r p m:Nat):(pcL f r p m).length=m:=by simp[pcL]
theorem pcL_first (f:Nat→Nat) (r m:Nat):pcL f r 0 m=otL f r m:=by
 unfold pcL otL
 exact List.map_congr_left fun k _=>by rw[Nat.zero_add]
structure RI (w:World) (g:Nat) (f:Nat→Nat) (r p m j:Nat) (wr:World):Prop where
 own:wr.ownsRow w.heap.size 5 1 (.slice (some ⟨w.heap.size,0,none⟩) m m) m (rowV (fun k=>smF f r (p+k)) m j)
 x:XP g f r (p+j) wr
 c:Chg (fun b=>b=g) w wr
 t:Tabs wr

set_option maxRecDepth 100000 in
set_option maxHeartbeats 1000000 in
theorem read_any (g:Nat) (f:Nat→Nat) (hf:∀i,f i<18446744073709551616) (r p:Nat) (h1:1≤r) (h2:r≤200) (n:Int) (m:Nat) (hm:m=n.toNat) (hn:n≤1000000) (w:World) (hX:XP g f r p w) (hg:7<g) (ht:Tabs w):
  Calls Tryz.prog 122 #[.pointer (some ⟨g,0,none⟩),.int .i64 n] w fun e w'=>∃v,e=.returned v∧w'.ownsRow w.heap.size 5 1 v (pcL f r p m).length ((pcL f r p m).map bv)∧XP g f r (p+m) w'∧Chg (fun b=>b=g) w w'∧Tabs w':=by
 obtain⟨i,hi,hz0,hz1,hz2⟩:=info_parts info5
 have HF:Hid (∀i,f i<18446744073709551616):=hf
 clear hf
 have HX:Hid (XP g f r p w):=hX
 have c25:w.cell? ⟨g,25,none⟩=some (.int .i64 (r:Int)):=by
  obtain⟨t,c,hc,hp,hB⟩:=hX
  rw[hB.cell,xofC_rate]
 have hgl:=hX.lt
 clear hX
 have hr0:¬(r:Int)=0:=by omega
 have hr1:((r:Int)==0)=false:=by simpa using hr0
 have d1:decide ((2147483647:Int)<n)=false:=decide_eq_false (by omega)
 have g1:n≤2147483647:=by omega
 have hmx:max n 0=(m:Int):=by omega
 have hcase:(n<0∧m=0)∨(0≤n∧n=(m:Int)):=by omega
 have HM:Hid (m=n.toNat):=hm
 clear hm
 go_enter Tryz.func122,Tryz.ntmps122
 go_wp2_with (at_make;go_must (refine wpList_make_full _ rfl _ _ 26 rfl w.heap.size 5 i _ 1 Tryz.underlying26 hi hz0 hz1 _ _ _ _ m rfl rfl (by omega) (by omega) (by rw[hz2];omega) (by unfold maxLen;omega) (Nat.le_refl _) ?_))
 all_goals
  intro w1 hown hgr
  have hI:RI w g f r p m 0 w1:=by
   rw[rowV_made (fun k=>smF f r (p+k))] at hown
   have c0:Chg (fun b=>some b=none) w w1:=Chg.of_grown hgr
   exact⟨hown,HX.out.chg c0 (by simp),c0.mono (fun k _ h=>by simp at h),ht.chg c0 (by simp)⟩
  have hmb:m≤1000000:=by omega
  clear hown hgr HX ht c25 hcase hmx d1 g1 hn HM
  go_wp2
  go_loopw [25] (fun i wr=>∃j:Nat,j≤m∧i=.int .i64 j∧RI w g f r p m j wr) (fun i _=>m - (intOf i).toNat)
  case atStart=>exact⟨0,Nat.zero_le _,rfl,hI⟩
  case round=>
   obtain⟨j,hj,rfl,hI2⟩:=hrel
   clear hI
   by_cases hlt:j<m
   ·have hdt:decide ((j:Int)<(m:Int))=true:=decide_eq_true (by omega)
    have hjI:(j:Int)<m:=by omega
    go_wp2_with fail
    refine(next_any g f HF.out r (p+j) h1 h2 _ hI2.x hg hI2.t).mono ?_
    rintro e w2 ⟨rfl,hX2,hC2,hT2⟩
    have hown2:=own_chg hI2.own hC2 (fun b hb=>by simp only[Value.ownBlock,Option.some.injEq] at hb;omega)
    have hch2:=hI2.c.trans hC2
    clear hI2 hC2
    have hcj:=hown2.cellAt j (by simpa [rowV_length] using hlt)
    rw[rowV_get _ _ _ _ hlt] at hcj
    have hfj:=hown2.frozenAt j
    have hst:=(hown2.stored j (bv (smF f r (p+j)))).1
    rw[rowV_set (fun k=>smF f r (p+k))] at hst
    have hwr:=Wrote.set w.heap.size j w2 (bv (smF f r (p+j)))
    have hI3:RI w g f r p m (j+1) (w2.setCell ⟨w.heap.size,j,none⟩ (bv (smF f r (p+j)))):=⟨hst,hX2.chg (Chg.of_wrote hwr) (by omega),hch2.step (Chg.of_wrote hwr) (fun k hk h=>by omega),hT2.chg (Chg.of_wrote hwr) (fun k hk h=>by omega)⟩
    have HI:Hid _:=hI3
    unfold bv at hcj HI
    generalize smF f r (p+j)=x at HI
    clear hown2 hst hwr hX2 hch2 hT2 hI3
    go_wp2
    go_roundw
    case rel=>exact⟨j+1,by omega,by go_num,HI.out⟩
    case measure=>simp[intOf];omega
   ·have hje:j=m:=by omega
    subst hje
    have hown2:=hI2.own
    rw[rowV_full] at hown2
    go_wp2
    go_ret
    refine⟨_,rfl,?_,hI2.x,hI2.c,hI2.t⟩
    rw[pcL_length]
    exact hown2

theorem shake128_any (vb:Value) (l:List UInt8) (w:World) (hr:Rd w vb l) (ht:Tabs w):
  Calls Tryz.prog 328 #[vb] w fun e w'=>∃g,e=.returned (.pointer (some ⟨g,0,none⟩))∧w.heap.size≤g∧XP g (abF 168 31 l) 168 0 w'∧Below w.heap.size w w':=by
 go_enter Tryz.func328,Tryz.ntmps328
 go_wp2_with fail
 refine(shake_any 168 (by omega) (by omega) _ l _ hr ht).mono ?_
 rintro e w2 ⟨g,rfl,h1,h2,h3⟩
 go_wp2
 go_ret
 exact⟨g,rfl,h1,h2,h3⟩

theorem shake256_any (vb:Value) (l:List UInt8) (w:World) (hr:Rd w vb l) (ht:Tabs w):
  Calls Tryz.prog 121 #[vb] w fun e w'=>∃g,e=.returned (.pointer (some ⟨g,0,none⟩))∧w.heap.size≤g∧XP g (abF 136 31 l) 136 0 w'∧Below w.heap.size w w':=by
 go_enter Tryz.func121,Tryz.ntmps121
 go_wp2_with fail
 refine(shake_any 136 (by omega) (by omega) _ l _ hr ht).mono ?_
 rintro e w2 ⟨g,rfl,h1,h2,h3⟩
 go_wp2
 go_ret
 exact⟨g,rfl,h1,h2,h3⟩
end Go.Proofs.YtpgjobpmafbigaaGreatDoor

namespace Go.Proofs.YtpgjobpmafbigaaGreatDoor
set_option linter.unusedSimpArgs false
set_option linter.unusedVariables false

theorem or_i64 (a b:Nat) (ha:a<4611686018427387904) (hb:b<4611686018427387904):bits .or .i64 (a:Int) (b:Int)=((a ||| b:Nat):Int):=by
 have hx:a ||| b<2 ^ 62:=Nat.or_lt_two_pow (by omega) (by omega)
 show IntKind.i64.wrap ((BitVec.ofInt 64 (a:Int) ||| BitVec.ofInt 64 (b:Int)).toNat:Int)=_
 rw[BitVec.toNat_or,ofInt_u64 a (by omega),ofInt_u64 b (by omega)]
 exact IntWalk.i64_in _ (by omega)
theorem or_above (x p i:Nat) (hx:x<2 ^ i):x ||| 2 ^ i * p=x+2 ^ i * p:=by
 rw[Nat.or_comm,←Nat.two_pow_add_eq_or_of_lt hx,Nat.add_comm]
theorem and_oneB (y:Nat) (hy:y<9223372036854775808):bits .and .i64 (y:Int) 1=((y % 2:Nat):Int):=by
 have h:=and_low 1 (by decide) (y:Int) (by omega)
 rw[show((2 ^ 1 - 1:Nat):Int)=1 from rfl] at h
 rw[h]
 unfold twZ
 rw[←Int.natCast_emod,Int.toNat_natCast]
theorem bit_facts (x m:Nat) (hx:x<256):∃q r y p:Nat,q=m / 8∧r=m % 8∧r<8∧p=x / 2 ^ (m % 8) % 2∧((m:Nat):Int).tdiv 8=(q:Int)∧(m:Int) / 8=(q:Int)∧((m:Nat):Int).tmod 8=(r:Int)∧(m:Int) % 8=(r:Int)∧(x:Int) / 2 ^ r=(y:Int)∧bits .and .i64 (y:Int) 1=(p:Int)∧y<256:=by
 have hy:x / 2 ^ (m % 8)<256:=Nat.lt_of_le_of_lt (Nat.div_le_self _ _) hx
 refine⟨m / 8,m % 8,x / 2 ^ (m % 8),x / 2 ^ (m % 8) % 2,rfl,rfl,by omega,rfl,?_,by omega,?_,by omega,by simp,and_oneB _ (by omega),hy⟩
 ·rw[Int.tdiv_eq_ediv_of_nonneg (by omega)];omega
 ·rw[Int.tmod_eq_emod_of_nonneg (by omega)];omega
theorem bs_top (f:Nat→Nat):∀n o,bs f o (n+1)=bs f o n+2 ^ n * f (o+n)
 |0,o=>by
  show f o+2 * 0=0+1 * f (o+0)
  rw[Nat.add_zero o]
  omega
 |n+1,o=>by
  rw[bs_succ,bs_top f n (o+1),bs_succ f o n,Nat.pow_succ,show o+1+n=o+(n+1) by omega,Nat.mul_add,Nat.mul_comm (2 ^ n) 2,Nat.mul_assoc,Nat.add_assoc]
theorem join_facts (f:Nat→Nat) (hf:∀k,f k<2) (o i:Nat) (hi:i<12):∃P z:Nat,((f (o+i):Nat):Int) * 2 ^ i=(P:Int)∧IntKind.i64.wrap (P:Int)=(P:Int)∧bits .or .i64 ((bs f o i:Nat):Int) (P:Int)=(z:Int)∧z=bs f o (i+1):=by
 have h1:=bs_lt f hf i o
 have h2:=hf (o+i)
 have h3:2 ^ i≤2 ^ 12:=Nat.pow_le_pow_right (by decide) (by omega)
 have h4:(2:Nat) ^ 12=4096:=by decide
 have h5:2 ^ i * f (o+i)≤2 ^ i * 1:=Nat.mul_le_mul_left _ (by omega)
 refine⟨2 ^ i * f (o+i),bs f o i+2 ^ i * f (o+i),?_,IntWalk.i64_in _ (by omega),?_,(bs_top f i o).symm⟩
 ·rw[Int.mul_comm];simp
 ·rw[or_i64 _ _ (by omega) (by omega),or_above _ _ _ h1]
theorem add_facts (b:List UInt8) (o n:Nat) (hn:n<100):IntKind.i64.wrap (((cn b o n:Nat):Int)+((btY b (o+n):Nat):Int))=((cn b o (n+1):Nat):Int):=by
 have h1:=cn_le b o n
 have h2:=btY_lt b (o+n)
 rw[IntWalk.i64_in _ (by omega)]
 rfl
theorem leN_digit:∀(l:List UInt8) (k:Nat),leN l / 256 ^ k % 256=(l.getD k 0).toNat
 |[],k=>by simp[leN]
 |x :: l,0=>by
  have:=x.toNat_lt
  show(x.toNat+256 * leN l) / 1 % 256=x.toNat
  omega
 |x :: l,k+1=>by
  have:=x.toNat_lt
  have ih:=leN_digit l k
  show(x.toNat+256 * leN l) / 256 ^ (k+1) % 256=_
  rw[Nat.pow_succ,Nat.mul_comm (256 ^ k) 256,←Nat.div_div_eq_div_mul,show(x.toNat+256 * leN l) / 256=leN l by omega,ih]
  simp
theorem btY_leN (l:List UInt8) (m:Nat):leN l / 2 ^ m % 2=btY l m:=by
 unfold btY
 rw[←leN_digit l (m / 8)]
 have hp:2 ^ m=256 ^ (m / 8) * 2 ^ (m % 8):=by
  rw[show(256:Nat)=2 ^ 8 from rfl,←Nat.pow_mul,←Nat.pow_add,Nat.div_add_mod]
 rw[hp,←Nat.div_div_eq_div_mul]
 generalize leN l / 256 ^ (m / 8)=X
 have hr:m % 8<8:=Nat.mod_lt _ (by decide)
 have:2 ^ (m % 8) * 2 ^ (8 - m % 8)=256:=by rw[←Nat.pow_add,show m % 8+(8 - m % 8)=8 by omega]
 have h2:2 ∣ 2 ^ (8 - m % 8):=⟨2 ^ (7 - m % 8),by rw[←Nat.pow_succ',show(7 - m % 8).succ=8 - m % 8 by omega]⟩
 rw[←this,Nat.mod_mul_right_div_self,Nat.mod_mod_of_dvd _ h2]
theorem bs_leN (l:List UInt8) (o n:Nat):bs (btY l) o n=leN l / 2 ^ o % 2 ^ n:=by
 rw[←bs_of (leN l) n o]
 exact bs_congr n o o fun s _=>(btY_leN l (o+s)).symm
theorem two_of_three (S:Nat→UInt8) (g i:Nat) (hi:i<2):bs (btY ((List.range 3).map fun k=>S (3 * g+k))) (12 * i) 12=cdN S (2 * g+i):=by
 rw[bs_leN]
 have e:leN ((List.range 3).map fun k=>S (3 * g+k))=(S (3 * g)).toNat+256 * ((S (3 * g+1)).toNat+256 * ((S (3 * g+2)).toNat+256 * 0)):=rfl
 rw[e]
 have a0:=(S (3 * g)).toNat_lt
 have a1:=(S (3 * g+1)).toNat_lt
 have a2:=(S (3 * g+2)).toNat_lt
 have p1:(2:Nat) ^ 12=4096:=by decide
 unfold cdN
 have hc:i=0∨i=1:=by omega
 rcases hc with rfl|rfl
 ·rw[if_pos (by omega),show(2 * g+0) / 2=g by omega,show 12 * 0=0 from rfl,Nat.pow_zero,Nat.div_one,p1]
  omega
 ·rw[if_neg (by omega),show(2 * g+1) / 2=g by omega,show 12 * 1=12 from rfl,p1]
  omega
theorem ns_sub (e:Nat) (b:List UInt8) (k:Nat) (he:e≤3):rsZ (((cn b (2 * k * e) e:Nat):Int) - ((cn b (2 * k * e+e) e:Nat):Int))=(nsF e b k).val:=by
 have h1:=cn_le b (2 * k * e) e
 have h2:=cn_le b (2 * k * e+e) e
 unfold nsF nsN
 rw[nz_val]
 unfold rsZ
 omega
def ppY (d:Nat) (F:Nat→Int) (m i:Nat):UInt8:=UInt8.ofNat (bs (pkB d F) (8 * i) (min 8 (m - 8 * i)))
def ppL (d:Nat) (F:Nat→Int) (m:Nat):List UInt8:=(List.range (32 * d)).map (ppY d F m)
theorem ppL_length (d:Nat) (F:Nat→Int) (m:Nat):(ppL d F m).length=32 * d:=by simp[ppL]
theorem ppL_zero (d:Nat) (F:Nat→Int):ppL d F 0=List.replicate (32 * d) 0:=by
 refine List.ext_getElem (by simp[ppL]) fun i h1 h2=>?_
 simp only[ppL,List.getElem_map,List.getElem_range,List.getElem_replicate,ppY]
 rw[Nat.zero_sub,Nat.min_eq_right (by omega),bs_zero]
 rfl
theorem ppL_done (d:Nat) (F:Nat→Int):ppL d F (d * 256)=pkL d F:=by
 unfold ppL pkL
 refine List.map_congr_left fun i hi=>?_
 have hi:=List.mem_range.1 hi
 unfold ppY pkY
 rw[Nat.min_eq_left (by omega)]
theorem ppY_val (d:Nat) (F:Nat→Int) (m i:Nat):(ppY d F m i).toNat=bs (pkB d F) (8 * i) (min 8 (m - 8 * i)):=by
 have h1:=bs_lt (pkB d F) (pkB_lt d F) (min 8 (m - 8 * i)) (8 * i)
 have h2:2 ^ min 8 (m - 8 * i)≤2 ^ 8:=Nat.pow_le_pow_right (by decide) (by omega)
 unfold ppY
 rw[UInt8.toNat_ofNat']
 exact Nat.mod_eq_of_lt (by omega)
theorem lay_facts (d:Nat) (F:Nat→Int) (m:Nat) (x p:Nat) (hx:x=((ppL d F m).getD (m / 8) 0).toNat) (hp:p=pkB d F m) (hm:m<256 * d):
  ∃P z:Nat,(p:Int) * 2 ^ (m % 8)=(P:Int)∧IntKind.u8.wrap (P:Int)=(P:Int)∧bits .or .u8 (x:Int) (P:Int)=(z:Int)∧z<256∧(ppL d F m).set (m / 8) (UInt8.ofNat z)=ppL d F (m+1):=by
 have hq:m / 8<32 * d:=by omega
 have e1:(ppL d F m).getD (m / 8) 0=ppY d F m (m / 8):=by simp[ppL,hq]
 rw[e1,ppY_val,show min 8 (m - 8 * (m / 8))=m % 8 by omega] at hx
 have h1:=bs_lt (pkB d F) (pkB_lt d F) (m % 8) (8 * (m / 8))
 rw[←hx] at h1
 have hp2:p<2:=by rw[hp];exact pkB_lt d F m
 have h3:2 ^ (m % 8)≤2 ^ 7:=Nat.pow_le_pow_right (by decide) (by omega)
 have h4:(2:Nat) ^ 7=128:=by decide
 have h5:2 ^ (m % 8) * p≤2 ^ (m % 8) * 1:=Nat.mul_le_mul_left _ (by omega)
 refine⟨2 ^ (m % 8) * p,x+2 ^ (m % 8) * p,?_,?_,?_,by omega,?_⟩
 ·rw[Int.mul_comm];simp
 ·rw[IntKind.wrap_u8'];omega
 ·rw[u8_or_nat _ _ (by omega) (by omega),or_above _ _ _ h1]
 ·refine List.ext_getElem (by simp[ppL]) fun i i1 i2=>?_
  simp only[ppL,List.getElem_set,List.getElem_map,List.getElem_range]
  by_cases h:m / 8=i
  ·rw[if_pos h,←h]
   unfold ppY
   rw[show min 8 (m+1 - 8 * (m / 8))=m % 8+1 by omega,bs_top,hx,hp,show 8 * (m / 8)+m % 8=m by omega]
  ·rw[if_neg h]
   unfold ppY
   rw[show min 8 (m+1 - 8 * i)=min 8 (m - 8 * i) by omega]
theorem upF_val (d:Nat) (b:List UInt8) (k:Nat):rsZ ((upN d b k:Nat):Int)=(upF d b k).val:=by
 unfold upF
 rw[nz_val,rsZ_nat]
end Go.Proofs.YtpgjobpmafbigaaGreatDoor
