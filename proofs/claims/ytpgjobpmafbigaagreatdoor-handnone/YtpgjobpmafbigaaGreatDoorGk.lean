/- What functions of the program, or of the reference, answer: contracts; several texts in one. -/
import Derived.Test.YtpgjobpmafbigaaGreatDoorGj
import Derived.Test.YtpgjobpmafbigaaGreatDoorGg
import Derived.Test.YtpgjobpmafbigaaGreatDoorBase
import Derived.Deep.DeepCutAuto
import Derived.Test.YtpgjobpmafbigaaGreatDoorGe
import Derived.Test.YtpgjobpmafbigaaGreatDoorGf
import Derived.Test.YtpgjobpmafbigaaGreatDoorGi
import Derived.Test.YtpgjobpmafbigaaGreatDoorGd
import Derived.Lib.SlBytesConst

namespace Go.Proofs.YtpgjobpmafbigaaGreatDoor
open Go.ChangeShapes Go.WideShapes Go.ChangeAt Go.RowKit
set_option linter.unusedSimpArgs false
set_option linter.unusedVariables false

theorem shD_set6 (x0 x1:Value) (post:List Value) (vc vh vk:Value) (n j:Nat) (v:Value):(shD x0 x1 post vc vh vk n).set (6+j) v=shD x0 x1 (post.set j v) vc vh vk n:=by
 rw[Nat.add_comm]
 rfl
theorem shD_get6 (x0 x1:Value) (post:List Value) (vc vh vk:Value) (n j:Nat):(shD x0 x1 post vc vh vk n)[6+j]?=post[j]?:=by
 rw[Nat.add_comm]
 rfl
theorem StV.post {base g:Nat} {x0 x1:Value} {post post':List Value} {vc vh vk:Value} {s:Sta} {w w':World} (h:StV base g x0 x1 post vc vh vk s w) (hb:BlkAt g 101 (shD x0 x1 post' vc vh vk s.c.n) w') (c:Chg (fun k=>k=g) w w'):StV base g x0 x1 post' vc vh vk s w':=
 ⟨hb,h.2.1.chg h.1 ne_shake c,h.2.2.1.chg h.1 ne_shake c,h.2.2.2.chg h.1 ne_shake c⟩

set_option maxRecDepth 100000 in
set_option maxHeartbeats 4000000 in
theorem wcurve_any (V:WV) (vl:Value) (w0:World) (x0 vm:Value) (s:Sta) (c m:List UInt8) (h32:32≤c.length) (hlm:m.length≤1000000) (w:World) (hW:Wr V vl w0 x0 vm s c m w):
  Calls Tryz.prog 61 #[.pointer (some ⟨V.gd,0,none⟩),.pointer (some ⟨V.gs,0,none⟩),.pointer (some ⟨V.gp,0,none⟩)] w fun e w'=>∃v,e=.returned (.tuple #[v,.int .i64 0])∧Rd w' v (enL (scN (c.take 32) key9))∧Wr V vl w0 x0 vm s (c.drop 32) (m++enL (scN (c.take 32) key9)) w'∧Stay 91 w w':=by
 obtain⟨post,vc,vh,vk,vg,vd,hC⟩:=hW.it
 have HN:Hid (WN V w0):=hW.num
 have HF:Hid (WF V vl w):=hW.fix
 have HC:Hid (WC V w0 x0 vm s c m post vc vh vk vg vd w):=hC
 have HD:Hid _:=draw_any V.gc vd c h32 w hC.bc (hC.rc.kept hC.below)
 have HLm:Hid (m.length≤1000000):=hlm
 have HK32:Hid ((c.take 32).length=32):=by show _=_;rw[List.length_take];omega
 have cd:=hW.fix.bd.one
 obtain⟨KK,hK⟩:∃KK:List UInt8,KK=c.take 32:=⟨_,rfl⟩
 obtain⟨C',hC'⟩:∃KK:List UInt8,KK=c.drop 32:=⟨_,rfl⟩
 rw[←hK,←hC'] at HD ⊢
 rw[←hK] at HK32
 obtain⟨P,hP⟩:∃P:List UInt8,P=enL (scN KK key9):=⟨_,rfl⟩
 rw[←hP]
 have HP:Hid (P=enL (scN KK key9)):=hP
 clear hW hC h32 hlm hK hC' hP
 go_enter Tryz.func61,Tryz.ntmps61
 go_wp2_with fail
 refine Calls.mono HD.out ?_
 rintro e w1 ⟨v1,rfl,hO1,⟨vd',hb1,hr1⟩,c1⟩
 obtain⟨a1,k1,rfl, -⟩:=id hO1.rd
 have HO1:Hid (Ow 5 w.heap.size (.slice a1 KK.length k1) KK w1):=hO1
 have HC1:Hid (WC V w0 x0 vm s C' m post vc vh vk vg vd' w1):=WC.drawn (vl:=vl) HC.out HN.out c1 hb1 (hr1 _ HC.out.rc)
 have HF1:Hid (WF V vl w1):=HF.out.var HC.out.bc HN.out.lc c1
 have HY1:Hid (Stay 91 w w1):=Stay.chg HC.out.bc (by decide) c1
 clear hO1 hb1 hr1 c1 HC HF HD cd
 go_wp2_with fail
 refine Calls.mono (public_any _ KK _ HO1.out.rd) ?_
 rintro e w2 ⟨h2, -⟩
 obtain⟨v2,rfl,hN2⟩:=h2 HK32.out
 rw[←HP.out] at hN2
 have b2:Below w1.heap.size w1 w2:=hN2.2
 have hO2:Ow 5 w1.heap.size v2 P w2:=Ow.of_new hN2
 obtain⟨a2,k2,rfl, -⟩:=id hO2.rd
 have HO2:Hid (Ow 5 w1.heap.size (.slice a2 P.length k2) P w2):=hO2
 have HC2:Hid (WC V w0 x0 vm s C' m post vc vh vk vg vd' w2):=HC1.out.kept b2
 have HF2:Hid (WF V vl w2):=HF1.out.kept b2
 have HY2:Hid (Stay 91 w w2):=HY1.out.trans (Stay.below b2)
 have HAp:Hid (∀b,vg.ownBlock=some b→b<w1.heap.size):=fun b hb=>(HC1.out.om.lt hb).2
 clear h2 hN2 b2 hO2 HC1 HF1 HY1 HO1
 obtain⟨p0,hp0⟩:=HC2.out.sl.get (j:=0) (by decide)
 have hG:BlkAt V.g 101 (shD x0 vm post vc vh vk s.c.n) w2.drew:=HC2.out.st.1
 have hS:w2.drew.cell? ⟨V.gs,0,none⟩=some (.pointer (some ⟨V.g,0,none⟩)):=HF2.out.bs.one
 have HNe:Hid (V.gs≠V.g):=blk_ne HF2.out.bs HC2.out.st.1 (by decide)
 obtain⟨p1,hp1⟩:=(HC2.out.sl.set 0 a1 KK.length k1).get (j:=1) (by decide)
 go_wp2_with fail
 refine wpS_begin (fun W=>W.cell? ⟨V.gs,0,none⟩=some (.pointer (some ⟨V.g,0,none⟩))) (by kernel_rfl) ?_
 refine sU_ hS 0 rfl ⟨_,by intro W hW;have hcW:=hW;go_simp<;>with_reducible rfl,?_⟩
 try simp only[Act.put,pA_,pB_,pC_]
 refine sU_ hS 1 rfl ⟨_,by intro W hW;have hcW:=hW;go_simp<;>with_reducible rfl,?_⟩
 try simp only[Act.put,pA_,pB_,pC_]
 refine sU_ hS 2 rfl ⟨_,by intro W hW;go_simp<;>with_reducible rfl,?_⟩
 try simp only[Act.put,pA_,pB_,pC_]
 refine sU_ hS 3 rfl ⟨_,by intro W hW;go_simp<;>with_reducible rfl,?_⟩
 try simp only[Act.put,pA_,pB_,pC_]
 refine sU_ hS 4 rfl ⟨_,by intro W hW;go_simp<;>with_reducible rfl,?_⟩
 try simp only[Act.put,pA_,pB_,pC_]
 refine sU_ hS 5 rfl ⟨_,by intro W hW;go_simp<;>with_reducible rfl,?_⟩
 try simp only[Act.put,pA_,pB_,pC_]
 refine sU_ hS 6 rfl ⟨_,by intro W hW;go_simp<;>with_reducible rfl,?_⟩
 try simp only[Act.put,pA_,pB_,pC_]
 refine sU_ hS 7 rfl ⟨_,by intro W hW;go_simp<;>with_reducible rfl,?_⟩
 try simp only[Act.put,pA_,pB_,pC_]
 refine sD_ 8 fun K hK=>?_
 refine wp_store_sl _ _ rfl rfl a1 KK.length k1 rfl hG ((shD_get6 _ _ _ _ _ _ _ 0).trans hp0) ?_
 intro w3 r3 hw3
 replace hS:=cell_chg (Chg.of_wrote hw3) hS HNe.out
 rw[show 6=6+0 from rfl,shD_set6] at r3
 refine hK.out _ _ hS ?_
 clear hK K
 try simp only[Act.put,pA_,pB_,pC_]
 refine sU_ hS 9 rfl ⟨_,by intro W hW;go_simp<;>with_reducible rfl,?_⟩
 try simp only[Act.put,pA_,pB_,pC_]
 refine sU_ hS 10 rfl ⟨_,by intro W hW;go_simp<;>with_reducible rfl,?_⟩
 try simp only[Act.put,pA_,pB_,pC_]
 refine sU_ hS 11 rfl ⟨_,by intro W hW;go_simp<;>with_reducible rfl,?_⟩
 try simp only[Act.put,pA_,pB_,pC_]
 refine sU_ hS 12 rfl ⟨_,by intro W hW;go_simp<;>with_reducible rfl,?_⟩
 try simp only[Act.put,pA_,pB_,pC_]
 refine sD_ 13 fun K hK=>?_
 refine wp_store_sl _ _ rfl rfl a2 P.length k2 rfl r3 ((shD_get6 _ _ _ _ _ _ _ 1).trans hp1) ?_
 intro w4 r4 hw4
 replace hS:=cell_chg (Chg.of_wrote hw4) hS HNe.out
 rw[show 7=6+1 from rfl,shD_set6] at r4
 refine hK.out _ _ hS ?_
 clear hK K
 try simp only[Act.put,pA_,pB_,pC_]
 refine wpS_done (by kernel_rfl) ?_
 have c4:Chg (fun k=>k=V.g) w2 w4:=(Chg.of_below (Below.refl _ _).drew).trans ((Chg.of_wrote hw3).trans (Chg.of_wrote hw4))
 have HC4:Hid (WC V w0 x0 vm s C' m ((post.set 0 (.slice a1 KK.length k1)).set 1 (.slice a2 P.length k2)) vc vh vk vg vd' w4):=WC.side (vl:=vl) HC2.out HN.out c4 (HC2.out.st.post r4 c4) ((HC2.out.sl.set _ _ _ _).set _ _ _ _) HC2.out.ah
 have HF4:Hid (WF V vl w4):=HF2.out.side HC2.out.st.1 c4
 have HY4:Hid (Stay 91 w w4):=HY2.out.trans (Stay.chg HC2.out.st.1 (by decide) c4)
 have HO4:Hid (Ow 5 w1.heap.size (.slice a2 P.length k2) P w4):=HO2.out.chg HC2.out.st.1 ne_shake c4
 have cp:=HF4.out.bp.one
 have HPl:Hid (P.length≤32):=by show _≤_;rw[HP.out,enL_length];exact Nat.le_refl _
 clear hS hG r3 r4 hw3 hw4 c4 HC2 HF2 HY2 HO2 hp0 hp1
 go_wp2_with fail
 refine Calls.mono (put_any V.gm vg _ m P (by have:=HLm.out;have:=HPl.out;omega) w0.heap.size _ HC4.out.below.size HC4.out.bm HC4.out.om HO4.out.rd) ?_
 rintro e w5 ⟨rfl,vg',hb5,ho5,hn5,c5⟩
 have HC5:Hid (Wr V vl w0 x0 vm s C' (m++P) w5):=⟨HF4.out.put HC4.out.bm HC4.out.om HN.out.lm c5,HN.out,_,_,_,_,_,_,HC4.out.grown HN.out c5 hb5 ho5 hn5⟩
 have HY5:Hid (Stay 91 w w5):=HY4.out.trans (Stay.put HC4.out.bm HC4.out.om (by decide) (by decide) c5)
 have HR5:Hid (Rd w5 (.slice a2 P.length k2) P):=Rd.of_row (base:=_) (e:=5) (own_chg HO4.out c5 fun b hb e=>by
  rcases e with e|e
  ·subst e
   exact HO4.out.not_blk HC4.out.bm (by decide) hb
  ·have:=HAp.out b e.symm
   have:=(HO4.out.lt hb).1
   omega)
 clear hb5 ho5 hn5 c5
 go_wp2
 go_ret2
 exact⟨_,rfl,HR5.out,HC5.out,HY5.out⟩
set_option maxRecDepth 100000 in
set_option maxHeartbeats 4000000 in
theorem wkem_any (V:WV) (vl:Value) (w0:World) (x0 vm:Value) (s:Sta) (c m:List UInt8) (h64:64≤c.length) (hlm:m.length≤1000000) (w:World) (hW:Wr V vl w0 x0 vm s c m w) (hT:Tabs w0) (hPw:PwT w0):
  Calls Tryz.prog 63 #[.pointer (some ⟨V.gd,0,none⟩),.pointer (some ⟨V.gs,0,none⟩),.pointer (some ⟨V.gp,0,none⟩)] w fun e w'=>∃v,e=.returned (.tuple #[v,.int .i64 0])∧Rd w' v (ekL (c.take 32))∧Wr V vl w0 x0 vm s (c.drop 64) (m++ekL (c.take 32)) w'∧Stay 91 w w':=by
 obtain⟨post,vc,vh,vk,vg,vd,hC⟩:=hW.it
 have HN:Hid (WN V w0):=hW.num
 have HF:Hid (WF V vl w):=hW.fix
 have HC:Hid (WC V w0 x0 vm s c m post vc vh vk vg vd w):=hC
 have HD:Hid (∀W vd',WC V w0 x0 vm s c m post vc vh vk vg vd' W→_):=fun W vd' (h:WC V w0 x0 vm s c m post vc vh vk vg vd' W)=>draw_any V.gc vd' c (by omega) W h.bc (h.rc.kept h.below)
 have HD2:Hid (∀W vd',WC V w0 x0 vm s (c.drop 32) m post vc vh vk vg vd' W→_):=fun W vd' (h:WC V w0 x0 vm s (c.drop 32) m post vc vh vk vg vd' W)=>draw_any V.gc vd' (c.drop 32) (by rw[List.length_drop];omega) W h.bc (h.rc.kept h.below)
 have HLm:Hid (m.length≤1000000):=hlm
 have HK32:Hid ((c.take 32).length=32):=by show _=_;rw[List.length_take];omega
 have HZ32:Hid (((c.drop 32).take 32).length=32):=by show _=_;rw[List.length_take,List.length_drop];omega
 have HDr:Hid ((c.drop 32).drop 32=c.drop 64):=by show _=_;rw[List.drop_drop]
 have HTb:Hid (Tabs w0):=hT
 have HPw:Hid (PwT w0):=hPw
 obtain⟨KK,hK⟩:∃KK:List UInt8,KK=c.take 32:=⟨_,rfl⟩
 obtain⟨C1,hC1⟩:∃KK:List UInt8,KK=c.drop 32:=⟨_,rfl⟩
 obtain⟨Z,hZ⟩:∃KK:List UInt8,KK=C1.take 32:=⟨_,rfl⟩
 obtain⟨C2,hC2⟩:∃KK:List UInt8,KK=c.drop 64:=⟨_,rfl⟩
 rw[←hC1] at HDr HZ32 HD2
 rw[←hZ] at HZ32 HD2
 rw[←hC2] at HDr ⊢
 rw[HDr.out] at HD2
 rw[←hK,←hC1] at HD
 rw[←hK] at HK32 ⊢
 obtain⟨P,hP⟩:∃P:List UInt8,P=ekL KK:=⟨_,rfl⟩
 rw[←hP]
 have HP:Hid (P=ekL KK):=hP
 have hS:w.drew.cell? ⟨V.gd,0,none⟩=some (.func (.func 60) #[] #[.pointer (some ⟨V.gc,0,none⟩)]):=HF.out.bd.one
 have HNd:Hid (V.gd≠V.gc):=blk_ne HF.out.bd HC.out.bc (by decide)
 have HC0:Hid (WC V w0 x0 vm s c m post vc vh vk vg vd w.drew):=HC.out.kept (Below.refl _ _).drew
 have HF0:Hid (WF V vl w.drew):=HF.out.kept (Below.refl _ _).drew
 have HY0:Hid (Stay 91 w w.drew):=Stay.below (Below.refl _ _).drew
 clear hW hC h64 hlm hK hC1 hC2 hZ hP hT hPw HC HF HDr
 go_enter Tryz.func63,Tryz.ntmps63
 go_wp2_with fail
 refine wpS_begin (fun W=>W.cell? ⟨V.gd,0,none⟩=some (.func (.func 60) #[] #[.pointer (some ⟨V.gc,0,none⟩)])) (by kernel_rfl) ?_
 refine sU_ hS 0 rfl ⟨_,by intro W hW;have hcW:=hW;go_simp<;>with_reducible rfl,?_⟩
 try simp only[Act.put,pA_,pB_,pC_]
 refine sU_ hS 2 rfl ⟨_,by intro W hW;have hcW:=hW;go_simp<;>with_reducible rfl,?_⟩
 try simp only[Act.put,pA_,pB_,pC_]
 refine sD_ 1 fun K hK=>?_
 go_simp
 refine Calls.mono (HD.out _ _ HC0.out) ?_
 rintro e w1 ⟨v1,rfl,hO1,⟨vd1,hb1,hr1⟩,c1⟩
 obtain⟨a1,k1,rfl, -⟩:=id hO1.rd
 have HC1:Hid (WC V w0 x0 vm s C1 m post vc vh vk vg vd1 w1):=WC.drawn (vl:=vl) HC0.out HN.out c1 hb1 (hr1 _ HC0.out.rc)
 have HF1:Hid (WF V vl w1):=HF0.out.var HC0.out.bc HN.out.lc c1
 have HY1:Hid (Stay 91 w w1):=HY0.out.trans (Stay.chg HC0.out.bc (by decide) c1)
 replace hS:=cell_chg c1 hS HNd.out
 have HO1:Hid (Ow 5 w0.heap.size (.slice a1 KK.length k1) KK w1):=hO1.mono HC0.out.below.size
 clear hO1 hb1 hr1 c1 HC0 HF0 HY0 HD
 refine hK.out _ _ hS ?_
 clear hK K
 try simp only[Act.put,pA_,pB_,pC_]
 refine sD_ 3 fun K hK=>?_
 go_simp
 refine Calls.mono (HD2.out _ _ HC1.out) ?_
 rintro e w2 ⟨v2,rfl,hO2,⟨vd2,hb2,hr2⟩,c2⟩
 obtain⟨a2,k2,rfl, -⟩:=id hO2.rd
 have HC2:Hid (WC V w0 x0 vm s C2 m post vc vh vk vg vd2 w2):=WC.drawn (vl:=vl) HC1.out HN.out c2 hb2 (hr2 _ HC1.out.rc)
 have HF2:Hid (WF V vl w2):=HF1.out.var HC1.out.bc HN.out.lc c2
 have HY2:Hid (Stay 91 w w2):=HY1.out.trans (Stay.chg HC1.out.bc (by decide) c2)
 replace hS:=cell_chg c2 hS HNd.out
 have HO2:Hid (Ow 5 w1.heap.size (.slice a2 Z.length k2) Z w2):=hO2
 have HO1b:Hid (Ow 5 w0.heap.size (.slice a1 KK.length k1) KK w2):=HO1.out.chg HC1.out.bc (by decide) c2
 clear hO2 hb2 hr2 c2 HC1 HF1 HY1 HD2 HO1
 refine hK.out _ _ hS ?_
 clear hK K
 try simp only[Act.put,pA_,pB_,pC_]
 refine sD_ 4 fun K hK=>?_
 go_simp
 refine Calls.mono (mgen_any _ _ KK Z _ HO1b.out.rd HO2.out.rd HK32.out HZ32.out (HTb.out.kept HC2.out.below) (HPw.out.kept HC2.out.below)) ?_
 rintro e w3 ⟨x3,y3,rfl,hG3⟩
 rw[←HP.out] at hG3
 have b3:Below w2.heap.size w2 w3:=hG3.below
 have hO3:Ow 5 w2.heap.size x3 P w3:=Ow.of_new hG3.toNew
 have hO4:Rd w3 y3 (kdL KK Z):=hG3.tail.rd0
 obtain⟨a3,k3,rfl, -⟩:=id hO3.rd
 obtain⟨a4,k4,rfl, -⟩:=hO4
 obtain⟨n4,hn4⟩:∃n:Nat,n=(kdL KK Z).length:=⟨_,rfl⟩
 rw[←hn4]
 have HC3:Hid (WC V w0 x0 vm s C2 m post vc vh vk vg vd2 w3):=HC2.out.kept b3
 have HF3:Hid (WF V vl w3):=HF2.out.kept b3
 have HY3:Hid (Stay 91 w w3):=HY2.out.trans (Stay.below b3)
 replace hS:=cellKP hS b3
 have HO3:Hid (Ow 5 w2.heap.size (.slice a3 P.length k3) P w3):=hO3
 have HAp:Hid (∀b,vg.ownBlock=some b→b<w2.heap.size):=fun b hb=>(HC2.out.om.lt hb).2
 clear hG3 b3 hO3 HC2 HF2 HY2 HO2 HO1b hn4
 refine hK.out _ _ hS ?_
 clear hK K
 try simp only[Act.put,pA_,pB_,pC_]
 refine sU_ hS 5 rfl ⟨_,by intro W hW;go_simp<;>with_reducible rfl,?_⟩
 try simp only[Act.put,pA_,pB_,pC_]
 refine sU_ hS 6 rfl ⟨_,by intro W hW;go_simp<;>with_reducible rfl,?_⟩
 try simp only[Act.put,pA_,pB_,pC_]
 refine sU_ hS 7 rfl ⟨_,by intro W hW;go_simp<;>with_reducible rfl,?_⟩
 try simp only[Act.put,pA_,pB_,pC_]
 refine sU_ hS 8 rfl ⟨_,by intro W hW;go_simp<;>with_reducible rfl,?_⟩
 try simp only[Act.put,pA_,pB_,pC_]
 refine sU_ hS 9 rfl ⟨_,by intro W hW;go_simp<;>with_reducible rfl,?_⟩
 try simp only[Act.put,pA_,pB_,pC_]
 refine sU_ hS 10 rfl ⟨_,by intro W hW;go_simp<;>with_reducible rfl,?_⟩
 try simp only[Act.put,pA_,pB_,pC_]
 refine sU_ hS 11 rfl ⟨_,by intro W hW;go_simp<;>with_reducible rfl,?_⟩
 try simp only[Act.put,pA_,pB_,pC_]
 refine wpS_done (by kernel_rfl) ?_
 clear hS
 obtain⟨p0,hp0⟩:=HC3.out.sl.get (j:=2) (by decide)
 have hG:BlkAt V.g 101 (shD x0 vm post vc vh vk s.c.n) w3.drew:=HC3.out.st.1
 have hS:w3.drew.cell? ⟨V.gs,0,none⟩=some (.pointer (some ⟨V.g,0,none⟩)):=HF3.out.bs.one
 have HNe:Hid (V.gs≠V.g):=blk_ne HF3.out.bs HC3.out.st.1 (by decide)
 obtain⟨p1,hp1⟩:=(HC3.out.sl.set 2 a4 n4 k4).get (j:=3) (by decide)
 go_wp2_with fail
 refine wpS_begin (fun W=>W.cell? ⟨V.gs,0,none⟩=some (.pointer (some ⟨V.g,0,none⟩))) (by kernel_rfl) ?_
 refine sU_ hS 0 rfl ⟨_,by intro W hW;have hcW:=hW;go_simp<;>with_reducible rfl,?_⟩
 try simp only[Act.put,pA_,pB_,pC_]
 refine sU_ hS 1 rfl ⟨_,by intro W hW;have hcW:=hW;go_simp<;>with_reducible rfl,?_⟩
 try simp only[Act.put,pA_,pB_,pC_]
 refine sU_ hS 2 rfl ⟨_,by intro W hW;go_simp<;>with_reducible rfl,?_⟩
 try simp only[Act.put,pA_,pB_,pC_]
 refine sU_ hS 3 rfl ⟨_,by intro W hW;go_simp<;>with_reducible rfl,?_⟩
 try simp only[Act.put,pA_,pB_,pC_]
 refine sU_ hS 4 rfl ⟨_,by intro W hW;go_simp<;>with_reducible rfl,?_⟩
 try simp only[Act.put,pA_,pB_,pC_]
 refine sU_ hS 5 rfl ⟨_,by intro W hW;go_simp<;>with_reducible rfl,?_⟩
 try simp only[Act.put,pA_,pB_,pC_]
 refine sU_ hS 6 rfl ⟨_,by intro W hW;go_simp<;>with_reducible rfl,?_⟩
 try simp only[Act.put,pA_,pB_,pC_]
 refine sU_ hS 7 rfl ⟨_,by intro W hW;go_simp<;>with_reducible rfl,?_⟩
 try simp only[Act.put,pA_,pB_,pC_]
 refine sD_ 8 fun K hK=>?_
 refine wp_store_sl _ _ rfl rfl a4 n4 k4 rfl hG ((shD_get6 _ _ _ _ _ _ _ 2).trans hp0) ?_
 intro w4 r4 hw4
 replace hS:=cell_chg (Chg.of_wrote hw4) hS HNe.out
 rw[show 8=6+2 from rfl,shD_set6] at r4
 refine hK.out _ _ hS ?_
 clear hK K
 try simp only[Act.put,pA_,pB_,pC_]
 refine sU_ hS 9 rfl ⟨_,by intro W hW;go_simp<;>with_reducible rfl,?_⟩
 try simp only[Act.put,pA_,pB_,pC_]
 refine sU_ hS 10 rfl ⟨_,by intro W hW;go_simp<;>with_reducible rfl,?_⟩
 try simp only[Act.put,pA_,pB_,pC_]
 refine sU_ hS 11 rfl ⟨_,by intro W hW;go_simp<;>with_reducible rfl,?_⟩
 try simp only[Act.put,pA_,pB_,pC_]
 refine sU_ hS 12 rfl ⟨_,by intro W hW;go_simp<;>with_reducible rfl,?_⟩
 try simp only[Act.put,pA_,pB_,pC_]
 refine sD_ 13 fun K hK=>?_
 refine wp_store_sl _ _ rfl rfl a3 P.length k3 rfl r4 ((shD_get6 _ _ _ _ _ _ _ 3).trans hp1) ?_
 intro w5 r5 hw5
 replace hS:=cell_chg (Chg.of_wrote hw5) hS HNe.out
 rw[show 9=6+3 from rfl,shD_set6] at r5
 refine hK.out _ _ hS ?_
 clear hK K
 try simp only[Act.put,pA_,pB_,pC_]
 refine wpS_done (by kernel_rfl) ?_
 have c5:Chg (fun k=>k=V.g) w3 w5:=(Chg.of_below (Below.refl _ _).drew).trans ((Chg.of_wrote hw4).trans (Chg.of_wrote hw5))
 have HC5:Hid (WC V w0 x0 vm s C2 m ((post.set 2 (.slice a4 n4 k4)).set 3 (.slice a3 P.length k3)) vc vh vk vg vd2 w5):=WC.side (vl:=vl) HC3.out HN.out c5 (HC3.out.st.post r5 c5) ((HC3.out.sl.set _ _ _ _).set _ _ _ _) HC3.out.ah
 have HF5:Hid (WF V vl w5):=HF3.out.side HC3.out.st.1 c5
 have HY5:Hid (Stay 91 w w5):=HY3.out.trans (Stay.chg HC3.out.st.1 (by decide) c5)
 have HO5:Hid (Ow 5 w2.heap.size (.slice a3 P.length k3) P w5):=HO3.out.chg HC3.out.st.1 ne_shake c5
 have cp:=HF5.out.bp.one
 have HPl:Hid (P.length≤2000):=by show _≤_;rw[HP.out,ekL_length];omega
 clear hS hG r4 r5 hw4 hw5 c5 HC3 HF3 HY3 HO3 hp0 hp1
 go_wp2_with fail
 refine Calls.mono (put_any V.gm vg _ m P (by have:=HLm.out;have:=HPl.out;omega) w0.heap.size _ HC5.out.below.size HC5.out.bm HC5.out.om HO5.out.rd) ?_
 rintro e w6 ⟨rfl,vg',hb6,ho6,hn6,c6⟩
 have HC6:Hid (Wr V vl w0 x0 vm s C2 (m++P) w6):=⟨HF5.out.put HC5.out.bm HC5.out.om HN.out.lm c6,HN.out,_,_,_,_,_,_,HC5.out.grown HN.out c6 hb6 ho6 hn6⟩
 have HY6:Hid (Stay 91 w w6):=HY5.out.trans (Stay.put HC5.out.bm HC5.out.om (by decide) (by decide) c6)
 have HR6:Hid (Rd w6 (.slice a3 P.length k3) P):=Rd.of_row (base:=_) (e:=5) (own_chg HO5.out c6 fun b hb e=>by
  rcases e with e|e
  ·subst e
   exact HO5.out.not_blk HC5.out.bm (by decide) hb
  ·have:=HAp.out b e.symm
   have:=(HO5.out.lt hb).1
   omega)
 clear hb6 ho6 hn6 c6
 go_wp2
 go_ret2
 exact⟨_,rfl,HR6.out,HC6.out,HY6.out⟩
set_option maxRecDepth 100000 in
set_option maxHeartbeats 4000000 in
theorem wsealed_any (V:WV) (vl:Value) (w0:World) (x0 vm:Value) (s:Sta) (hkey:s.c.key=[]) (hlh:s.h.length≤100000) (c m t:List UInt8) (vt:Value) (hlt:t.length≤100000) (hlm:m.length≤1000000) (w:World) (hW:Wr V vl w0 x0 vm s c m w) (ht:Rd w vt t) (hT:Tabs w0):
  Calls Tryz.prog 58 #[vt,.pointer (some ⟨V.gs,0,none⟩),.pointer (some ⟨V.gp,0,none⟩)] w fun e w'=>e=.returned (.int .i64 0)∧Wr V vl w0 x0 vm (mhS s t) c (m++t) w'∧Stay 91 w w':=by
 obtain⟨post,vc,vh,vk,vg,vd,hC⟩:=hW.it
 have HN:Hid (WN V w0):=hW.num
 have HF:Hid (WF V vl w):=hW.fix
 have HC:Hid (WC V w0 x0 vm s c m post vc vh vk vg vd w):=hC
 have HS:Hid _:=ssealN V.g x0 vm post vc vh vk s hkey vt t hlt hlh w w0 hC.st ht hC.below hT
 have HLm:Hid (m.length≤1000000):=hlm
 have HLt:Hid (t.length≤100000):=hlt
 have cs:=hW.fix.bs.one
 obtain⟨at',ct',rfl, -⟩:=id ht
 clear hW hC hlm hlt hlh ht hT hkey
 go_enter Tryz.func58,Tryz.ntmps58
 go_wp2_with fail
 refine Calls.mono HS.out ?_
 rintro e w1 ⟨v1,rfl,hO1,⟨vh',hS1,hN1⟩,c1⟩
 obtain⟨a1,k1,rfl, -⟩:=id hO1.rd
 have HO1:Hid (Ow 5 w.heap.size (.slice a1 t.length k1) t w1):=hO1
 have HC1:Hid (WC V w0 x0 vm (mhS s t) c m post vc vh' vk vg vd w1):=WC.side (vl:=vl) HC.out HN.out c1 hS1 HC.out.sl (Apart.lt (B:=w.heap.size) (fun b hb=>(HC.out.om.lt hb).2) fun b hb=>(hN1.lt hb).1)
 have HF1:Hid (WF V vl w1):=HF.out.side HC.out.st.1 c1
 have HY1:Hid (Stay 91 w w1):=Stay.chg HC.out.st.1 (by decide) c1
 have cp:=HF1.out.bp.one
 clear hO1 hS1 hN1 c1 HC HF HS cs
 go_wp2_with fail
 refine Calls.mono (put_any V.gm vg _ m t (by have:=HLm.out;have:=HLt.out;omega) w0.heap.size _ HC1.out.below.size HC1.out.bm HC1.out.om HO1.out.rd) ?_
 rintro e w2 ⟨rfl,vg',hb2,ho2,hn2,c2⟩
 have HW2:Hid (Wr V vl w0 x0 vm (mhS s t) c (m++t) w2):=⟨HF1.out.put HC1.out.bm HC1.out.om HN.out.lm c2,HN.out,_,_,_,_,_,_,HC1.out.grown HN.out c2 hb2 ho2 hn2⟩
 have HY2:Hid (Stay 91 w w2):=HY1.out.trans (Stay.put HC1.out.bm HC1.out.om (by decide) (by decide) c2)
 clear hb2 ho2 hn2 c2
 go_wp2
 go_ret
 exact⟨rfl,HW2.out,HY2.out⟩

set_option maxRecDepth 100000 in
set_option maxHeartbeats 4000000 in
theorem wpayload_any (V:WV) (vl:Value) (w0:World) (x0 vm:Value) (s:Sta) (hkey:s.c.key=[]) (hlh:s.h.length≤100000) (c m t:List UInt8) (hlt:t.length≤100000) (hlm:m.length≤1000000) (w:World) (hW:Wr V vl w0 x0 vm s c m w) (ht:Rd w0 vl t) (hT:Tabs w0):
  Calls Tryz.prog 70 #[.pointer (some ⟨V.gq,0,none⟩),.pointer (some ⟨V.gl,0,none⟩),.pointer (some ⟨V.gm,0,none⟩)] w fun e w'=>∃v,e=.returned (.tuple #[v,.int .i64 0])∧Ow 5 w0.heap.size v (m++t) w'∧Wr V vl w0 x0 vm (mhS s t) c (m++t) w':=by
 have hb:Below w0.heap.size w0 w:=by
  obtain⟨post,vc,vh,vk,vg,vd,hC⟩:=hW.it
  exact hC.below
 have HS:Hid _:=wsealed_any V vl w0 x0 vm s hkey hlh c m t vl hlt hlm w hW (ht.kept hb) hT
 have cq:=hW.fix.bq.one
 have cl:=hW.fix.bl.one
 obtain⟨at',ct',rfl, -⟩:=id ht
 clear hT
 obtain⟨T,hT⟩:∃T:List UInt8,T=m++t:=⟨_,rfl⟩
 rw[←hT] at HS ⊢
 clear hW hlm hlt hlh ht hT hkey hb
 go_enter Tryz.func70,Tryz.ntmps70
 go_wp2_with fail
 refine Calls.mono HS.out ?_
 rintro e w1 ⟨rfl,hW1, -⟩
 obtain⟨post,vc,vh,vk,vg,vd,hC⟩:=hW1.it
 obtain⟨a1,k1,rfl, -⟩:=id hC.om.rd
 have cm:=hC.bm.one
 have HW1:Hid (Wr V _ w0 x0 vm (mhS s t) c T w1):=hW1
 have HO1:Hid (Ow 5 w0.heap.size (.slice a1 T.length k1) T w1):=hC.om
 clear hC hW1 HS cq cl
 go_wp2
 go_ret2
 exact⟨_,rfl,HO1.out,HW1.out⟩
theorem info2b:(Tryz.prog.info? 22).map (·.size)=some 2:=by kernel_rfl
theorem headS {op:Oper} {a:Act} {W:World} {ab:Option Addr} {L cb m:Nat} (x h:Operand) (ho:op.op=.slice 105 x none (some h) none) (hx:a.eval x=.slice ab L cb) (hh:a.eval h=.int .i64 (m:Int)) (hm:m≤L) (hL:L≤cb) (hc:cb≤maxLen) (hn:ab=none→cb=0):
  (execOp a.eval op).run Tryz.prog W=.ok (.value (.slice ab m cb)) W:=by
 have h1:(m:Int)≤(cb:Int):=by omega
 unfold maxLen at hc
 unfold execOp
 simp only[ho,hx,hh,Option.map]
 cases ab with
 |none=>
  have:=hn rfl
  subst this
  obtain rfl:m=0:=by omega
  obtain rfl:L=0:=by omega
  go_simp
 |some y=>
  go_simp
theorem headC {w:World} {ab:Option Addr} {L cb m:Nat} {xs:List Value} (h:RdC w (.slice ab L cb) xs) (hm:m≤L):RdC w (.slice ab m cb) (xs.take m):=by
 obtain⟨a',c',ev,h3,h4,h5,h6⟩:=h
 simp only[Value.slice.injEq] at ev
 obtain⟨rfl,hL,rfl⟩:=ev
 have hl:(xs.take m).length=m:=by rw[List.length_take];omega
 refine⟨_,_,by rw[hl],by rw[hl];omega,h4,h5,?_⟩
 rcases h6 with rfl|⟨g,off,e,hcell⟩
 ·exact .inl (by simp)
 ·refine .inr ⟨g,off,e,fun i hi=>?_⟩
  rw[hl] at hi
  rw[hcell i (by omega),List.getElem?_take,if_pos hi]
theorem tailS {ab:Option Addr} {L cb m:Nat} (hm:m≤L) (hL:L≤cb) (hc:cb≤maxLen) (hn:ab=none→cb=0):
  ∃ab':Option Addr,(∀{op:Oper} {a:Act} {W:World} (x h:Operand),op.op=.slice 105 x (some h) none none→a.eval x=.slice ab L cb→a.eval h=.int .i64 (m:Int)→(execOp a.eval op).run Tryz.prog W=.ok (.value (.slice ab' (L - m) (cb - m))) W)∧
   ∀(w:World) (b:List Value),RdC w (.slice ab L cb) b→RdC w (.slice ab' (L - m) (cb - m)) (b.drop m):=by
 have h1:(m:Int)≤(L:Int):=by omega
 have h2:(L:Int)≤(cb:Int):=by omega
 unfold maxLen at hc
 cases ab with
 |none=>
  have:=hn rfl
  subst this
  obtain rfl:L=0:=by omega
  obtain rfl:m=0:=by omega
  refine⟨none,fun x h ho hx hh=>?_,fun w b hb=>hb⟩
  unfold execOp
  simp only[ho,hx,hh,Option.map]
  go_simp
 |some y=>
  by_cases hcm:cb=m
  ·refine⟨some y,fun x h ho hx hh=>?_,fun w b hb=>?_⟩
   ·unfold execOp
    simp only[ho,hx,hh,Option.map]
    go_simp
   ·obtain⟨a',c',ev,h3,h4,h5,h6⟩:=hb
    simp only[Value.slice.injEq] at ev
    obtain⟨rfl,hLb,rfl⟩:=ev
    have h0:b.drop m=[]:=List.drop_eq_nil_of_le (by omega)
    rw[h0,show L - m=0 by omega,hcm,Nat.sub_self]
    exact⟨_,0,rfl,by simp,by simp,fun _=>rfl,.inl rfl⟩
  ·refine⟨some (y.add m),fun x h ho hx hh=>?_,fun w b hb=>?_⟩
   ·unfold execOp
    simp only[ho,hx,hh,Option.map]
    go_simp
   ·obtain⟨a',c',ev,h3,h4,h5,h6⟩:=hb
    simp only[Value.slice.injEq] at ev
    obtain⟨rfl,hLb,rfl⟩:=ev
    refine⟨_,_,(by rw[List.length_drop,←hLb]),(by rw[List.length_drop];omega),(by unfold maxLen;omega),(fun h=>by cases h),?_⟩
    rcases h6 with rfl|⟨g,off,e,hcell⟩
    ·exact .inl (by simp)
    ·simp only[Option.some.injEq] at e
     subst e
     refine .inr ⟨g,off+m,by unfold Addr.add;split<;>simp_all,fun i hi=>?_⟩
     rw[List.length_drop] at hi
     rw[Nat.add_assoc,hcell (m+i) (by omega),List.getElem?_drop]
theorem wpList_valP {P:Program} {ops:Array Oper} {rest:List Oper} {op:Oper} {a:Act} {w:World} {Q:Exit→Act→World→Prop} {v:Value} (hgd:op.guard=none) (hy:(execOp a.eval op).run P w=.ok (.value v) w)
  (h:wpList P ops Q rest (a.put op.dst v) w):wpList P ops Q (op :: rest) a w:=by
 refine wpList_plain hgd fun K hK=>?_
 unfold Oper.wp
 rw[hy]
 exact hK _ _ h
def tlB (b:Bool) (x:List UInt8):Bool:=(if b then ar0 else ar1).isPrefixOf x&&decide (tmT (x.drop 2)=[115])

set_option maxRecDepth 100000 in
set_option maxHeartbeats 4000000 in
theorem tellsKnown_any (b:Bool) (x:List UInt8) (hx:x.length≤4096) (AB:ByteArray) (hAB:AB=⟨(if b then ar0 else ar1).toArray⟩) (w:World) (hT:TkT w):
  Calls Tryz.prog 211 #[.string ⟨x.toArray⟩,.string AB] w fun e w'=>e=.returned (.bool (tlB b x))∧Below w.heap.size w w':=by
 obtain⟨ar,har⟩:∃a:List UInt8,a=if b then ar0 else ar1:=⟨_,rfl⟩
 have har2:ar.length=2:=by rw[har];cases b<;>rfl
 have HC:Hid (Calls Tryz.prog 290 #[.string ⟨x.toArray⟩,.string AB] w fun e w'=>e=.returned (.tuple #[.string ⟨(if ar.isPrefixOf x then x.drop 2 else x).toArray⟩,.bool (ar.isPrefixOf x)])∧w'=w):=by
  rw[hAB,←har]
  have:=cutP_any x ar w
  rw[har2] at this
  exact this
 have HB:Hid (tlB b x=(ar.isPrefixOf x&&decide (tmT (x.drop 2)=[115]))):=by show _=_;unfold tlB;rw[←har]
 have HX:Hid (x.length≤4096):=hx
 have cw:w.cell? ⟨1,2,none⟩=some (.string ⟨#[115]⟩):=hT.words 2 (by omega)
 generalize (⟨x.toArray⟩:ByteArray)=XB at HC ⊢
 clear hAB har har2 hx hT
 go_enter Tryz.func211,Tryz.ntmps211
 go_wp2_with fail
 refine HC.out.mono ?_
 rintro e w1 ⟨rfl,rfl⟩
 obtain⟨z,hz⟩:∃z:Bool,z=ar.isPrefixOf x:=⟨_,rfl⟩
 rw[←hz] at HB ⊢
 clear hz HC
 cases z with
 |false=>
  rw[if_neg (by simp)]
  have HB2:Hid (tlB b x=false):=by show _=_;rw[HB.out];rfl
  generalize (⟨x.toArray⟩:ByteArray)=YB
  go_wp2_with fail
  refine wpG_begin (by kernel_rfl) ?_
  refine gU_ 0 rfl ⟨_,by intro W hW;go_simp<;>with_reducible rfl,?_⟩
  try simp only[Act.put,pA_,pB_,pC_]
  refine gU_ 1 rfl ⟨_,by intro W hW;go_simp<;>with_reducible rfl,?_⟩
  try simp only[Act.put,pA_,pB_,pC_]
  refine wpG_skip (i:=2) (nA rfl) (by kernel_rfl) (by kernel_rfl) (by kernel_rfl) (by rfl) ?_
  try simp only[Act.put,pA_,pB_,pC_]
  refine wpG_skip (i:=3) (nA rfl) (by kernel_rfl) (by kernel_rfl) (by kernel_rfl) (by rfl) ?_
  try simp only[Act.put,pA_,pB_,pC_]
  refine wpG_skip (i:=4) (nA rfl) (by kernel_rfl) (by kernel_rfl) (by kernel_rfl) (by rfl) ?_
  try simp only[Act.put,pA_,pB_,pC_]
  refine wpG_skip (i:=5) (nA rfl) (by kernel_rfl) (by kernel_rfl) (by kernel_rfl) (by rfl) ?_
  try simp only[Act.put,pA_,pB_,pC_]
  refine wpG_skip (i:=6) (nA rfl) (by kernel_rfl) (by kernel_rfl) (by kernel_rfl) (by rfl) ?_
  try simp only[Act.put,pA_,pB_,pC_]
  refine gU_ 7 rfl ⟨_,by intro W hW;go_simp<;>with_reducible rfl,?_⟩
  try simp only[Act.put,pA_,pB_,pC_]
  refine gU_ 8 rfl ⟨_,by intro W hW;go_simp<;>with_reducible rfl,?_⟩
  try simp only[Act.put,pA_,pB_,pC_]
  refine wpG_done (by kernel_rfl) ?_
  go_wp2
  go_ret
  exact⟨by rw[HB2.out];rfl,(Below.refl _ _).drew⟩
 |true=>
  rw[if_pos rfl]
  have HB2:Hid (tlB b x=decide (tmT (x.drop 2)=[115])):=by show _=_;rw[HB.out];rfl
  have HC2:Hid (∀W:World,Calls Tryz.prog 88 #[.string ⟨(x.drop 2).toArray⟩,.string ⟨#[32]⟩] W fun e w'=>e=.returned (.string ⟨(tmT (x.drop 2)).toArray⟩)∧Below W.heap.size W w'):=fun W=>trim_any (x.drop 2) (by rw[List.length_drop];have:=HX.out;omega) W
  generalize (⟨(x.drop 2).toArray⟩:ByteArray)=YB at HC2
  obtain⟨TB,hTB⟩:∃B:ByteArray,B=⟨(tmT (x.drop 2)).toArray⟩:=⟨_,rfl⟩
  rw[←hTB] at HC2
  have hTl:TB.toList=tmT (x.drop 2):=by rw[hTB];exact str_toList _
  obtain⟨r,hr⟩:∃r:Bool,r=decide (tmT (x.drop 2)=[115]):=⟨_,rfl⟩
  have hcmp:(TB.toList==[115])=r:=by rw[hTl,hr,list_beq]
  rw[←hr] at HB2
  clear hTB hTl hr
  go_wp2_with fail
  refine wpG_begin (by kernel_rfl) ?_
  refine gU_ 0 rfl ⟨_,by intro W hW;go_simp<;>with_reducible rfl,?_⟩
  try simp only[Act.put,pA_,pB_,pC_]
  refine gU_ 1 rfl ⟨_,by intro W hW;go_simp<;>with_reducible rfl,?_⟩
  try simp only[Act.put,pA_,pB_,pC_]
  refine gU_ 2 rfl ⟨_,by intro W hW;go_simp<;>with_reducible rfl,?_⟩
  try simp only[Act.put,pA_,pB_,pC_]
  refine gU_ 4 rfl ⟨_,by intro W hW;go_simp<;>with_reducible rfl,?_⟩
  try simp only[Act.put,pA_,pB_,pC_]
  refine gU_ 5 rfl ⟨_,by intro W hW;have hcW:=cellDK15 cw hW;go_simp<;>with_reducible rfl,?_⟩
  try simp only[Act.put,pA_,pB_,pC_]
  refine gD_ 3 fun K hK=>?_
  go_simp
  refine(HC2.out _).mono ?_
  rintro e w2 ⟨rfl,b2⟩
  refine hK.out _ _ b2 ?_
  clear hK K
  try simp only[Act.put,pA_,pB_,pC_]
  refine gU_ 6 rfl ⟨_,by intro W hW;go_simp<;>with_reducible rfl,?_⟩
  try simp only[Act.put,pA_,pB_,pC_]
  refine gU_ 7 rfl ⟨_,by intro W hW;go_simp<;>with_reducible rfl,?_⟩
  try simp only[Act.put,pA_,pB_,pC_]
  refine gU_ 8 rfl ⟨_,by intro W hW;go_simp<;>with_reducible rfl,?_⟩
  try simp only[Act.put,pA_,pB_,pC_]
  refine wpG_done (by kernel_rfl) ?_
  have HBw:Hid (Below w1.heap.size w1 w2):=stepB ((Below.refl _ _).drew) b2
  go_wp2
  go_ret
  exact⟨by rw[HB2.out];rfl,HBw.out⟩
def kfS (b:Bool) (ls:List (List UInt8)):Bool:=decide (0<ls.length)&&tlB b (ls.getD 0 [])
def kfT (b:Bool) (ls:List (List UInt8)):List (List UInt8):=if kfS b ls then ls.drop 1 else ls
def kfL (ls:List (List UInt8)):Nat→List (List UInt8)
 |0=>ls
 |1=>kfT true ls
 |_=>kfT false (kfT true ls)
def kfI (ls:List (List UInt8)):Nat→Bool
 |0=>false
 |_=>kfS true ls
def kfR (ls:List (List UInt8)):Nat→Bool
 |0=>false
 |1=>false
 |_=>kfS false (kfT true ls)
def kfB (ls:List (List UInt8)):Bool:=(kfI ls 2||kfR ls 2)&&(kfL ls 2).isEmpty
theorem alloc_bb (w:World):(Instr.alloc 22 true (.tuple #[])).run Tryz.prog w=.ok (.pointer (some ⟨w.heap.size,0,none⟩)) (w.alloc (.cells #[.bool false,.bool false] 22)):=by kernel_rfl
theorem build_bb (w:World):(Instr.build 22 #[]).run Tryz.prog w=.ok (.agg #[.bool false,.bool false]) w:=by kernel_rfl
theorem eqBB (a b:Bool) (w:World):(Op.equalIn 10000 22 (.agg #[.bool a,.bool b]) (.agg #[.bool false,.bool false])).run Tryz.prog w=.ok (!a&& !b) w:=by cases a<;>cases b<;>kernel_rfl
theorem oneBB (a b:Bool):([.bool a,.bool b]:List Value).toArray.all (·.oneCell')=true:=all_oneCell_toArray (by
 intro v hv
 simp only[List.mem_cons,List.not_mem_nil,or_false] at hv
 rcases hv with rfl|rfl<;>rfl)
theorem kfT_sub (b:Bool) (ls:List (List UInt8)) (h:ls.length≤4097∧∀x∈ls,x.length≤4096):(kfT b ls).length≤4097∧∀x∈kfT b ls,x.length≤4096:=by
 unfold kfT
 split
 ·exact⟨by rw[List.length_drop];omega,fun x hx=>h.2 x (List.mem_of_mem_drop hx)⟩
 ·exact h
theorem rdC_wrote {w w':World} {v:Value} {ls:List (List UInt8)} {g:Nat} {p q:Bool} (h:RdC w v (stC ls)) (hw:Wrote g w w') (hb:BlkAt g 22 [.bool p,.bool q] w):RdC w' v (stC ls):=by
 obtain⟨a,c,e,h2,h3,h4,h5⟩:=h
 refine⟨a,c,e,h2,h3,h4,h5.imp id ?_⟩
 rintro⟨b,off,e2,hc⟩
 refine⟨b,off,e2,fun i hi=>?_⟩
 have hne:b≠g:=by
  intro eb
  subst eb
  have h1:=hc i hi
  rw[hb.cell] at h1
  have hi':i<ls.length:=by rw[stC_length15] at hi;exact hi
  have e3:(stC ls)[i]?=some (.string ⟨ls[i].toArray⟩):=by simp[stC,hi']
  rw[e3] at h1
  match off+i,h1 with
  |0,h1=>simp at h1
  |1,h1=>simp at h1
  |k+2,h1=>simp at h1
 have:=hw.other b hne
 rw[←hc i hi]
 unfold World.cell?
 rw[this]

set_option maxRecDepth 100000 in
set_option maxHeartbeats 8000000 in
theorem readKnown_any (ls:List (List UInt8)) (v:Value) (hls:ls.length≤4097) (hx:∀x∈ls,x.length≤4096) (w:World) (h:RdC w v (stC ls)) (hT:TkT w):
  Calls Tryz.prog 131 #[v] w fun e w'=>e=.returned (.tuple #[.agg #[.bool (kfI ls 2),.bool (kfR ls 2)],.bool (kfB ls)])∧Below w.heap.size w w':=by
 obtain⟨av,cv,rfl, -, -, -⟩:=st_len h
 have HT:Hid (TkT w):=hT
 have HLs:Hid (ls.length≤4097∧∀x∈ls,x.length≤4096):=⟨hls,hx⟩
 have HR0:Hid (RdC w (.slice av ls.length cv) (stC ls)):=h
 obtain⟨nv,hnv⟩:∃n:Nat,n=ls.length:=⟨_,rfl⟩
 rw[←hnv] at HR0 ⊢
 clear hT hls hx h hnv
 go_enter Tryz.func131,Tryz.ntmps131
 go_wp2_with (refine wpList_alloc_blk rfl 22 rfl [.bool false,.bool false] (alloc_bb _) ?_)
 intro w1 r1 b1 s1
 go_wp2_with (refine wpList_alloc_blk rfl 22 rfl [.bool false,.bool false] (alloc_bb _) ?_)
 intro w2 r4 b2 s2
 have r2:=r1.kept b2
 have hbx:=stepB b1 b2
 obtain⟨g2,hg2⟩:∃g:Nat,g=w.heap.size:=⟨_,rfl⟩
 obtain⟨g4,hg4⟩:∃g:Nat,g=w1.heap.size:=⟨_,rfl⟩
 have hne:g2≠g4:=by have:=r1.lt;omega
 have hge4:w.heap.size≤g4:=by have:=b1.size;omega
 have hge2:w.heap.size≤g2:=by omega
 rw[←hg2] at r2 ⊢
 rw[←hg4] at r4 ⊢
 have HT2:=HT.out.kept hbx
 have hrg:=range_two HT2.ar0 (show w2.cell? ⟨0,0+1,none⟩=_ from HT2.ar1)
 have hR0:RdC w2 (.slice av nv cv) (stC (kfL ls 0)):=HR0.out.kept hbx
 clear r1 b1 b2 s1 s2 hg2 hg4 HT2 HR0
 go_wp2_with (refine wpList_load_mid rfl 253 _ rfl 0 0 rfl [.string ⟨#[45,62]⟩,.string ⟨#[60,45]⟩] _ hrg Tryz.underlying253 rfl infoAr ?_)
 clear hrg
 go_loopw [0,8] (fun lv iv wx=>∃i:Nat,i≤2∧iv=.int .i64 (i:Int)∧RdC wx lv (stC (kfL ls i))∧BlkAt g2 22 [.bool false,.bool false] wx∧BlkAt g4 22 [.bool (kfI ls i),.bool (kfR ls i)] wx∧Below w.heap.size w wx) (fun _ iv _=>2 - (intOf iv).toNat)
 case atStart=>exact⟨0,by omega,rfl,hR0,r2,r4,hbx⟩
 case round=>
  clear hR0 r2 r4 hbx
  obtain⟨i,hi,rfl,hR,r2,r4,hbx⟩:=hrel
  have hi3:i=0∨i=1∨i=2:=by omega
  rcases hi3 with rfl|rfl|rfl
  ·have ix:=fun w=>idx_ar0 ⟨#[45,62]⟩ ⟨#[60,45]⟩ w
   obtain⟨LS,hLS⟩:∃L:List (List UInt8),L=kfL ls 0:=⟨_,rfl⟩
   have HLS:Hid (LS=kfL ls 0):=hLS
   have hRk:RdC wr u0 (stC LS):=by rw[hLS];exact hR
   obtain⟨a,c,rfl,h1,h2,h3⟩:=st_len hRk
   obtain⟨n,hn⟩:∃n:Nat,n=LS.length:=⟨_,rfl⟩
   have HN:Hid (n=LS.length):=hn
   rw[←hn] at h1 hRk ⊢
   have HR:Hid (RdC wr (.slice a n c) (stC LS)):=hRk
   have HRl:Hid (LS.length≤4097∧∀x∈LS,x.length≤4096):=by rw[hLS];exact HLs.out
   clear hLS hn hR hRk
   by_cases h0:0<n
   ·have d1:decide ((0:Int)<(n:Int))=true:=decide_eq_true (by omega)
    have d2:(0:Int)<(n:Int):=by omega
    have HIn:Hid (0<LS.length):=by show _<_;rw[←HN.out];exact h0
    obtain⟨b,off,rfl,g1⟩:=st_at HR.out HIn.out
    have g1':wr.cell? ⟨b,off,none⟩=some (.string ⟨(LS.getD 0 []).toArray⟩):=g1
    obtain⟨x,hx⟩:∃x:List UInt8,x=LS.getD 0 []:=⟨_,rfl⟩
    rw[←hx] at g1'
    have HXe:Hid (x=LS.getD 0 []):=hx
    have HC:Hid (∀W:World,TkT W→Calls Tryz.prog 211 #[.string ⟨x.toArray⟩,.string ⟨#[45,62]⟩] W fun e w'=>e=.returned (.bool (tlB true x))∧Below W.heap.size W w'):=fun W hW=>tellsKnown_any true x (HRl.out.2 x (by rw[hx];have:=HIn.out;simp[this])) _ rfl W hW
    generalize (⟨x.toArray⟩:ByteArray)=XB at g1' HC
    have hcI:(n:Int)≤(c:Int):=by omega
    clear hx g1
    go_wp2_with fail
    refine(HC.out _ (HT.out.kept hbx)).mono ?_
    rintro e w4 ⟨rfl,b4⟩
    obtain⟨z,hz⟩:∃z:Bool,z=tlB true x:=⟨_,rfl⟩
    rw[←hz]
    have HZ:Hid (kfS true LS=z):=by
     show _=_
     unfold kfS
     rw[decide_eq_true HIn.out,←HXe.out,←hz]
     rfl
    replace r2:=r2.kept b4
    replace r4:=r4.kept b4
    have HR4:Hid (RdC w4 (.slice (some ⟨b,off,none⟩) n c) (stC LS)):=HR.out.kept b4
    have hbx4:=stepB hbx b4
    clear hz b4 HC g1'
    cases z with
    |true=>
     have HL2:Hid (LS.drop 1=kfL ls 1):=by show _=_;rw[show kfL ls 1=kfT true (kfL ls 0) from rfl,←HLS.out];unfold kfT;rw[HZ.out];rfl
     have HK2:Hid (true=kfS true (kfL ls 0)):=by show _=_;rw[←HLS.out,HZ.out]
     obtain⟨a',hrun,hrd⟩:=tailS (ab:=some ⟨b,off,none⟩) (L:=n) (cb:=c) (m:=1) (by omega) h1 h2 (by intro h;cases h)
     have f4:=r4.free 0
     have c4:w4.cell? ⟨g4,0,none⟩=some (.bool false):=r4.cell 0
     have HR5:Hid (∀W,Below w4.heap.size w4 W→RdC W (.slice a' (n - 1) (c - 1)) (stC (kfL ls 1))):=by
      show ∀W,_
      intro W hW
      have:=hrd W _ (HR4.out.kept hW)
      rw[show(stC LS).drop 1=stC (LS.drop 1) by simp[stC,List.map_drop],HL2.out] at this
      exact this
     have HS:Hid (BlkAt g4 22 [.bool (kfS true (kfL ls 0)),.bool false] (w4.setCell ⟨g4,0,none⟩ (.bool true))∧Wrote g4 w4 (w4.setCell ⟨g4,0,none⟩ (.bool true))):=⟨by rw[←HK2.out];exact r4.set 0 (.bool true),Wrote.set g4 0 w4 (.bool true)⟩
     have hLb:g4<w4.heap.size:=r4.lt
     go_wp2_with (refine wpList_valP rfl (hrun (.tmp 24) (.const (.int .i64 1)) rfl rfl rfl) ?_)
     have hr5:RdC (w4.setCell ⟨g4,0,none⟩ (.bool true)) (.slice a' (n - 1) (c - 1)) (stC (kfL ls 1)):=rdC_wrote (HR5.out w4 (Below.refl _ _)) HS.out.2 r4
     have r2':=r2.wrote HS.out.2 hne
     have r4':=HS.out.1
     have hb5:=HS.out.2.below _ _ hge4 hbx4
     clear r2 r4 f4 c4 HR4 HR5 HS hrd hbx4 hbx
     go_wp2
     go_roundw
     case rel=>exact⟨1,by omega,by go_num,hr5,r2',r4',hb5⟩
     case measure=>simp[intOf]
    |false=>
     have HL2:Hid (LS=kfL ls 1):=by show _=_;rw[show kfL ls 1=kfT true (kfL ls 0) from rfl,←HLS.out];unfold kfT;rw[HZ.out];rfl
     have HK2:Hid (false=kfS true (kfL ls 0)):=by show _=_;rw[←HLS.out,HZ.out]
     have hr5:RdC w4 (.slice (some ⟨b,off,none⟩) n c) (stC (kfL ls 1)):=by rw[←HL2.out];exact HR4.out
     have r4':BlkAt g4 22 [.bool (kfS true (kfL ls 0)),.bool false] w4:=by rw[←HK2.out];exact r4
     clear HR4 r4 hbx
     go_wp2
     go_roundw
     case rel=>exact⟨1,by omega,by go_num,hr5,r2,r4',hbx4⟩
     case measure=>simp[intOf]
   ·have d1:decide ((0:Int)<(n:Int))=false:=decide_eq_false (by omega)
    have d2:(n:Int)≤0:=by omega
    have HZ:Hid (kfS true LS=false):=by
     show _=_
     unfold kfS
     rw[decide_eq_false (by rw[←HN.out];omega)]
     rfl
    have HL2:Hid (LS=kfL ls 1):=by show _=_;rw[show kfL ls 1=kfT true (kfL ls 0) from rfl,←HLS.out];unfold kfT;rw[HZ.out];rfl
    have HK2:Hid (false=kfS true (kfL ls 0)):=by show _=_;rw[←HLS.out,HZ.out]
    have hr5:RdC wr (.slice a n c) (stC (kfL ls 1)):=by rw[←HL2.out];exact HR.out
    have r4':BlkAt g4 22 [.bool (kfS true (kfL ls 0)),.bool false] wr:=by rw[←HK2.out];exact r4
    clear HR r4
    go_wp2
    go_roundw
    case rel=>exact⟨1,by omega,by go_num,hr5,r2,r4',hbx⟩
    case measure=>simp[intOf]
  ·have ix:=fun w=>idx_ar1 ⟨#[45,62]⟩ ⟨#[60,45]⟩ w
   obtain⟨LS,hLS⟩:∃L:List (List UInt8),L=kfL ls 1:=⟨_,rfl⟩
   have HLS:Hid (LS=kfL ls 1):=hLS
   have hRk:RdC wr u0 (stC LS):=by rw[hLS];exact hR
   obtain⟨a,c,rfl,h1,h2,h3⟩:=st_len hRk
   obtain⟨n,hn⟩:∃n:Nat,n=LS.length:=⟨_,rfl⟩
   have HN:Hid (n=LS.length):=hn
   rw[←hn] at h1 hRk ⊢
   have HR:Hid (RdC wr (.slice a n c) (stC LS)):=hRk
   have HRl:Hid (LS.length≤4097∧∀x∈LS,x.length≤4096):=by rw[hLS];exact kfT_sub true ls HLs.out
   clear hLS hn hR hRk
   by_cases h0:0<n
   ·have d1:decide ((0:Int)<(n:Int))=true:=decide_eq_true (by omega)
    have d2:(0:Int)<(n:Int):=by omega
    have HIn:Hid (0<LS.length):=by show _<_;rw[←HN.out];exact h0
    obtain⟨b,off,rfl,g1⟩:=st_at HR.out HIn.out
    have g1':wr.cell? ⟨b,off,none⟩=some (.string ⟨(LS.getD 0 []).toArray⟩):=g1
    obtain⟨x,hx⟩:∃x:List UInt8,x=LS.getD 0 []:=⟨_,rfl⟩
    rw[←hx] at g1'
    have HXe:Hid (x=LS.getD 0 []):=hx
    have HC:Hid (∀W:World,TkT W→Calls Tryz.prog 211 #[.string ⟨x.toArray⟩,.string ⟨#[60,45]⟩] W fun e w'=>e=.returned (.bool (tlB false x))∧Below W.heap.size W w'):=fun W hW=>tellsKnown_any false x (HRl.out.2 x (by rw[hx];have:=HIn.out;simp[this])) _ rfl W hW
    generalize (⟨x.toArray⟩:ByteArray)=XB at g1' HC
    have hcI:(n:Int)≤(c:Int):=by omega
    clear hx g1
    go_wp2_with fail
    refine(HC.out _ (HT.out.kept hbx)).mono ?_
    rintro e w4 ⟨rfl,b4⟩
    obtain⟨z,hz⟩:∃z:Bool,z=tlB false x:=⟨_,rfl⟩
    rw[←hz]
    have HZ:Hid (kfS false LS=z):=by
     show _=_
     unfold kfS
     rw[decide_eq_true HIn.out,←HXe.out,←hz]
     rfl
    replace r2:=r2.kept b4
    replace r4:=r4.kept b4
    have HR4:Hid (RdC w4 (.slice (some ⟨b,off,none⟩) n c) (stC LS)):=HR.out.kept b4
    have hbx4:=stepB hbx b4
    clear hz b4 HC g1'
    cases z with
    |true=>
     have HL2:Hid (LS.drop 1=kfL ls 2):=by show _=_;rw[show kfL ls 2=kfT false (kfL ls 1) from rfl,←HLS.out];unfold kfT;rw[HZ.out];rfl
     have HK2:Hid (true=kfS false (kfL ls 1)):=by show _=_;rw[←HLS.out,HZ.out]
     obtain⟨a',hrun,hrd⟩:=tailS (ab:=some ⟨b,off,none⟩) (L:=n) (cb:=c) (m:=1) (by omega) h1 h2 (by intro h;cases h)
     have f4:=r4.free 1
     have c4:w4.cell? ⟨g4,1,none⟩=some (.bool false):=r4.cell 1
     have HR5:Hid (∀W,Below w4.heap.size w4 W→RdC W (.slice a' (n - 1) (c - 1)) (stC (kfL ls 2))):=by
      show ∀W,_
      intro W hW
      have:=hrd W _ (HR4.out.kept hW)
      rw[show(stC LS).drop 1=stC (LS.drop 1) by simp[stC,List.map_drop],HL2.out] at this
      exact this
     have HS:Hid (BlkAt g4 22 [.bool (kfI ls 1),.bool (kfS false (kfL ls 1))] (w4.setCell ⟨g4,1,none⟩ (.bool true))∧Wrote g4 w4 (w4.setCell ⟨g4,1,none⟩ (.bool true))):=⟨by rw[←HK2.out];exact r4.set 1 (.bool true),Wrote.set g4 1 w4 (.bool true)⟩
     have hLb:g4<w4.heap.size:=r4.lt
     go_wp2_with (refine wpList_valP rfl (hrun (.tmp 24) (.const (.int .i64 1)) rfl rfl rfl) ?_)
     have hr5:RdC (w4.setCell ⟨g4,1,none⟩ (.bool true)) (.slice a' (n - 1) (c - 1)) (stC (kfL ls 2)):=rdC_wrote (HR5.out w4 (Below.refl _ _)) HS.out.2 r4
     have r2':=r2.wrote HS.out.2 hne
     have r4':=HS.out.1
     have hb5:=HS.out.2.below _ _ hge4 hbx4
     clear r2 r4 f4 c4 HR4 HR5 HS hrd hbx4 hbx
     go_wp2
     go_roundw
     case rel=>exact⟨2,by omega,by go_num,hr5,r2',r4',hb5⟩
     case measure=>simp[intOf]
    |false=>
     have HL2:Hid (LS=kfL ls 2):=by show _=_;rw[show kfL ls 2=kfT false (kfL ls 1) from rfl,←HLS.out];unfold kfT;rw[HZ.out];rfl
     have HK2:Hid (false=kfS false (kfL ls 1)):=by show _=_;rw[←HLS.out,HZ.out]
     have hr5:RdC w4 (.slice (some ⟨b,off,none⟩) n c) (stC (kfL ls 2)):=by rw[←HL2.out];exact HR4.out
     have r4':BlkAt g4 22 [.bool (kfI ls 1),.bool (kfS false (kfL ls 1))] w4:=by rw[←HK2.out];exact r4
     clear HR4 r4 hbx
     go_wp2
     go_roundw
     case rel=>exact⟨2,by omega,by go_num,hr5,r2,r4',hbx4⟩
     case measure=>simp[intOf]
   ·have d1:decide ((0:Int)<(n:Int))=false:=decide_eq_false (by omega)
    have d2:(n:Int)≤0:=by omega
    have HZ:Hid (kfS false LS=false):=by
     show _=_
     unfold kfS
     rw[decide_eq_false (by rw[←HN.out];omega)]
     rfl
    have HL2:Hid (LS=kfL ls 2):=by show _=_;rw[show kfL ls 2=kfT false (kfL ls 1) from rfl,←HLS.out];unfold kfT;rw[HZ.out];rfl
    have HK2:Hid (false=kfS false (kfL ls 1)):=by show _=_;rw[←HLS.out,HZ.out]
    have hr5:RdC wr (.slice a n c) (stC (kfL ls 2)):=by rw[←HL2.out];exact HR.out
    have r4':BlkAt g4 22 [.bool (kfI ls 1),.bool (kfS false (kfL ls 1))] wr:=by rw[←HK2.out];exact r4
    clear HR r4
    go_wp2
    go_roundw
    case rel=>exact⟨2,by omega,by go_num,hr5,r2,r4',hbx⟩
    case measure=>simp[intOf]
  ·have HKI:Hid (∃kI,kI=kfI ls 2):=⟨_,rfl⟩
   obtain⟨kI,hkI⟩:=HKI.out
   obtain⟨kR,hkR⟩:∃b,b=kfR ls 2:=⟨_,rfl⟩
   obtain⟨LS,hLS⟩:∃L:List (List UInt8),L=kfL ls 2:=⟨_,rfl⟩
   have HB:Hid (kfB ls=((kI||kR)&&LS.isEmpty)):=by show _=_;rw[hkI,hkR,hLS];rfl
   have HKi:Hid (kI=kfI ls 2):=hkI
   have HKr:Hid (kR=kfR ls 2):=hkR
   rw[←hkI,←hkR] at r4
   rw[←hLS] at hR
   obtain⟨a,c,rfl,h1,h2, -⟩:=st_len hR
   obtain⟨n,hn⟩:∃n:Nat,n=LS.length:=⟨_,rfl⟩
   have HEm:Hid (((n:Int)==0)=LS.isEmpty):=by
    show _=_
    rw[hn]
    cases LS with
    |nil=>rfl
    |cons x l=>simp;omega
   rw[←hn] at h1 ⊢
   have HBx:Hid (Below w.heap.size w wr.drew):=hbx.drew
   replace r2:=r2.drew
   clear hkI hkR hLS hR hn hbx HKI
   cases kI<;>cases kR
   ·have hS:BlkAt g4 22 [.bool false,.bool false] wr.drew:=r4.drew
    have HB2:Hid (kfB ls=false):=by show _=_;rw[HB.out];rfl
    obtain⟨zz,hzz⟩:∃b:Bool,((n:Int)==0)=b:=⟨_,rfl⟩
    skip
    clear r4
    go_wp2_with fail
    refine wpS_begin (fun W=>BlkAt g4 22 [.bool false,.bool false] W) (by kernel_rfl) ?_
    refine sU_ hS 0 rfl ⟨_,by intro W hW;have h0:W.cell? ⟨g4,0,none⟩=some (.bool false):=hW.cell 0;have h1:W.cell? ⟨g4,1,none⟩=some (.bool false):=hW.cell 1;go_simp<;>with_reducible rfl,?_⟩
    try simp only[Act.put,pA_,pB_,pC_]
    refine sU_ hS 1 rfl ⟨_,by intro W hW;have h0:W.cell? ⟨g4,0,none⟩=some (.bool false):=hW.cell 0;have h1:W.cell? ⟨g4,1,none⟩=some (.bool false):=hW.cell 1;go_simp<;>with_reducible rfl,?_⟩
    try simp only[Act.put,pA_,pB_,pC_]
    refine sU_ hS 2 rfl ⟨_,by intro W hW;have hbb:=build_bb W;go_simp<;>with_reducible rfl,?_⟩
    try simp only[Act.put,pA_,pB_,pC_]
    refine sU_ hS 3 rfl ⟨_,by intro W hW;have heq:=eqBB false false W;go_simp<;>with_reducible rfl,?_⟩
    try simp only[Act.put,pA_,pB_,pC_]
    refine sU_ hS 4 rfl ⟨_,by intro W hW;go_simp<;>with_reducible rfl,?_⟩
    try simp only[Act.put,pA_,pB_,pC_]
    refine wpS_skip (hS:=hS) (i:=5) (nA rfl) (by kernel_rfl) (by kernel_rfl) (by kernel_rfl) (by rfl) ?_
    try simp only[Act.put,pA_,pB_,pC_]
    refine wpS_skip (hS:=hS) (i:=6) (nA rfl) (by kernel_rfl) (by kernel_rfl) (by kernel_rfl) (by rfl) ?_
    try simp only[Act.put,pA_,pB_,pC_]
    refine wpS_skip (hS:=hS) (i:=7) (nA rfl) (by kernel_rfl) (by kernel_rfl) (by kernel_rfl) (by rfl) ?_
    try simp only[Act.put,pA_,pB_,pC_]
    refine sU_ hS 8 rfl ⟨_,by intro W hW;go_simp<;>with_reducible rfl,?_⟩
    try simp only[Act.put,pA_,pB_,pC_]
    refine sD_ 9 fun K hK=>?_
    refine wp_store_part 22 _ _ rfl rfl [.bool false,.bool false] rfl [] [.bool false,.bool false] [] [.bool false,.bool false] r2 rfl rfl rfl rfl info2b (oneBB _ _) ?_
    intro w5 r5 hw5
    replace hS:=hS.wrote hw5 (Ne.symm hne)
    refine hK.out _ _ hS ?_
    clear hK K
    try simp only[Act.put,pA_,pB_,pC_]
    refine sU_ hS 10 rfl ⟨_,by intro W hW;go_simp<;>with_reducible rfl,?_⟩
    try simp only[Act.put,pA_,pB_,pC_]
    refine wpS_done (by kernel_rfl) ?_
    have HB5:Hid (Below w.heap.size w w5):=hw5.below _ _ hge2 HBx.out
    go_wp2
    refine bodyPost_blk2 rfl rfl rfl rfl r5 Tryz.underlying22 rfl info2b ?_
    exact⟨by rw[←HKi.out,←HKr.out,HB2.out];rfl,HB5.out⟩
   ·have hS:BlkAt g4 22 [.bool false,.bool true] wr.drew:=r4.drew
    have HB2:Hid (kfB ls=((n:Int)==0)):=by show _=_;rw[HB.out,HEm.out];rfl
    obtain⟨zz,hzz⟩:∃b:Bool,((n:Int)==0)=b:=⟨_,rfl⟩
    rw[hzz] at HB2
    clear r4
    go_wp2_with fail
    refine wpS_begin (fun W=>BlkAt g4 22 [.bool false,.bool true] W) (by kernel_rfl) ?_
    refine sU_ hS 0 rfl ⟨_,by intro W hW;have h0:W.cell? ⟨g4,0,none⟩=some (.bool false):=hW.cell 0;have h1:W.cell? ⟨g4,1,none⟩=some (.bool true):=hW.cell 1;go_simp<;>with_reducible rfl,?_⟩
    try simp only[Act.put,pA_,pB_,pC_]
    refine sU_ hS 1 rfl ⟨_,by intro W hW;have h0:W.cell? ⟨g4,0,none⟩=some (.bool false):=hW.cell 0;have h1:W.cell? ⟨g4,1,none⟩=some (.bool true):=hW.cell 1;go_simp<;>with_reducible rfl,?_⟩
    try simp only[Act.put,pA_,pB_,pC_]
    refine sU_ hS 2 rfl ⟨_,by intro W hW;have hbb:=build_bb W;go_simp<;>with_reducible rfl,?_⟩
    try simp only[Act.put,pA_,pB_,pC_]
    refine sU_ hS 3 rfl ⟨_,by intro W hW;have heq:=eqBB false true W;go_simp<;>with_reducible rfl,?_⟩
    try simp only[Act.put,pA_,pB_,pC_]
    refine sU_ hS 4 rfl ⟨_,by intro W hW;go_simp<;>with_reducible rfl,?_⟩
    try simp only[Act.put,pA_,pB_,pC_]
    refine sU_ hS 5 rfl ⟨_,by intro W hW;go_simp<;>with_reducible rfl,?_⟩
    try simp only[Act.put,pA_,pB_,pC_]
    refine sU_ hS 6 rfl ⟨_,by intro W hW;go_simp<;>with_reducible rfl,?_⟩
    try simp only[Act.put,pA_,pB_,pC_]
    refine sU_ hS 7 rfl ⟨_,by intro W hW;go_simp<;>with_reducible rfl,?_⟩
    try simp only[Act.put,pA_,pB_,pC_]
    refine sU_ hS 8 rfl ⟨_,by intro W hW;go_simp<;>with_reducible rfl,?_⟩
    try simp only[Act.put,pA_,pB_,pC_]
    refine sD_ 9 fun K hK=>?_
    refine wp_store_part 22 _ _ rfl rfl [.bool false,.bool true] rfl [] [.bool false,.bool false] [] [.bool false,.bool true] r2 rfl rfl rfl rfl info2b (oneBB _ _) ?_
    intro w5 r5 hw5
    replace hS:=hS.wrote hw5 (Ne.symm hne)
    refine hK.out _ _ hS ?_
    clear hK K
    try simp only[Act.put,pA_,pB_,pC_]
    refine sU_ hS 10 rfl ⟨_,by intro W hW;go_simp<;>with_reducible rfl,?_⟩
    try simp only[Act.put,pA_,pB_,pC_]
    refine wpS_done (by kernel_rfl) ?_
    have HB5:Hid (Below w.heap.size w w5):=hw5.below _ _ hge2 HBx.out
    go_wp2
    refine bodyPost_blk2 rfl rfl rfl rfl r5 Tryz.underlying22 rfl info2b ?_
    exact⟨by rw[←HKi.out,←HKr.out,HB2.out];rfl,HB5.out⟩
   ·have hS:BlkAt g4 22 [.bool true,.bool false] wr.drew:=r4.drew
    have HB2:Hid (kfB ls=((n:Int)==0)):=by show _=_;rw[HB.out,HEm.out];rfl
    obtain⟨zz,hzz⟩:∃b:Bool,((n:Int)==0)=b:=⟨_,rfl⟩
    rw[hzz] at HB2
    clear r4
    go_wp2_with fail
    refine wpS_begin (fun W=>BlkAt g4 22 [.bool true,.bool false] W) (by kernel_rfl) ?_
    refine sU_ hS 0 rfl ⟨_,by intro W hW;have h0:W.cell? ⟨g4,0,none⟩=some (.bool true):=hW.cell 0;have h1:W.cell? ⟨g4,1,none⟩=some (.bool false):=hW.cell 1;go_simp<;>with_reducible rfl,?_⟩
    try simp only[Act.put,pA_,pB_,pC_]
    refine sU_ hS 1 rfl ⟨_,by intro W hW;have h0:W.cell? ⟨g4,0,none⟩=some (.bool true):=hW.cell 0;have h1:W.cell? ⟨g4,1,none⟩=some (.bool false):=hW.cell 1;go_simp<;>with_reducible rfl,?_⟩
    try simp only[Act.put,pA_,pB_,pC_]
    refine sU_ hS 2 rfl ⟨_,by intro W hW;have hbb:=build_bb W;go_simp<;>with_reducible rfl,?_⟩
    try simp only[Act.put,pA_,pB_,pC_]
    refine sU_ hS 3 rfl ⟨_,by intro W hW;have heq:=eqBB true false W;go_simp<;>with_reducible rfl,?_⟩
    try simp only[Act.put,pA_,pB_,pC_]
    refine sU_ hS 4 rfl ⟨_,by intro W hW;go_simp<;>with_reducible rfl,?_⟩
    try simp only[Act.put,pA_,pB_,pC_]
    refine sU_ hS 5 rfl ⟨_,by intro W hW;go_simp<;>with_reducible rfl,?_⟩
    try simp only[Act.put,pA_,pB_,pC_]
    refine sU_ hS 6 rfl ⟨_,by intro W hW;go_simp<;>with_reducible rfl,?_⟩
    try simp only[Act.put,pA_,pB_,pC_]
    refine sU_ hS 7 rfl ⟨_,by intro W hW;go_simp<;>with_reducible rfl,?_⟩
    try simp only[Act.put,pA_,pB_,pC_]
    refine sU_ hS 8 rfl ⟨_,by intro W hW;go_simp<;>with_reducible rfl,?_⟩
    try simp only[Act.put,pA_,pB_,pC_]
    refine sD_ 9 fun K hK=>?_
    refine wp_store_part 22 _ _ rfl rfl [.bool true,.bool false] rfl [] [.bool false,.bool false] [] [.bool true,.bool false] r2 rfl rfl rfl rfl info2b (oneBB _ _) ?_
    intro w5 r5 hw5
    replace hS:=hS.wrote hw5 (Ne.symm hne)
    refine hK.out _ _ hS ?_
    clear hK K
    try simp only[Act.put,pA_,pB_,pC_]
    refine sU_ hS 10 rfl ⟨_,by intro W hW;go_simp<;>with_reducible rfl,?_⟩
    try simp only[Act.put,pA_,pB_,pC_]
    refine wpS_done (by kernel_rfl) ?_
    have HB5:Hid (Below w.heap.size w w5):=hw5.below _ _ hge2 HBx.out
    go_wp2
    refine bodyPost_blk2 rfl rfl rfl rfl r5 Tryz.underlying22 rfl info2b ?_
    exact⟨by rw[←HKi.out,←HKr.out,HB2.out];rfl,HB5.out⟩
   ·have hS:BlkAt g4 22 [.bool true,.bool true] wr.drew:=r4.drew
    have HB2:Hid (kfB ls=((n:Int)==0)):=by show _=_;rw[HB.out,HEm.out];rfl
    obtain⟨zz,hzz⟩:∃b:Bool,((n:Int)==0)=b:=⟨_,rfl⟩
    rw[hzz] at HB2
    clear r4
    go_wp2_with fail
    refine wpS_begin (fun W=>BlkAt g4 22 [.bool true,.bool true] W) (by kernel_rfl) ?_
    refine sU_ hS 0 rfl ⟨_,by intro W hW;have h0:W.cell? ⟨g4,0,none⟩=some (.bool true):=hW.cell 0;have h1:W.cell? ⟨g4,1,none⟩=some (.bool true):=hW.cell 1;go_simp<;>with_reducible rfl,?_⟩
    try simp only[Act.put,pA_,pB_,pC_]
    refine sU_ hS 1 rfl ⟨_,by intro W hW;have h0:W.cell? ⟨g4,0,none⟩=some (.bool true):=hW.cell 0;have h1:W.cell? ⟨g4,1,none⟩=some (.bool true):=hW.cell 1;go_simp<;>with_reducible rfl,?_⟩
    try simp only[Act.put,pA_,pB_,pC_]
    refine sU_ hS 2 rfl ⟨_,by intro W hW;have hbb:=build_bb W;go_simp<;>with_reducible rfl,?_⟩
    try simp only[Act.put,pA_,pB_,pC_]
    refine sU_ hS 3 rfl ⟨_,by intro W hW;have heq:=eqBB true true W;go_simp<;>with_reducible rfl,?_⟩
    try simp only[Act.put,pA_,pB_,pC_]
    refine sU_ hS 4 rfl ⟨_,by intro W hW;go_simp<;>with_reducible rfl,?_⟩
    try simp only[Act.put,pA_,pB_,pC_]
    refine sU_ hS 5 rfl ⟨_,by intro W hW;go_simp<;>with_reducible rfl,?_⟩
    try simp only[Act.put,pA_,pB_,pC_]
    refine sU_ hS 6 rfl ⟨_,by intro W hW;go_simp<;>with_reducible rfl,?_⟩
    try simp only[Act.put,pA_,pB_,pC_]
    refine sU_ hS 7 rfl ⟨_,by intro W hW;go_simp<;>with_reducible rfl,?_⟩
    try simp only[Act.put,pA_,pB_,pC_]
    refine sU_ hS 8 rfl ⟨_,by intro W hW;go_simp<;>with_reducible rfl,?_⟩
    try simp only[Act.put,pA_,pB_,pC_]
    refine sD_ 9 fun K hK=>?_
    refine wp_store_part 22 _ _ rfl rfl [.bool true,.bool true] rfl [] [.bool false,.bool false] [] [.bool true,.bool true] r2 rfl rfl rfl rfl info2b (oneBB _ _) ?_
    intro w5 r5 hw5
    replace hS:=hS.wrote hw5 (Ne.symm hne)
    refine hK.out _ _ hS ?_
    clear hK K
    try simp only[Act.put,pA_,pB_,pC_]
    refine sU_ hS 10 rfl ⟨_,by intro W hW;go_simp<;>with_reducible rfl,?_⟩
    try simp only[Act.put,pA_,pB_,pC_]
    refine wpS_done (by kernel_rfl) ?_
    have HB5:Hid (Below w.heap.size w w5):=hw5.below _ _ hge2 HBx.out
    go_wp2
    refine bodyPost_blk2 rfl rfl rfl rfl r5 Tryz.underlying22 rfl info2b ?_
    exact⟨by rw[←HKi.out,←HKr.out,HB2.out];rfl,HB5.out⟩
def nmE (x:List UInt8):Bool:=[58].isSuffixOf x
def nmX (x:List UInt8):List UInt8:=teT (if nmE x then x.take (x.length - 1) else x)
theorem teT_len (s:List UInt8):(teT s).length≤s.length:=by
 unfold teT
 rw[List.length_reverse]
 have:=tfT_len s.reverse
 rw[List.length_reverse] at this
 exact this
theorem nmX_len (x:List UInt8):(nmX x).length≤x.length:=by
 unfold nmX
 refine Nat.le_trans (teT_len _) ?_
 split
 ·rw[List.length_take];omega
 ·exact Nat.le_refl _

set_option maxHeartbeats 2000000 in
theorem readName_any (x:List UInt8) (hx:x.length≤4096) (w:World):
  Calls Tryz.prog 84 #[.string ⟨x.toArray⟩] w fun e w'=>e=.returned (.tuple #[.string ⟨(nmX x).toArray⟩,.bool (nmE x)])∧Below w.heap.size w w':=by
 have HC:Hid (Calls Tryz.prog 127 #[.string ⟨x.toArray⟩,.string ⟨#[58]⟩] w fun e w'=>e=.returned (.tuple #[.string ⟨(if nmE x then x.take (x.length - 1) else x).toArray⟩,.bool (nmE x)])∧w'=w):=cutS_any x [58] (by omega) w
 obtain⟨y,hy⟩:∃y:List UInt8,y=if nmE x then x.take (x.length - 1) else x:=⟨_,rfl⟩
 have hyl:y.length≤4096:=by
  rw[hy]
  split
  ·rw[List.length_take];omega
  ·exact hx
 have hn:nmX x=teT y:=by unfold nmX;rw[←hy]
 rw[←hy] at HC
 rw[hn]
 have HC2:Hid (∀W:World,Calls Tryz.prog 129 #[.string ⟨y.toArray⟩,.string ⟨#[32]⟩] W fun e w'=>e=.returned (.string ⟨(teT y).toArray⟩)∧w'=W):=fun W=>trimR_any y (by omega) W
 have HC3:Hid (∀W:World,Calls Tryz.prog 128 #[.string ⟨(teT y).toArray⟩] W fun e w'=>e=.returned (.string ⟨(teT y).toArray⟩)∧Below W.heap.size W w'):=fun W=>clone_any (teT y) (by have:=teT_len y;omega) W
 generalize (⟨x.toArray⟩:ByteArray)=XB at HC ⊢
 generalize (⟨y.toArray⟩:ByteArray)=YB at HC HC2
 generalize (⟨(teT y).toArray⟩:ByteArray)=TB at HC2 HC3 ⊢
 generalize nmE x=z at HC ⊢
 clear hy hyl hn hx
 go_enter Tryz.func84,Tryz.ntmps84
 go_wp2_with fail
 refine HC.out.mono ?_
 rintro e w1 ⟨rfl,rfl⟩
 go_wp2_with fail
 refine(HC2.out _).mono ?_
 rintro e w1 ⟨rfl,rfl⟩
 go_wp2_with fail
 refine(HC3.out _).mono ?_
 rintro e w2 ⟨rfl,b2⟩
 go_wp2
 go_ret2
 exact⟨rfl,b2⟩

def bdF (nm:List UInt8) (ls:List (List UInt8)):Option Ptn:=
 if ixL dotT ls= -1 then (if ls.all msgB then some ⟨nm,false,false,mgL ls⟩ else none)
 else if kfB (ls.take (ixL dotT ls).toNat)&&(ls.drop ((ixL dotT ls).toNat+1)).all msgB then some ⟨nm,kfI (ls.take (ixL dotT ls).toNat) 2,kfR (ls.take (ixL dotT ls).toNat) 2,mgL (ls.drop ((ixL dotT ls).toNat+1))⟩ else none
theorem ixL_lt (x:List UInt8):∀zs,ixL x zs<zs.length
 |[]=>by simp[ixL]
 |z :: zs=>by
  have:=ixL_lt x zs
  have eu:ixL x (z :: zs)=if z=x then 0 else if ixL x zs= -1 then -1 else ixL x zs+1:=rfl
  rw[eu]
  simp only[List.length_cons]
  split
  ·omega
  ·split<;>omega
theorem msR_name {w:World} {v:Value} {a b:Ptn} (h:MsR w v a) (e:a.ms=b.ms):MsR w v b:=by
 obtain⟨n1,k1,r1,m1⟩:=a
 obtain⟨n2,k2,r2,m2⟩:=b
 simp only at e
 subst e
 exact⟨h.form⟩
def BdP (nm:List UInt8) (ls:List (List UInt8)) (g:Nat) (w:World) (e:Ending) (w':World):Prop:=
 Chg (fun b=>b=g) w w'∧((∃q,bdF nm ls=some q∧e=.returned (.bool true)∧∃vm,BlkAt g 25 (paC q vm) w'∧∀W,Chg (fun b=>b<w.heap.size) w' W→MsR W vm q)∨(bdF nm ls=none∧e=.returned (.bool false)))

set_option maxRecDepth 100000 in
set_option maxHeartbeats 8000000 in
theorem readBody_any (nm:List UInt8) (ls:List (List UInt8)) (v:Value) (g:Nat) (hls:ls.length≤4097) (hx:∀x∈ls,x.length≤4096) (w:World) (hb:BlkAt g 25 (paC ⟨nm,false,false,[]⟩ (.slice none 0 0)) w)
  (hR:∀W,Chg (fun b=>b=g) w W→RdC W v (stC ls)) (hT:∀W,Chg (fun b=>b=g) w W→TkT W):
  Calls Tryz.prog 85 #[.pointer (some ⟨g,0,none⟩),v] w fun e w'=>BdP nm ls g w e w':=by
 have hR0:=hR w (Chg.refl _ _)
 obtain⟨a,c,rfl,h1,h2,h3⟩:=st_len hR0
 obtain⟨n,hn⟩:∃n:Nat,n=ls.length:=⟨_,rfl⟩
 have HN:Hid (n=ls.length):=hn
 rw[←hn] at h1 hR hR0
 rw[←hn]
 have HR:Hid (∀W,Chg (fun b=>b=g) w W→RdC W (.slice a n c) (stC ls)):=hR
 have HT:Hid (∀W,Chg (fun b=>b=g) w W→TkT W):=hT
 have HX:Hid (ls.length≤4097∧∀x∈ls,x.length≤4096):=⟨hls,hx⟩
 have HR0:Hid (RdC w (.slice a n c) (stC ls)):=hR0
 have hlt:=hb.lt
 have HM2:Hid (c≤maxLen∧(a=none→c=0)):=⟨h2,h3⟩
 clear hR hT hx hls hn hR0 h2 h3
 go_enter Tryz.func85,Tryz.ntmps85
 go_wp2_with fail
 refine(idxS_any dotT ls _ _ HR0.out (by have:=HX.out.1;omega)).mono ?_
 rintro e w ⟨rfl,rfl⟩
 obtain⟨E,hE⟩:∃E:Int,E=ixL dotT ls:=⟨_,rfl⟩
 have hge:=ixL_ge dotT ls
 have hlt2:=ixL_lt dotT ls
 rw[←hE] at hge hlt2 ⊢
 have HBd:Hid (bdF nm ls=if E= -1 then (if ls.all msgB then some ⟨nm,false,false,mgL ls⟩ else none) else if kfB (ls.take E.toNat)&&(ls.drop (E.toNat+1)).all msgB then some ⟨nm,kfI (ls.take E.toNat) 2,kfR (ls.take E.toNat) 2,mgL (ls.drop (E.toNat+1))⟩ else none):=by show _=_;rw[hE];rfl
 clear hE
 by_cases hE1:E= -1
 ·have HBd2:Hid (bdF nm ls=if ls.all msgB then some ⟨nm,false,false,mgL ls⟩ else none):=by show _=_;rw[HBd.out,if_pos hE1]
  subst hE1
  clear HBd hge hlt2
  go_wp2_with fail
  refine(readMessages_any ls _ HX.out.1 HX.out.2 _ HR0.out (HT.out _ (Chg.refl _ _))).mono ?_
  rintro e w5 (⟨hall,vm,rfl,hMs,b5⟩|⟨hall,rfl,b5⟩)
  ·replace hb:=hb.kept b5
   have c3:w5.cell? ⟨g,3,none⟩=some (.slice none 0 0):=hb.cell 3
   have f3:=hb.free 3
   have HS:Hid (BlkAt g 25 (paC ⟨nm,false,false,mgL ls⟩ vm) (w5.setCell ⟨g,3,none⟩ vm)∧Wrote g w5 (w5.setCell ⟨g,3,none⟩ vm)):=⟨hb.set 3 vm,Wrote.set g 3 w5 vm⟩
   have HF:Hid (BdP nm ls g w (.returned (.bool true)) (w5.setCell ⟨g,3,none⟩ vm)):=by
    refine⟨(Chg.of_below b5).trans (Chg.of_wrote HS.out.2),.inl ⟨_,by rw[HBd2.out,if_pos hall],rfl,vm,HS.out.1,fun W hW=>?_⟩⟩
    exact msR_name (hMs _ (((Chg.of_wrote HS.out.2).mono fun k _ e=>by omega).trans hW)) rfl
   obtain⟨am,cm,em⟩:∃a n c,vm=.slice a n c:=by
    obtain⟨a,c,e, -⟩:=(hMs _ (Chg.refl _ _)).form
    exact⟨a,_,c,e⟩
   obtain⟨cm,em⟩:=em
   subst em
   clear hMs b5 hb HS hall
   go_wp2
   go_ret
   exact HF.out
  ·replace hb:=hb.kept b5
   have c3:w5.cell? ⟨g,3,none⟩=some (.slice none 0 0):=hb.cell 3
   have f3:=hb.free 3
   have HF:Hid (BdP nm ls g w (.returned (.bool false)) (w5.setCell ⟨g,3,none⟩ (.slice none 0 0))):=
    ⟨(Chg.of_below b5).trans (Chg.of_wrote (Wrote.set g 3 w5 _)),.inr ⟨by rw[HBd2.out,if_neg (by rw[hall];simp)],rfl⟩⟩
   clear b5 hb hall
   go_wp2
   go_ret
   exact HF.out
 ·obtain⟨k,hk⟩:∃k:Nat,E=(k:Int):=⟨E.toNat,by omega⟩
  subst hk
  have hkl:k<n:=by have:=HN.out;omega
  have HBd2:Hid (bdF nm ls=if kfB (ls.take k)&&(ls.drop (k+1)).all msgB then some ⟨nm,kfI (ls.take k) 2,kfR (ls.take k) 2,mgL (ls.drop (k+1))⟩ else none):=by show _=_;rw[HBd.out,if_neg hE1,Int.toNat_natCast]
  have hk0:decide ((0:Int)≤(k:Int))=true:=decide_eq_true (by omega)
  have hk1:(0:Int)≤(k:Int):=by omega
  have HRh:Hid (RdC w (.slice a k c) (stC (ls.take k))):=by
   have:=headC HR0.out (m:=k) (by omega)
   rw[show(stC ls).take k=stC (ls.take k) by simp[stC,List.map_take]] at this
   exact this
  clear HBd hge hlt2 hE1
  go_wp2_with (refine wpList_valP rfl (headS (L:=n) (m:=k) (.tmp 13) (.tmp 14) rfl rfl rfl (by omega) h1 HM2.out.1 HM2.out.2) ?_)
  refine(readKnown_any (ls.take k) _ (by rw[List.length_take];have:=HX.out.1;omega) (fun x hx=>HX.out.2 x (List.mem_of_mem_take hx)) _ HRh.out (HT.out _ (Chg.refl _ _))).mono ?_
  rintro e w3 ⟨rfl,b3⟩
  replace hb:=hb.kept b3
  obtain⟨KI,hKI⟩:∃b,b=kfI (ls.take k) 2:=⟨_,rfl⟩
  obtain⟨KR,hKR⟩:∃b,b=kfR (ls.take k) 2:=⟨_,rfl⟩
  obtain⟨KB,hKB⟩:∃b,b=kfB (ls.take k):=⟨_,rfl⟩
  rw[←hKI,←hKR,←hKB] at HBd2
  rw[←hKI,←hKR,←hKB]
  clear hKI hKR hKB HRh
  go_wp2_with (refine wpList_store_part rfl 22 _ _ rfl rfl [.bool KI,.bool KR] rfl [.string ⟨nm.toArray⟩] [.bool false,.bool false] [.slice none 0 0] (paC ⟨nm,KI,KR,[]⟩ (.slice none 0 0)) hb rfl rfl rfl rfl info2b (oneBB _ _) ?_)
  intro w4 r4 hw4
  have HC4:Hid (Chg (fun b=>b=g) w w4):=(Chg.of_below b3).trans (Chg.of_wrote hw4)
  obtain⟨m,hm⟩:∃m:Nat,m=k+1:=⟨_,rfl⟩
  have HMi:Hid (((k:Int)+1)=(m:Int)):=by show _=_;omega
  obtain⟨a',hrun,hrd⟩:=tailS (ab:=a) (L:=n) (cb:=c) (m:=m) (by omega) h1 HM2.out.1 HM2.out.2
  have HRt:Hid (∀W,Chg (fun b=>b=g) w W→RdC W (.slice a' (n - m) (c - m)) (stC (ls.drop m))):=by
   show ∀W,_
   intro W hW
   have:=hrd W _ (HR.out W hW)
   rw[show(stC ls).drop m=stC (ls.drop m) by simp[stC,List.map_drop]] at this
   exact this
  rw[←hm] at HBd2
  have hc1:=HM2.out.1
  unfold maxLen at hc1
  clear hb b3 hw4 hrd hm
  cases KB with
  |false=>
   have HF:Hid (BdP nm ls g w (.returned (.bool false)) w4):=⟨HC4.out,.inr ⟨by rw[HBd2.out];rfl,rfl⟩⟩
   go_wp2_with (refine wpList_valP rfl (hrun (.tmp 21) (.tmp 23) rfl rfl (congrArg (Value.int .i64) HMi.out)) ?_)
   go_ret
   exact HF.out
  |true=>
   have HBd3:Hid (bdF nm ls=if (ls.drop (m)).all msgB then some ⟨nm,KI,KR,mgL (ls.drop (m))⟩ else none):=by show _=_;rw[HBd2.out];rfl
   go_wp2_with (refine wpList_valP rfl (hrun (.tmp 21) (.tmp 23) rfl rfl (congrArg (Value.int .i64) HMi.out)) ?_)
   refine(readMessages_any (ls.drop (m)) _ (by rw[List.length_drop];have:=HX.out.1;omega) (fun x hx=>HX.out.2 x (List.mem_of_mem_drop hx)) _ (HRt.out _ HC4.out) (HT.out _ HC4.out)).mono ?_
   have hlt4:=r4.lt
   rintro e w5 (⟨hall,vm,rfl,hMs,b5⟩|⟨hall,rfl,b5⟩)
   ·replace r4:=r4.kept b5
    have c3:w5.cell? ⟨g,3,none⟩=some (.slice none 0 0):=r4.cell 3
    have f3:=r4.free 3
    have HS:Hid (BlkAt g 25 (paC ⟨nm,KI,KR,mgL (ls.drop (m))⟩ vm) (w5.setCell ⟨g,3,none⟩ vm)∧Wrote g w5 (w5.setCell ⟨g,3,none⟩ vm)):=⟨r4.set 3 vm,Wrote.set g 3 w5 vm⟩
    have HF:Hid (BdP nm ls g w (.returned (.bool true)) (w5.setCell ⟨g,3,none⟩ vm)):=by
     refine⟨(HC4.out.trans (Chg.of_below b5)).trans (Chg.of_wrote HS.out.2),.inl ⟨_,by rw[HBd3.out,if_pos hall],rfl,vm,HS.out.1,fun W hW=>?_⟩⟩
     have hsz:=HC4.out.size
     exact msR_name (hMs _ (((Chg.of_wrote HS.out.2).mono fun k _ e=>by omega).trans (hW.mono fun k _ e=>by omega))) rfl
    obtain⟨am,nm2,cm,em⟩:∃a n c,vm=.slice a n c:=by
     obtain⟨a,c,e, -⟩:=(hMs _ (Chg.refl _ _)).form
     exact⟨a,_,c,e⟩
    subst em
    clear hMs b5 r4 HS hall
    go_wp2
    go_ret
    exact HF.out
   ·replace r4:=r4.kept b5
    have c3:w5.cell? ⟨g,3,none⟩=some (.slice none 0 0):=r4.cell 3
    have f3:=r4.free 3
    have HF:Hid (BdP nm ls g w (.returned (.bool false)) (w5.setCell ⟨g,3,none⟩ (.slice none 0 0))):=
     ⟨(HC4.out.trans (Chg.of_below b5)).trans (Chg.of_wrote (Wrote.set g 3 w5 _)),.inr ⟨by rw[HBd3.out,if_neg (by rw[hall];simp)],rfl⟩⟩
    clear b5 r4 hall
    go_wp2
    go_ret
    exact HF.out
def rdF15 (ls:List (List UInt8)):Option Ptn:=
 if ls=[] then none
 else if nmE (ls.getD 0 [])=false then none
 else (bdF (nmX (ls.getD 0 [])) (ls.drop 1)).bind fun q=>if wrB q then some q else none
def psO:Option Ptn→Ptn×Int
 |none=>(zeP,20)
 |some q=>(q,0)
def psQ (s:List UInt8):Ptn×Int:=if 4096<s.length then (zeP,1) else psO (rdF15 (lnS s))
theorem bdF_name {nm:List UInt8} {ls:List (List UInt8)} {q:Ptn} (h:bdF nm ls=some q):q.name=nm:=by
 unfold bdF at h
 split at h
 ·split at h
  ·simp only[Option.some.injEq] at h
   rw[←h]
  ·cases h
 ·split at h
  ·simp only[Option.some.injEq] at h
   rw[←h]
  ·cases h
theorem allocPa (w:World):(Instr.alloc 25 true (.tuple #[])).run Tryz.prog w=.ok (.pointer (some ⟨w.heap.size,0,none⟩)) (w.alloc (.cells (paC zeP (.slice none 0 0)).toArray 25)):=by kernel_rfl
theorem buildPa (w:World):(Instr.build 25 #[]).run Tryz.prog w=.ok (.agg (paC zeP (.slice none 0 0)).toArray) w:=by kernel_rfl
theorem buildPn (S:ByteArray) (w:World):(Instr.build 25 #[(0,.string S)]).run Tryz.prog w=.ok (.agg #[.string S,.bool false,.bool false,.slice none 0 0]) w:=by kernel_rfl
theorem paC_all (p:Ptn) (a:Option Addr) (n c:Nat):(paC p (.slice a n c)).toArray.all (·.oneCell')=true:=all_oneCell_toArray (by
 intro v hv
 simp only[paC,List.mem_cons,List.not_mem_nil,or_false] at hv
 rcases hv with rfl|rfl|rfl|rfl<;>rfl)
theorem zeP_ms (w:World):MsR w (.slice none 0 0) zeP:=⟨none,0,rfl,Nat.le_refl _,by simp[maxLen],.inl rfl⟩
theorem ms_form {w:World} {v:Value} {p:Ptn} (h:MsR w v p):∃a n c,v=.slice a n c:=by
 obtain⟨a,c,e, -⟩:=h.form
 exact⟨a,_,c,e⟩
theorem TkT.chg {w W:World} {g:Nat} (h:TkT w) (c:Chg (fun b=>b=g) w W) (hk:1≠g∧0≠g∧3≠g):TkT W:=
 ⟨fun i hi=>cell_chg c (h.words i hi) hk.1,cell_chg c h.ar0 hk.2.1,cell_chg c h.ar1 hk.2.1,h.mx.imp fun m hm=>cell_chg c hm hk.2.2⟩
theorem TkT.lt {w:World} (h:TkT w):1<w.heap.size∧0<w.heap.size∧3<w.heap.size:=
 ⟨World.block_lt_of_cell? _ _ (h.words 0 (by omega)),World.block_lt_of_cell? _ _ h.ar0,by obtain⟨m,hm⟩:=h.mx;exact World.block_lt_of_cell? _ _ hm⟩
theorem wpList_valW {P:Program} {ops:Array Oper} {rest:List Oper} {op:Oper} {a:Act} {w:World} {Q:Exit→Act→World→Prop} {v:Value} (hy:(execOp a.eval op).run P w=.ok (.value v) w) (hw:Region.wanted op (yielded ops a.tmps)=true)
  (h:wpList P ops Q rest (a.put op.dst v) w):wpList P ops Q (op :: rest) a w:=by
 refine wpList_step fun K hK=>?_
 rw[if_pos hw]
 unfold Oper.wp
 rw[hy]
 exact hK _ _ h
def RdP (ls:List (List UInt8)) (w:World) (e:Ending) (w':World):Prop:=
 Below w.heap.size w w'∧((∃q vm,rdF15 ls=some q∧e=.returned (.tuple #[.agg (paC q vm).toArray,.bool true])∧∀W,Chg (fun b=>b<w.heap.size) w' W→MsR W vm q)∨(rdF15 ls=none∧e=.returned (.tuple #[.agg (paC zeP (.slice none 0 0)).toArray,.bool false])))

set_option maxRecDepth 100000 in
set_option maxHeartbeats 8000000 in
theorem read15_any (ls:List (List UInt8)) (v:Value) (hls:ls.length≤4097) (hx:∀x∈ls,x.length≤4096) (w0 w:World) (hO:OwnG w0 [Rw.st v ls] w) (hT:TkT w):
  Calls Tryz.prog 33 #[v] w fun e w'=>RdP ls w e w':=by
 obtain⟨a,c,rfl,h1,h2,h3⟩:=st_len (hO.rdC rfl)
 obtain⟨n,hn⟩:∃n:Nat,n=ls.length:=⟨_,rfl⟩
 have HN:Hid (n=ls.length):=hn
 replace hO:OwnG w0 [⟨9,1,.slice a n c,n,stC ls⟩] w:=by rw[hn];exact hO
 rw[←hn] at h1 ⊢
 have HO:Hid (OwnG w0 [⟨9,1,.slice a n c,n,stC ls⟩] w):=hO
 have HT:Hid (TkT w):=hT
 have HX:Hid (ls.length≤4097∧∀x∈ls,x.length≤4096):=⟨hls,hx⟩
 have HM2:Hid (c≤maxLen∧(a=none→c=0)):=⟨h2,h3⟩
 clear hO hT hls hx hn h2 h3
 go_enter Tryz.func33,Tryz.ntmps33
 go_wp2_with (refine wpList_alloc_blk rfl 25 rfl (paC zeP (.slice none 0 0)) (allocPa _) ?_)
 intro w1 r1 b1 s1
 have HT1:Hid (TkT w1):=HT.out.kept b1
 have HO1:Hid (OwnG w0 [⟨9,1,.slice a n c,n,stC ls⟩] w1):=HO.out.kept b1
 have HB1:Hid (Below w.heap.size w w1):=b1
 obtain⟨g2,hg2⟩:∃g:Nat,g=w.heap.size:=⟨_,rfl⟩
 rw[←hg2] at r1 ⊢
 have HG2:Hid (g2=w.heap.size):=hg2
 clear b1 s1 HT hg2
 by_cases hn0:n=0
 ·have HE:Hid (rdF15 ls=none):=by
   show _=_
   unfold rdF15
   rw[if_pos (List.eq_nil_of_length_eq_zero (by rw[←HN.out];exact hn0))]
  subst hn0
  have bp:=fun w=>buildPa w
  go_wp2_with (refine wpList_store_part rfl 25 _ _ rfl rfl (paC zeP (.slice none 0 0)) rfl [] (paC zeP (.slice none 0 0)) [] (paC zeP (.slice none 0 0)) r1 (whole15 _) (whole15 _) rfl rfl (paInfo _ _) (paC_all _ _ _ _) ?_)
  intro w3 r3 hw3
  have HB3:Hid (Below w.heap.size w w3):=hw3.below _ _ (by have:=HG2.out;omega) HB1.out
  go_wp2
  refine bodyPost_blk2 rfl rfl rfl rfl r3 Tryz.underlying25 rfl (paInfo _ _) ?_
  exact⟨HB3.out,.inr ⟨HE.out,rfl⟩⟩
 ·have d1:((n:Int)==0)=false:=by
   have:¬(n:Int)=0:=by omega
   simpa using this
  have d2:¬(n:Int)=0:=by omega
  have d3:(0:Int)<(n:Int):=by omega
  have HIn:Hid (0<ls.length):=by show _<_;have:=HN.out;omega
  obtain⟨b,off,rfl,g1⟩:=st_at (HO1.out.rdC rfl) HIn.out
  have g1':w1.cell? ⟨b,off,none⟩=some (.string ⟨(ls.getD 0 []).toArray⟩):=g1
  obtain⟨x,hx⟩:∃x:List UInt8,x=ls.getD 0 []:=⟨_,rfl⟩
  rw[←hx] at g1'
  have hxl:x.length≤4096:=HX.out.2 x (by rw[hx];have:=HIn.out;simp[this])
  have HRd:Hid (rdF15 ls=if nmE x=false then none else (bdF (nmX x) (ls.drop 1)).bind fun q=>if wrB q then some q else none):=by
   show _=_
   unfold rdF15
   rw[if_neg (fun e=>by have:=HIn.out;rw[e] at this;simp at this),←hx]
  have HC:Hid (∀W:World,Calls Tryz.prog 84 #[.string ⟨x.toArray⟩] W fun e w'=>e=.returned (.tuple #[.string ⟨(nmX x).toArray⟩,.bool (nmE x)])∧Below W.heap.size W w'):=fun W=>readName_any x hxl W
  have HNl:Hid ((nmX x).length≤4096):=Nat.le_trans (nmX_len x) hxl
  generalize (⟨x.toArray⟩:ByteArray)=XB at g1' HC
  clear hx g1 hxl
  go_wp2_with fail
  refine(HC.out _).mono ?_
  rintro e w3 ⟨rfl,b3⟩
  obtain⟨NM,hNM⟩:∃l:List UInt8,l=nmX x:=⟨_,rfl⟩
  obtain⟨z,hz⟩:∃z:Bool,z=nmE x:=⟨_,rfl⟩
  rw[←hNM,←hz] at HRd ⊢
  rw[←hNM] at HNl
  obtain⟨SB,hSB⟩:∃B:ByteArray,B=⟨NM.toArray⟩:=⟨_,rfl⟩
  rw[←hSB]
  have HSB:Hid (SB=⟨NM.toArray⟩):=hSB
  have HT3:Hid (TkT w3):=HT1.out.kept b3
  have HO3:Hid (OwnG w0 [⟨9,1,.slice (some ⟨b,off,none⟩) n c,n,stC ls⟩] w3):=HO1.out.kept b3
  have HB3:Hid (Below w.heap.size w w3):=stepB HB1.out b3
  have HR3:Hid (BlkAt g2 25 (paC zeP (.slice none 0 0)) w3):=r1.kept b3
  have bp:=fun w=>buildPn SB w
  have HPe:Hid (paC ⟨NM,false,false,[]⟩ (.slice none 0 0)=[.string SB,.bool false,.bool false,.slice none 0 0]):=by show _=_;rw[hSB];rfl
  clear HC g1' b3 r1 hNM hz hSB HT1 HO1 HB1
  go_wp2_with (refine wpList_alloc_blk rfl 25 rfl (paC zeP (.slice none 0 0)) (allocPa _) ?_)
  intro w4 r4 b4 s4
  have r6':=HR3.out.kept b4
  obtain⟨g6,hg6⟩:∃g:Nat,g=w3.heap.size:=⟨_,rfl⟩
  rw[←hg6] at r4 ⊢
  have hne26:g2≠g6:=by have:=HR3.out.lt;omega
  have hg6w:w.heap.size≤g6:=by have:=HB3.out.size;omega
  have HLtT:Hid (1≠g6∧0≠g6∧3≠g6):=by have:=HT3.out.lt;show _∧_;omega
  have hg60:w0.heap.size≤g6:=by have:=HO3.out.below.size;omega
  have HO4:=HO3.out.kept b4
  have HLo:Hid (∀q∈([⟨9,1,.slice (some ⟨b,off,none⟩) n c,n,stC ls⟩]:List Rw),∀b,q.v.ownBlock=some b→b≠g6):=fun q hq b hb=>by have:=HO3.out.lt q hq b hb;omega
  clear hg6
  go_wp2_with (refine wpList_store_part rfl 25 _ _ rfl rfl [.string SB,.bool false,.bool false,.slice none 0 0] rfl [] (paC zeP (.slice none 0 0)) [] (paC ⟨NM,false,false,[]⟩ (.slice none 0 0)) r4 (whole15 _) (by rw[HPe.out];rfl) rfl rfl (paInfo _ _) (by rw[←HPe.out];exact paC_all _ _ _ _) ?_)
  intro w5 r5 hw5
  have HT5:Hid (TkT w5):=(HT3.out.kept b4).chg (Chg.of_wrote hw5) HLtT.out
  have HO5:Hid (OwnG w0 [⟨9,1,.slice (some ⟨b,off,none⟩) n c,n,stC ls⟩] w5):=HO4.wrote hw5 hg60 HLo.out
  have HR5:Hid (BlkAt g2 25 (paC zeP (.slice none 0 0)) w5):=r6'.wrote hw5 hne26
  have HB5:Hid (Below w.heap.size w w5):=hw5.below _ _ hg6w (stepB HB3.out b4)
  clear r4 b4 s4 hw5 r6' HO4 HT3 HO3 HR3 HB3
  cases z with
  |false=>
   have HE:Hid (rdF15 ls=none):=by show _=_;rw[HRd.out,if_pos rfl]
   have bp0:=fun w=>buildPa w
   clear r5
   go_wp2_with (refine wpList_store_part rfl 25 _ _ rfl rfl (paC zeP (.slice none 0 0)) rfl [] (paC zeP (.slice none 0 0)) [] (paC zeP (.slice none 0 0)) HR5.out (whole15 _) (whole15 _) rfl rfl (paInfo _ _) (paC_all _ _ _ _) ?_)
   intro w7 r7 hw7
   have HB7:Hid (Below w.heap.size w w7):=hw7.below _ _ (by have:=HG2.out;omega) HB5.out
   go_wp2
   refine bodyPost_blk2 rfl rfl rfl rfl r7 Tryz.underlying25 rfl (paInfo _ _) ?_
   exact⟨HB7.out,.inr ⟨HE.out,rfl⟩⟩
  |true=>
   have HRd2:Hid (rdF15 ls=(bdF NM (ls.drop 1)).bind fun q=>if wrB q then some q else none):=by show _=_;rw[HRd.out,if_neg (by simp)]
   obtain⟨a',hrun,hrd⟩:=tailS (ab:=some ⟨b,off,none⟩) (L:=n) (cb:=c) (m:=1) (by omega) h1 HM2.out.1 HM2.out.2
   have HRt:Hid (∀W,Chg (fun b=>b=g6) w5 W→RdC W (.slice a' (n - 1) (c - 1)) (stC (ls.drop 1))):=by
    show ∀W,_
    intro W hW
    have h5:=own_chgG (HO5.out.rows _ (List.mem_cons_self ..)) hW (fun b hb e=>HLo.out _ (List.mem_cons_self ..) b hb e)
    have:=hrd W _ (RdC.of_own h5)
    rw[show(stC ls).drop 1=stC (ls.drop 1) by simp[stC,List.map_drop]] at this
    exact this
   have HTt:Hid (∀W,Chg (fun b=>b=g6) w5 W→TkT W):=fun W hW=>HT5.out.chg hW HLtT.out
   clear hrd
   go_wp2_with (refine wpList_valW (hrun (.tmp 23) (.const (.int .i64 1)) rfl rfl rfl) (by go_simp;done) ?_)
   refine(readBody_any NM (ls.drop 1) _ g6 (by rw[List.length_drop];have:=HX.out.1;omega) (fun x hx=>HX.out.2 x (List.mem_of_mem_drop hx)) _ r5 HRt.out HTt.out).mono ?_
   rintro e w6 ⟨hC6,hcase⟩
   have HR6:Hid (BlkAt g2 25 (paC zeP (.slice none 0 0)) w6):=HR5.out.chg hC6 hne26
   have HB6:Hid (Below w.heap.size w w6):=Chg.below HB5.out hC6 HB5.out.size (fun k _ e=>by omega)
   rcases hcase with ⟨q,hq,rfl,vm,r6,hM6⟩|⟨hq,rfl⟩
   ·have HQ:Hid (rdF15 ls=if wrB q then some q else none):=by show _=_;rw[HRd2.out,hq];rfl
    have hqn:q.name.length≤maxLen:=by rw[bdF_name hq];have:=HNl.out;unfold maxLen;omega
    obtain⟨am,nm',cm,rfl⟩:=ms_form (hM6 _ (Chg.refl _ _))
    have HM6:Hid (∀W,Chg (fun b=>b<w5.heap.size) w6 W→MsR W (.slice am nm' cm) q):=hM6
    clear hq hM6 hC6 r5
    go_wp2_with (refine wpList_loadG 25 _ rfl rfl (paC q (.slice am nm' cm)) r6 Tryz.underlying25 rfl (paInfo q _) (by go_simp;done) ?_)
    refine(writable_any q _ _ rfl hqn _ (HM6.out _ (Chg.refl _ _))).mono ?_
    rintro e w7 ⟨rfl,b7⟩
    replace r6:=r6.kept b7
    have HR7:Hid (BlkAt g2 25 (paC zeP (.slice none 0 0)) w7):=HR6.out.kept b7
    have HB7:Hid (Below w.heap.size w w7):=stepB HB6.out b7
    have HM7:Hid (∀W,Chg (fun b=>b<w5.heap.size) w7 W→MsR W (.slice am nm' cm) q):=fun W hW=>HM6.out W ((Chg.of_below b7).trans hW)
    obtain⟨y,hy⟩:∃y:Bool,y=wrB q:=⟨_,rfl⟩
    rw[←hy] at HQ ⊢
    clear hy b7 HR6 HB6 HM6
    cases y with
    |false=>
     have HE:Hid (rdF15 ls=none):=by show _=_;rw[HQ.out];rfl
     have bp0:=fun w=>buildPa w
     clear r6
     go_wp2_with (refine wpList_store_part rfl 25 _ _ rfl rfl (paC zeP (.slice none 0 0)) rfl [] (paC zeP (.slice none 0 0)) [] (paC zeP (.slice none 0 0)) HR7.out (whole15 _) (whole15 _) rfl rfl (paInfo _ _) (paC_all _ _ _ _) ?_)
     intro w8 r8 hw8
     have HB8:Hid (Below w.heap.size w w8):=hw8.below _ _ (by have:=HG2.out;omega) HB7.out
     go_wp2
     refine bodyPost_blk2 rfl rfl rfl rfl r8 Tryz.underlying25 rfl (paInfo _ _) ?_
     exact⟨HB8.out,.inr ⟨HE.out,rfl⟩⟩
    |true=>
     have HE:Hid (rdF15 ls=some q):=by show _=_;rw[HQ.out];rfl
     go_wp2_with (first
      |refine wpList_load_part rfl 25 _ rfl rfl [] (paC q (.slice am nm' cm)) [] r6 (whole15 _) rfl Tryz.underlying25 rfl (paInfo q _) ?_
      |refine wpList_store_part rfl 25 _ _ rfl rfl (paC q (.slice am nm' cm)) rfl [] (paC zeP (.slice none 0 0)) [] (paC q (.slice am nm' cm)) HR7.out (whole15 _) (whole15 _) rfl rfl (paInfo zeP (.slice none 0 0)) (paC_all _ _ _ _) ?_)
     intro w8 r8 hw8
     have HB8:Hid (Below w.heap.size w w8):=hw8.below _ _ (by have:=HG2.out;omega) HB7.out
     have HM8:Hid (∀W,Chg (fun b=>b<w.heap.size) w8 W→MsR W (.slice am nm' cm) q):=by
      show ∀W,_
      intro W hW
      have h5:=HB5.out.size
      have h6:=HR5.out.lt
      exact HM7.out W (((Chg.of_wrote hw8).mono fun k _ e=>by omega).trans (hW.mono fun k _ e=>by omega))
     go_wp2
     refine bodyPost_blk2 rfl rfl rfl rfl r8 Tryz.underlying25 rfl (paInfo _ _) ?_
     exact⟨HB8.out,.inl ⟨q,_,HE.out,rfl,HM8.out⟩⟩
   ·have HE:Hid (rdF15 ls=none):=by show _=_;rw[HRd2.out,hq];rfl
    have bp0:=fun w=>buildPa w
    clear r5 hC6
    go_wp2_with (refine wpList_store_part rfl 25 _ _ rfl rfl (paC zeP (.slice none 0 0)) rfl [] (paC zeP (.slice none 0 0)) [] (paC zeP (.slice none 0 0)) HR6.out (whole15 _) (whole15 _) rfl rfl (paInfo _ _) (paC_all _ _ _ _) ?_)
    intro w8 r8 hw8
    have HB8:Hid (Below w.heap.size w w8):=hw8.below _ _ (by have:=HG2.out;omega) HB6.out
    go_wp2
    refine bodyPost_blk2 rfl rfl rfl rfl r8 Tryz.underlying25 rfl (paInfo _ _) ?_
    exact⟨HB8.out,.inr ⟨HE.out,rfl⟩⟩
theorem mkf17 (fn:Fn) (first cap:Array Value) (w:World):(Instr.makeFunc fn first cap).run Tryz.prog w=.ok (.func fn first cap) w:=rfl
theorem boxP17 (a:Option Addr) (w:World):(Instr.box 33 (.pointer a)).run Tryz.prog w=.ok (.pointer (some ⟨w.heap.size,0,none⟩)) (w.alloc (.cells #[.pointer a] 33)):=rfl
theorem boxS17 (a:Option Addr) (n c:Nat) (w:World):(Instr.box 26 (.slice a n c)).run Tryz.prog w=.ok (.pointer (some ⟨w.heap.size,0,none⟩)) (w.alloc (.cells #[.slice a n c] 26)):=rfl
theorem allocS17 (w:World):(Instr.alloc 26 true (.tuple #[])).run Tryz.prog w=.ok (.pointer (some ⟨w.heap.size,0,none⟩)) (w.alloc (.cells ([.slice none 0 0]:List Value).toArray 26)):=by kernel_rfl
def noA:List Value:=[.nilFunc,.nilFunc,.nilFunc,.nilFunc,.nilFunc,.nilFunc]
theorem allocA17 (w:World):(Instr.alloc 91 true (.tuple #[])).run Tryz.prog w=.ok (.pointer (some ⟨w.heap.size,0,none⟩)) (w.alloc (.cells noA.toArray 91)):=by kernel_rfl
theorem allocF1 (w:World):(Instr.alloc 127 true (.tuple #[])).run Tryz.prog w=.ok (.pointer (some ⟨w.heap.size,0,none⟩)) (w.alloc (.cells ([.nilFunc]:List Value).toArray 127)):=by kernel_rfl
theorem allocF2 (w:World):(Instr.alloc 128 true (.tuple #[])).run Tryz.prog w=.ok (.pointer (some ⟨w.heap.size,0,none⟩)) (w.alloc (.cells ([.nilFunc]:List Value).toArray 128)):=by kernel_rfl
theorem allocF3 (w:World):(Instr.alloc 69 true (.tuple #[])).run Tryz.prog w=.ok (.pointer (some ⟨w.heap.size,0,none⟩)) (w.alloc (.cells ([.nilFunc]:List Value).toArray 69)):=by kernel_rfl
theorem allocF4 (w:World):(Instr.alloc 130 true (.tuple #[])).run Tryz.prog w=.ok (.pointer (some ⟨w.heap.size,0,none⟩)) (w.alloc (.cells ([.nilFunc]:List Value).toArray 130)):=by kernel_rfl
theorem buildA17 (f0 f1 f2 f3 f4 f5:Fn) (c0 c1 c2 c3 c4 c5:Array Value) (w:World):(Instr.build 91 #[(0,.func f0 #[] c0),(1,.func f1 #[] c1),(2,.func f2 #[] c2),(3,.func f3 #[] c3),(4,.func f4 #[] c4),(5,.func f5 #[] c5)]).run Tryz.prog w=.ok (.agg ([.func f0 #[] c0,.func f1 #[] c1,.func f2 #[] c2,.func f3 #[] c3,.func f4 #[] c4,.func f5 #[] c5]:List Value).toArray) w:=by kernel_rfl
theorem infoA17:(Tryz.prog.info? 91).map (·.size)=some 6:=by kernel_rfl
theorem szF1 (w:World):(sizeOf 127).run Tryz.prog w=.ok 1 w:=by kernel_rfl
theorem szF2 (w:World):(sizeOf 128).run Tryz.prog w=.ok 1 w:=by kernel_rfl
theorem szF3 (w:World):(sizeOf 69).run Tryz.prog w=.ok 1 w:=by kernel_rfl
theorem szF4 (w:World):(sizeOf 130).run Tryz.prog w=.ok 1 w:=by kernel_rfl
set_option maxRecDepth 100000 in
theorem wpList_store_fn {ops:Array Oper} {rest:List Oper} {op:Oper} {a:Act} {w:World} {Q:Exit→Act→World→Prop} (hgd:op.guard=none) (ty:TypeId) (x y:Operand) (ho:op.op=.store ty x y) {g:Nat} (hx:a.eval x=.pointer (some ⟨g,0,none⟩)) (f:Fn) (b c:Array Value) (hy:a.eval y=.func f b c) (hsz:∀w:World,(sizeOf ty).run Tryz.prog w=.ok 1 w)
  {bt:TypeId} {old:Value} (hb:BlkAt g bt [old] w) (h:∀w',BlkAt g bt [.func f b c] w'→Wrote g w w'→wpList Tryz.prog ops Q rest (a.put op.dst undef) w'):wpList Tryz.prog ops Q (op :: rest) a w:=by
 refine wpList_plain hgd fun K hK=>?_
 have hc:w.cell? ⟨g,0,none⟩=some old:=hb.one
 have hf:=hb.free 0
 have h2:=hK _ _ (h _ (hb.set 0 _) (Wrote.set g 0 w _))
 have hst:∀m,(store ⟨g,0,none⟩ (.func f b c) m).run Tryz.prog w=.ok () (w.setCell ⟨g,0,none⟩ (.func f b c)):=fun m=>by
  rw[run_store _ _ _ _ _ rfl,hc]
  simp[hf]
 unfold Oper.wp execOp
 simp only[ho,hx,hy]
 go_simp
 exact h2
theorem Wrote.fresh {g:Nat} {w w1 w2:World} (h:Wrote g w1 w2) (hb:Below w.heap.size w w1) (hg:w.heap.size≤g):Below w.heap.size w w2:=h.below _ _ hg hb
def acW (V:WV):List Value:=[.func (.func 61) #[] #[.pointer (some ⟨V.gd,0,none⟩),.pointer (some ⟨V.gs,0,none⟩),.pointer (some ⟨V.gp,0,none⟩)],
 .func (.func 63) #[] #[.pointer (some ⟨V.gd,0,none⟩),.pointer (some ⟨V.gs,0,none⟩),.pointer (some ⟨V.gp,0,none⟩)],
 .func (.func 65) #[] #[.pointer (some ⟨V.gq,0,none⟩),.pointer (some ⟨V.gs,0,none⟩)],
 .func (.func 67) #[] #[.pointer (some ⟨V.gs,0,none⟩),.pointer (some ⟨V.gd,0,none⟩),.pointer (some ⟨V.gp,0,none⟩)],
 .func (.func 69) #[] #[.pointer (some ⟨V.gs,0,none⟩),.pointer (some ⟨V.gd,0,none⟩),.pointer (some ⟨V.gq,0,none⟩)],
 .func (.func 70) #[] #[.pointer (some ⟨V.gq,0,none⟩),.pointer (some ⟨V.gl,0,none⟩),.pointer (some ⟨V.gm,0,none⟩)]]
theorem acW_one (V:WV):(acW V).toArray.all (·.oneCell')=true:=by kernel_rfl

set_option maxRecDepth 100000 in
set_option maxHeartbeats 4000000 in
theorem writing_any (g:Nat) (vl vd:Value) (t c:List UInt8) (x0 vm:Value) (post:List Value) (vc vh vk:Value) (s:Sta) (w w0:World) (hb:Below w0.heap.size w0 w) (hg:w0.heap.size≤g) (hS:StV w0.heap.size g x0 vm post vc vh vk s w) (hp:Sls 17 post) (hl:Rd w0 vl t) (hc:Rd w0 vd c):
  Calls Tryz.prog 29 #[.pointer (some ⟨g,0,none⟩),vl,vd] w fun e w'=>∃V:WV,V.g=g∧e=.returned (.agg (acW V).toArray)∧Wr V vl w0 x0 vm s c [] w'∧Below w.heap.size w w':=by
 obtain⟨al,cl,el, -⟩:=id hl
 obtain⟨ad,cd,ed, -⟩:=id hc
 obtain⟨nl,hnl⟩:∃n:Nat,n=t.length:=⟨_,rfl⟩
 obtain⟨nd,hnd⟩:∃n:Nat,n=c.length:=⟨_,rfl⟩
 rw[←hnl] at el
 rw[←hnd] at ed
 subst el ed
 have HL:Hid (Rd w0 (.slice al nl cl) t):=hl
 have HC:Hid (Rd w0 (.slice ad nd cd) c):=hc
 have HB:Hid (Below w0.heap.size w0 w):=hb
 have HG:Hid (w0.heap.size≤g):=hg
 have HS:Hid (StV w0.heap.size g x0 vm post vc vh vk s w):=hS
 have HP:Hid (Sls 17 post):=hp
 have hmf:=mkf17
 clear hl hc hb hg hS hp hnl hnd
 go_enter Tryz.func29,Tryz.ntmps29
 go_wp2_with (refine wpList_box_val rfl 33 _ rfl (.pointer (some ⟨g,0,none⟩)) rfl (boxP17 _ _) ?_)
 intro w1 r1 b1 s1
 go_wp2_with (refine wpList_box_val rfl 26 _ rfl (.slice al nl cl) rfl (boxS17 _ _ _ _) ?_)
 intro w2 r2 b2 s2
 go_wp2_with (refine wpList_box_val rfl 26 _ rfl (.slice ad nd cd) rfl (boxS17 _ _ _ _) ?_)
 intro w3 r3 b3 s3
 go_wp2_with (refine wpList_alloc_blk rfl 91 rfl noA (allocA17 _) ?_)
 intro w4 r4 b4 s4
 go_wp2_with (refine wpList_alloc_blk rfl 26 rfl [.slice none 0 0] (allocS17 _) ?_)
 intro w5 r5 b5 s5
 obtain⟨gs,hgs⟩:∃n:Nat,n=w.heap.size:=⟨_,rfl⟩
 obtain⟨gl,hgl⟩:∃n:Nat,n=w1.heap.size:=⟨_,rfl⟩
 obtain⟨gc,hgc⟩:∃n:Nat,n=w2.heap.size:=⟨_,rfl⟩
 obtain⟨ga,hga⟩:∃n:Nat,n=w3.heap.size:=⟨_,rfl⟩
 obtain⟨gm,hgm⟩:∃n:Nat,n=w4.heap.size:=⟨_,rfl⟩
 have q1:BlkAt gs 33 [.pointer (some ⟨g,0,none⟩)] w5:=by rw[hgs];exact(((r1.kept b2).kept b3).kept b4).kept b5
 have q2:BlkAt gl 26 [.slice al nl cl] w5:=by rw[hgl];exact((r2.kept b3).kept b4).kept b5
 have q3:BlkAt gc 26 [.slice ad nd cd] w5:=by rw[hgc];exact(r3.kept b4).kept b5
 have q4:BlkAt ga 91 noA w5:=by rw[hga];exact r4.kept b5
 have q5:BlkAt gm 26 [.slice none 0 0] w5:=by rw[hgm];exact r5
 have bw:Below w.heap.size w w5:=stepB (stepB (stepB (stepB b1 b2) b3) b4) b5
 have HO:Hid (gs<gl∧gl<gc∧gc<ga∧ga<gm∧w.heap.size≤gs):=by
  have:=s1.out;have:=s2.out;have:=s3.out;have:=s4.out
  refine⟨?_,?_,?_,?_,?_⟩<;>omega
 rw[←hgs,←hgl,←hgc,←hga,←hgm]
 clear r1 r2 r3 r4 r5 b1 b2 b3 b4 b5 s1 s2 s3 s4 s5 hgs hgl hgc hga hgm
 go_wp2_with (refine wpList_alloc_blk rfl 127 rfl [.nilFunc] (allocF1 _) ?_)
 intro w6 r6 b6 s6
 obtain⟨gp,hgp⟩:∃n:Nat,Hid (n=w5.heap.size):=⟨_,rfl⟩
 rw[←hgp.out] at r6 ⊢
 have HGp:Hid (w.heap.size≤gp):=by show _≤_;rw[hgp.out];exact bw.size
 go_wp2_with (refine wpList_store_fn rfl 127 _ _ rfl rfl (.func 57) #[] #[.pointer (some ⟨gm,0,none⟩)] rfl szF1 r6 ?_)
 intro w7 r7 hw7
 have n7:∀{k ty cs},BlkAt k ty cs w5→BlkAt k ty cs w7:=fun {k ty cs} h=>(h.kept b6).wrote hw7 (by have:=h.lt;have:=hgp.out;omega)
 have q1':=n7 q1
 have q2':=n7 q2
 have q3':=n7 q3
 have q4':=n7 q4
 have q5':=n7 q5
 have bw7:Below w.heap.size w w7:=hw7.fresh (stepB bw b6) HGp.out
 clear n7 q1 q2 q3 q4 q5 bw r6 b6 s6 hw7 hgp
 go_wp2_with (refine wpList_alloc_blk rfl 128 rfl [.nilFunc] (allocF2 _) ?_)
 intro w8 r8 b8 s8
 obtain⟨gq,hgq⟩:∃n:Nat,Hid (n=w7.heap.size):=⟨_,rfl⟩
 rw[←hgq.out] at r8 ⊢
 have HGq:Hid (w.heap.size≤gq):=by show _≤_;rw[hgq.out];exact bw7.size
 go_wp2_with (refine wpList_store_fn rfl 128 _ _ rfl rfl (.func 58) #[] #[.pointer (some ⟨gs,0,none⟩),.pointer (some ⟨gp,0,none⟩)] rfl szF2 r8 ?_)
 intro w9 r9 hw9
 have n9:∀{k ty cs},BlkAt k ty cs w7→BlkAt k ty cs w9:=fun {k ty cs} h=>(h.kept b8).wrote hw9 (by have:=h.lt;have:=hgq.out;omega)
 have q1:=n9 q1'
 have q2:=n9 q2'
 have q3:=n9 q3'
 have q4:=n9 q4'
 have q5:=n9 q5'
 have q6:=n9 r7
 have bw9:Below w.heap.size w w9:=hw9.fresh (stepB bw7 b8) HGq.out
 clear n9 q1' q2' q3' q4' q5' r7 bw7 r8 b8 s8 hw9 hgq
 go_wp2_with (refine wpList_alloc_blk rfl 69 rfl [.nilFunc] (allocF3 _) ?_)
 intro wa ra ba sa
 obtain⟨gd,hgd⟩:∃n:Nat,Hid (n=w9.heap.size):=⟨_,rfl⟩
 rw[←hgd.out] at ra ⊢
 have HGd:Hid (w.heap.size≤gd):=by show _≤_;rw[hgd.out];exact bw9.size
 go_wp2_with (refine wpList_store_fn rfl 69 _ _ rfl rfl (.func 60) #[] #[.pointer (some ⟨gc,0,none⟩)] rfl szF3 ra ?_)
 intro wb rb hwb
 have nb:∀{k ty cs},BlkAt k ty cs w9→BlkAt k ty cs wb:=fun {k ty cs} h=>(h.kept ba).wrote hwb (by have:=h.lt;have:=hgd.out;omega)
 have q1':=nb q1
 have q2':=nb q2
 have q3':=nb q3
 have q4':=nb q4
 have q5':=nb q5
 have q6':=nb q6
 have q7':=nb r9
 have bwb:Below w.heap.size w wb:=hwb.fresh (stepB bw9 ba) HGd.out
 clear nb q1 q2 q3 q4 q5 q6 r9 bw9 ra ba sa hwb hgd
 obtain⟨V,hV⟩:∃V:WV,V=⟨g,gs,gl,gc,gm,gp,gq,gd⟩:=⟨_,rfl⟩
 have HA:Hid (acW V=acW ⟨g,gs,gl,gc,gm,gp,gq,gd⟩):=congrArg acW hV
 go_wp2_with (first
  |refine wpList_buildB rfl 91 _ rfl _ (by go_simp;rfl) _ (buildA17 _ _ _ _ _ _ _ _ _ _ _ _ _) ?_
  |(refine wpList_store_part rfl 91 _ _ rfl rfl (acW ⟨g,gs,gl,gc,gm,gp,gq,gd⟩) rfl [] noA [] (acW ⟨g,gs,gl,gc,gm,gp,gq,gd⟩) q4' rfl rfl rfl rfl infoA17 (acW_one _) ?_;intro wc rc hwc))
 refine bodyPost_blk rfl rfl rfl rc Tryz.underlying91 rfl infoA17 ?_
 have nc:∀{k ty cs},BlkAt k ty cs wb→ty≠91→BlkAt k ty cs wc:=fun {k ty cs} h hne=>h.wrote hwc (blk_ne h q4' hne)
 have bwc:Below w.heap.size w wc:=hwc.fresh bwb (by have:=HO.out;omega)
 have cz:Chg (fun _=>False) w wc:=Chg.of_below bwc
 refine⟨⟨g,gs,gl,gc,gm,gp,gq,gd⟩,rfl,rfl,⟨⟨nc q1' (by decide),nc q2' (by decide),nc q6' (by decide),nc q7' (by decide),nc rb (by decide)⟩,⟨HG.out,?_,?_,?_,?_,?_⟩,post,vc,vh,vk,.slice none 0 0,.slice ad nd cd,⟨HS.out.kept bwc,HP.out,nc q5' (by decide),Ow.nil _ _ _,?_,?_,?_,nc q3' (by decide),HC.out,stepB HB.out bwc⟩⟩,bwc⟩
 ·have:=HO.out;have:=HB.out.size;show _≤gc;omega
 ·have:=HO.out;have:=HB.out.size;show _≤gm;omega
 ·have:=HO.out;show gl≠gc;omega
 ·have:=HO.out;show gl≠gm;omega
 ·have:=HO.out;show gc≠gm;omega
 ·exact Apart.nil _
 ·exact Apart.nil _
 ·exact Apart.nil _
set_option maxRecDepth 100000 in
set_option maxHeartbeats 2000000 in
theorem hmixhash_any (base g:Nat) (x0 x1:Value) (post:List Value) (vc vh vk:Value) (s:Sta) (vb:Value) (b:List UInt8) (hl:s.h.length+b.length≤100000000) (w:World) (hbase:base≤w.heap.size) (hS:StV base g x0 x1 post vc vh vk s w) (hb:Rd w vb b) (ht:Tabs w):
  Calls Tryz.prog 106 #[.pointer (some ⟨g,0,none⟩),vb,.int .i64 0] w fun e w'=>e=.returned (.int .i64 0)∧(∃vh',StV base g x0 x1 post vc vh' vk (mhS s b) w'∧Ow 5 w.heap.size vh' (mhS s b).h w')∧Chg (fun i=>i=g) w w':=by
 have HS:Hid _:=smixhashH base g x0 x1 post vc vh vk s vb b hl w hbase hS hb ht
 clear hl hS hb ht hbase
 go_enter Tryz.func106,Tryz.ntmps106
 go_wp2_with fail
 refine Calls.mono HS.out ?_
 rintro e w1 ⟨rfl,h1,h2⟩
 have H1:Hid _:=h1
 have H2:Hid _:=h2
 clear h1 h2
 go_wp2
 go_ret
 exact⟨rfl,H1.out,H2.out⟩
set_option maxRecDepth 100000 in
set_option maxHeartbeats 4000000 in
theorem token_key (t:Int) (k:Nat) (htk:t=1∧k=0∨t=8∧k=1) (g:Nat) (AC:List Value) (F:FuncId) (caps:Array Value) (hK:AC[k]?=some (.func (.func F) #[] caps)) (hE:∀(args:Array Value) (w:World),(callFunc F args).run Tryz.prog w=.ok (.enter F args) w)
  (w:World) (J1:Value→World→Prop) (J2:World→Prop) (hJ:∀W,Below w.heap.size w W→Calls Tryz.prog F caps W fun e w'=>∃v,e=.returned (.tuple #[v,.int .i64 0])∧J1 v w')
  (hM:∀v W,J1 v W→Calls Tryz.prog 106 #[.pointer (some ⟨g,0,none⟩),v,.int .i64 0] W fun e w'=>e=.returned (.int .i64 0)∧J2 w'):
  Calls Tryz.prog 56 #[.pointer (some ⟨g,0,none⟩),.int .i64 t,.agg AC.toArray] w fun e w'=>e=.returned (.int .i64 0)∧J2 w':=by
 have HJ:Hid _:=hJ
 have HM:Hid _:=hM
 clear hJ hM
 rcases htk with ⟨rfl,rfl⟩|⟨rfl,rfl⟩
 all_goals
  go_enter Tryz.func56,Tryz.ntmps56
  go_wp2_with (refine wpList_box_blk rfl 91 _ rfl AC rfl ?_)
  intro w1 r1 b1 s1
  first
   |have c0:w1.cell? ⟨w.heap.size,0,none⟩=some (.func (.func F) #[] caps):=(r1.cell 0).trans hK
   |have c0:w1.cell? ⟨w.heap.size,1,none⟩=some (.func (.func F) #[] caps):=(r1.cell 1).trans hK
  have HB1:Hid (Below w.heap.size w w1):=b1
  clear r1 b1 s1 hK
  go_wp2_with fail
  refine Calls.mono (HJ.out _ HB1.out) ?_
  rintro e w2 ⟨v,rfl,h2⟩
  have H2:Hid (J1 v w2):=h2
  clear h2 c0
  go_wp2_with fail
  refine Calls.mono (HM.out _ _ H2.out) ?_
  rintro e w3 ⟨rfl,h3⟩
  have H3:Hid (J2 w3):=h3
  clear h3
  go_wp2
  go_ret
  exact⟨rfl,H3.out⟩
def tlP (p:Ptn):Ptn:=⟨p.name,p.ki,p.kr,p.ms.tail⟩
theorem tlP_n (p:Ptn):(tlP p).n=p.n - 1:=by simp[tlP,Ptn.n]
theorem tlP_ini (p:Ptn) (k:Nat):(tlP p).ini k=p.ini (k+1):=by simp[tlP,Ptn.ini]
theorem tlP_tk (p:Ptn) (k:Nat):(tlP p).tk k=p.tk (k+1):=by simp[tlP,Ptn.tk]
theorem MsR.tail {w:World} {b off n cap:Nat} {p:Ptn} (h:MsR w (.slice (some ⟨b,off,none⟩) n cap) p) (h1:1<p.n):MsR w (.slice (some ⟨b,off+2,none⟩) (n - 1) (cap - 1)) (tlP p):=by
 obtain⟨a',cap',ev,h2,h3,h5⟩:=h.form
 simp only[Value.slice.injEq] at ev
 obtain⟨rfl,rfl,rfl⟩:=ev
 refine⟨_,_,by rw[tlP_n],by rw[tlP_n];omega,by unfold maxLen at *;omega,.inr ⟨b,off+2,rfl,fun k hk=>?_⟩⟩
 rw[tlP_n] at hk
 rcases h5 with h5|⟨b',off',e,h6⟩
 ·omega
 simp only[Option.some.injEq,Addr.mk.injEq,and_true] at e
 obtain⟨rfl,rfl⟩:=e
 obtain⟨vt,c1,c2,c3⟩:=h6 (k+1) (by omega)
 refine⟨vt,?_,?_,?_⟩
 ·rw[tlP_ini,show off+2+2 * k=off+2 * (k+1) by omega]
  exact c1
 ·rw[show off+2+(2 * k+1)=off+(2 * (k+1)+1) by omega]
  exact c2
 ·rw[tlP_tk]
  exact c3
theorem MsQ.tail {w:World} {b off n cap:Nat} {p:Ptn} (h:MsQ w (.slice (some ⟨b,off,none⟩) n cap) p) (h1:1<p.n):MsQ w (.slice (some ⟨b,off+2,none⟩) (n - 1) (cap - 1)) (tlP p):=fun S W hS c=>(h S W hS c).tail h1
theorem exec_tailM {b off n cap:Nat} (h1:1<cap) (hL:n≤cap) (hn:1≤n) (hc:cap≤maxLen) {op:Oper} {a:Act} {W:World} (x h:Operand) (ho:op.op=.slice 23 x (some h) none none) (hx:a.eval x=.slice (some ⟨b,off,none⟩) n cap) (hh:a.eval h=.int .i64 1):
  (execOp a.eval op).run Tryz.prog W=.ok (.value (.slice (some ⟨b,off+2,none⟩) (n - 1) (cap - 1))) W:=by
 have e1:(1:Int)≤(n:Int):=by omega
 have e2:(n:Int)≤(cap:Int):=by omega
 have e3:¬cap=1:=by omega
 unfold maxLen at hc
 unfold execOp
 simp only[ho,hx,hh,Option.map]
 go_simp
set_option maxRecDepth 100000 in
set_option maxHeartbeats 4000000 in
theorem walk_any (g:Nat) (p:Ptn) (h2:1<p.n) (b off n cap:Nat) (AC:List Value) (h6:AC.length=6) (F:FuncId) (caps:Array Value) (h5:AC[5]?=some (.func (.func F) #[] caps)) (hE:∀(args:Array Value) (w:World),(callFunc F args).run Tryz.prog w=.ok (.enter F args) w)
  (w w0:World) (Inv:Nat→World→Prop) (JE:World→Prop) (R:Value→World→Prop) (hM:MsR w0 (.slice (some ⟨b,off,none⟩) n cap) p) (h0:Inv 0 w) (hkeep:∀i W W',Inv i W→Below W.heap.size W W'→Inv i W') (hbl:∀i W,Inv i W→Below w0.heap.size w0 W)
  (hst:∀i W,Inv i W→∃cs,BlkAt g 101 cs W∧cs[1]?=some (.slice (some ⟨b,off,none⟩) n cap))
  (hTok:∀i,i<(p.tk 0).length→∀W,Inv i W→Calls Tryz.prog 56 #[.pointer (some ⟨g,0,none⟩),.int .i64 ((p.tk 0).getD i 0),.agg AC.toArray] W fun e w'=>e=.returned (.int .i64 0)∧Inv (i+1) w'∧Stay 91 W w')
  (hEnd:∀W,Inv (p.tk 0).length W→JE (W.setCell ⟨g,1,none⟩ (.slice (some ⟨b,off+2,none⟩) (n - 1) (cap - 1))))
  (hPay:∀W,JE W→Calls Tryz.prog F caps W fun e w'=>∃v,e=.returned (.tuple #[v,.int .i64 0])∧R v w'):
  Calls Tryz.prog 28 #[.pointer (some ⟨g,0,none⟩),.agg AC.toArray] w fun e w'=>∃v,e=.returned (.tuple #[v,.int .i64 0])∧R v w':=by
 obtain⟨a',cap',ev,f2,f3, -⟩:=id hM.form
 simp only[Value.slice.injEq] at ev
 obtain⟨rfl,hn,rfl⟩:=ev
 have HX:Hid (1<cap∧n≤cap∧1≤n∧cap≤maxLen):=⟨by omega,by omega,by omega,f3⟩
 obtain⟨b1,off1,at',ct,e1, -,g1,g3, -,g5⟩:=ms_at hM (k:=0) (by omega)
 simp only[Option.some.injEq,Addr.mk.injEq,and_true] at e1
 obtain⟨rfl,rfl⟩:=e1
 have HEn:Hid _:=hEnd
 have HTo:Hid _:=hTok
 have HPy:Hid _:=hPay
 have HKe:Hid _:=hkeep
 have HBl:Hid _:=hbl
 have HSt:Hid _:=hst
 obtain⟨tl,htl⟩:∃l:List Int,l=p.tk 0:=⟨_,rfl⟩
 rw[←htl] at g1 g3 HEn HTo
 obtain⟨M,hMl⟩:∃M:Nat,M=tl.length:=⟨_,rfl⟩
 rw[←hMl] at g1 g3 HEn HTo
 have g2:w0.cell? ⟨b,off+1,none⟩=some (.slice at' M ct):=by simpa using g1
 have HG2:Hid (w0.cell? ⟨b,off+1,none⟩=some (.slice at' M ct)):=g2
 have HR:Hid (RdI .i64 w0 (.slice at' M ct) tl):=g3
 have HMl:Hid (M=tl.length):=hMl
 have HMx:Hid (M≤ct):=by show _≤_;rw[hMl];obtain⟨u1,u2,u3,u4, -⟩:=id g3;simp only[Value.slice.injEq] at u3;obtain⟨-, -,rfl⟩:=u3;exact u4
 unfold maxLen at g5
 have hct:M≤9223372036854775807:=Nat.le_trans HMx.out g5
 have hnI:(0:Int)<(n:Int):=by omega
 have hNn:(1:Int)≤(n:Int):=by omega
 have H0:Hid (Inv 0 w):=h0
 clear g1 g2 g3 g5 htl hMl hM h0 hkeep hbl hst hTok hEnd hPay f2 f3 h2 hn
 go_enter Tryz.func28,Tryz.ntmps28
 go_wp2_with (refine wpList_box_blk rfl 91 _ rfl AC rfl ?_)
 intro w1 r1 b1 s1
 have H1:Hid (Inv 0 w1):=HKe.out _ _ _ H0.out b1
 obtain⟨gb,hgb⟩:∃k:Nat,Hid (k=w.heap.size):=⟨_,rfl⟩
 rw[←hgb.out] at r1 ⊢
 have HR1:Hid (BlkAt gb 91 AC w1):=r1
 obtain⟨cs,hcs,hc1⟩:=HSt.out _ _ H1.out
 have c1:w1.cell? ⟨g,1,none⟩=some (.slice (some ⟨b,off,none⟩) n cap):=by rw[hcs.cell];exact hc1
 have c2:w1.cell? ⟨b,off+1,none⟩=some (.slice at' M ct):=cellKP HG2.out (HBl.out _ _ H1.out)
 clear r1 b1 s1 hcs hc1 H0
 go_wp2
 go_loopw [17] (fun iv wx=>∃i:Nat,i≤M∧iv=.int .i64 (i:Int)∧Hid (Inv i wx)∧Hid (BlkAt gb 91 AC wx)) (fun iv _=>M - (intOf iv).toNat)
 case atStart=>exact⟨0,by omega,rfl,H1,HR1⟩
 case round=>
  obtain⟨i,hi,rfl,HI,HRb⟩:=hrel
  clear c1 c2 H1 HR1
  by_cases hlt:i<M
  ·have hd:decide ((i:Int)<(M:Int))=true:=decide_eq_true (by omega)
   have hiI:(i:Int)<(M:Int):=by omega
   obtain⟨b2,off2,cap2,ev, -,k1, -⟩:=RdI.cellAt (HR.out.kept (HBl.out _ _ HI.out)) (i:=i) (by rw[←HMl.out];exact hlt)
   simp only[Value.slice.injEq] at ev
   obtain⟨rfl, -,rfl⟩:=ev
   have HTi:Hid _:=HTo.out i hlt _ HI.out
   obtain⟨y,hy⟩:∃y:Int,y=tl.getD i 0:=⟨_,rfl⟩
   rw[←hy] at k1 HTi
   have hrb:=HRb.out
   clear hy
   go_wp2_with (refine wpList_load_part rfl 91 _ rfl rfl [] AC [] hrb (by simp) rfl Tryz.underlying91 rfl (by rw[h6];exact infoA17) ?_)
   refine Calls.mono HTi.out ?_
   rintro e w2 ⟨rfl,hI2,hY2⟩
   have HI2:Hid (Inv (i+1) w2):=hI2
   have HR2:Hid (BlkAt gb 91 AC w2):=hY2 _ _ HRb.out
   clear hI2 hY2 hrb k1
   go_wp2
   go_roundw
   case rel=>exact⟨i+1,by omega,by go_num,HI2,HR2⟩
   case measure=>simp[intOf]<;>omega
  ·have hd:decide ((i:Int)<(M:Int))=false:=decide_eq_false (by omega)
   have hie:i=M:=by omega
   have HI2:Hid (Inv M wr):=by rw[←hie];exact HI
   obtain⟨cs,hcs,hc1⟩:=HSt.out _ _ HI.out
   have c1:wr.cell? ⟨g,1,none⟩=some (.slice (some ⟨b,off,none⟩) n cap):=by rw[hcs.cell];exact hc1
   have f1:wr.frozen? ⟨g,1,none⟩=false:=hcs.free 1
   have HJE:Hid _:=HEn.out _ HI2.out
   have c5:(wr.setCell ⟨g,1,none⟩ (.slice (some ⟨b,off+2,none⟩) (n - 1) (cap - 1))).cell? ⟨gb,5,none⟩=some (.func (.func F) #[] caps):=by
    have hne:gb≠g:=blk_ne HRb.out hcs (by decide)
    have:=(HRb.out.chg (Chg.of_wrote (Wrote.set g 1 wr (.slice (some ⟨b,off+2,none⟩) (n - 1) (cap - 1)))) hne).cell 5
    exact this.trans h5
   clear hie hcs hc1 HI HI2 HRb
   go_wp2_with (refine wpList_val rfl (exec_tailM HX.out.1 HX.out.2.1 HX.out.2.2.1 HX.out.2.2.2 _ _ (by rfl) (by rfl) (by rfl)) ?_)
   refine Calls.mono (HPy.out _ HJE.out) ?_
   rintro e w3 ⟨v,rfl,h3⟩
   have H3:Hid (R v w3):=h3
   clear h3 c5 c1 f1
   go_wp2
   go_ret2
   exact⟨_,rfl,H3.out⟩
theorem wmix_any (V:WV) (vl:Value) (w0:World) (x0 vm:Value) (s:Sta) (c m b:List UInt8) (vb:Value) (hl:s.h.length+b.length≤100000000) (w:World) (hW:Wr V vl w0 x0 vm s c m w) (hb:Rd w vb b) (hT:Tabs w0):
  Calls Tryz.prog 106 #[.pointer (some ⟨V.g,0,none⟩),vb,.int .i64 0] w fun e w'=>e=.returned (.int .i64 0)∧Wr V vl w0 x0 vm (mhS s b) c m w'∧Stay 91 w w':=by
 obtain⟨post,vc,vh,vk,vg,vd,hC⟩:=hW.it
 refine Calls.mono (hmixhash_any w0.heap.size V.g x0 vm post vc vh vk s vb b hl w hC.below.size hC.st hb (hT.kept hC.below)) ?_
 rintro e w' ⟨rfl,⟨vh',h1,h2⟩,c1⟩
 exact⟨rfl,⟨hW.fix.side hC.st.1 c1,hW.num,_,_,_,_,_,_,WC.side (vl:=vl) hC hW.num c1 h1 hC.sl (Apart.lt (B:=w.heap.size) (fun b hb=>(hC.om.lt hb).2) fun b hb=>(h2.lt hb).1)⟩,Stay.chg hC.st.1 (by decide) c1⟩
theorem Wr.below {V:WV} {vl:Value} {w0:World} {x0 vm:Value} {s:Sta} {c m:List UInt8} {w:World} (h:Wr V vl w0 x0 vm s c m w):Below w0.heap.size w0 w:=by
 obtain⟨post,vc,vh,vk,vg,vd,hC⟩:=h.it
 exact hC.below
theorem Wr.cell1 {V:WV} {vl:Value} {w0:World} {x0 vm:Value} {s:Sta} {c m:List UInt8} {w:World} (h:Wr V vl w0 x0 vm s c m w):∃cs,BlkAt V.g 101 cs w∧cs[1]?=some vm:=by
 obtain⟨post,vc,vh,vk,vg,vd,hC⟩:=h.it
 exact⟨_,hC.st.1,rfl⟩
theorem Wr.next {V:WV} {vl:Value} {w0:World} {x0 vm:Value} {s:Sta} {c m:List UInt8} {w:World} (h:Wr V vl w0 x0 vm s c m w) (vm':Value):Wr V vl w0 x0 vm' s c m (w.setCell ⟨V.g,1,none⟩ vm'):=by
 obtain⟨post,vc,vh,vk,vg,vd,hC⟩:=h.it
 have c1:=Chg.of_wrote (Wrote.set V.g 1 w vm')
 have hb:BlkAt V.g 101 (shD x0 vm' post vc vh vk s.c.n) (w.setCell ⟨V.g,1,none⟩ vm'):=hC.st.1.set 1 vm'
 exact⟨h.fix.side hC.st.1 c1,h.num,_,_,_,_,_,_,WC.side (vl:=vl) hC h.num c1 ⟨hb,hC.st.2.1.chg hC.st.1 ne_shake c1,hC.st.2.2.1.chg hC.st.1 ne_shake c1,hC.st.2.2.2.chg hC.st.1 ne_shake c1⟩ hC.sl hC.ah⟩
theorem mhS_len (s:Sta) (b:List UInt8):(mhS s b).h.length=32:=s2L_length _
theorem StH.mono {base base' g:Nat} {x0 x1:Value} {post:List Value} {s:Sta} {w:World} (h:StH base g x0 x1 post s w) (hb:base'≤base):StH base' g x0 x1 post s w:=by
 obtain⟨vc,vh,vk,h1,h2,h3,h4⟩:=h
 exact⟨vc,vh,vk,h1,h2.mono hb,h3.mono hb,h4.mono hb⟩

def w1S (s:Sta) (c:List UInt8):Sta:=mhS s (enL (scN (c.take 32) key9))
def w2S (s:Sta) (c:List UInt8):Sta:=mhS (w1S s c) (ekL ((c.drop 32).take 32))
def w2M (c:List UInt8):List UInt8:=[]++enL (scN (c.take 32) key9)++ekL ((c.drop 32).take 32)
def InW (V:WV) (vl:Value) (w0:World) (x0 vm:Value) (s:Sta) (c:List UInt8):Nat→World→Prop
 |0,W=>Wr V vl w0 x0 vm s c [] W
 |1,W=>Wr V vl w0 x0 vm (w1S s c) (c.drop 32) ([]++enL (scN (c.take 32) key9)) W
 |_,W=>Wr V vl w0 x0 vm (w2S s c) ((c.drop 32).drop 64) (w2M c) W
theorem InW.any {V:WV} {vl:Value} {w0:World} {x0 vm:Value} {s:Sta} {c:List UInt8} {i:Nat} {W:World} (h:InW V vl w0 x0 vm s c i W):∃s' c' m',Wr V vl w0 x0 vm s' c' m' W:=by
 match i,h with
 |0,h=>exact⟨_,_,_,h⟩
 |1,h=>exact⟨_,_,_,h⟩
 |i+2,h=>exact⟨_,_,_,h⟩
theorem InW.kept {V:WV} {vl:Value} {w0:World} {x0 vm:Value} {s:Sta} {c:List UInt8} (i:Nat) (W W':World) (h:InW V vl w0 x0 vm s c i W) (hb:Below W.heap.size W W'):InW V vl w0 x0 vm s c i W':=by
 match i,h with
 |0,h=>exact Wr.kept h hb
 |1,h=>exact Wr.kept h hb
 |i+2,h=>exact Wr.kept h hb

set_option maxRecDepth 100000 in
theorem wwalk_any (p:Ptn) (h2:1<p.n) (htk:p.tk 0=[1,8]) (V:WV) (vl:Value) (x0:Value) (b off n cap:Nat) (s:Sta) (hkey:s.c.key=[]) (hlh:s.h.length≤1000) (c t:List UInt8) (hc:c.length=96) (hlt:t.length≤50000) (w w0:World) (hM:MsR w0 (.slice (some ⟨b,off,none⟩) n cap) p) (hl:Rd w0 vl t) (hT:Tabs w0) (hPw:PwT w0)
  (hW:Wr V vl w0 x0 (.slice (some ⟨b,off,none⟩) n cap) s c [] w):
  Calls Tryz.prog 28 #[.pointer (some ⟨V.g,0,none⟩),.agg (acW V).toArray] w fun e w'=>∃v,e=.returned (.tuple #[v,.int .i64 0])∧Ow 5 w0.heap.size v (w2M c++t) w'∧Wr V vl w0 x0 (.slice (some ⟨b,off+2,none⟩) (n - 1) (cap - 1)) (mhS (w2S s c) t) ((c.drop 32).drop 64) (w2M c++t) w':=by
 have l1:(enL (scN (c.take 32) key9)).length=32:=enL_length _
 have l2:(ekL ((c.drop 32).take 32)).length=1184:=ekL_length _
 have l3:(w2M c).length=1216:=by unfold w2M;simp[l1,l2]
 refine walk_any V.g p h2 b off n cap (acW V) rfl 70 _ rfl (enters_by Tryz.func70 (by kernel_rfl) rfl) w w0 (InW V vl w0 x0 _ s c) (fun W=>Wr V vl w0 x0 (.slice (some ⟨b,off+2,none⟩) (n - 1) (cap - 1)) (w2S s c) ((c.drop 32).drop 64) (w2M c) W)
  (fun v W=>Ow 5 w0.heap.size v (w2M c++t) W∧Wr V vl w0 x0 (.slice (some ⟨b,off+2,none⟩) (n - 1) (cap - 1)) (mhS (w2S s c) t) ((c.drop 32).drop 64) (w2M c++t) W) hM hW InW.kept (fun i W h=>by obtain⟨s',c',m',h'⟩:=h.any;exact h'.below) (fun i W h=>by obtain⟨s',c',m',h'⟩:=h.any;exact h'.cell1) ?_ ?_ ?_
 ·intro i hi W hI
  rw[htk] at hi ⊢
  match i,hi,hI with
  |0,_,hI=>
   have hI0:Wr V vl w0 x0 (.slice (some ⟨b,off,none⟩) n cap) s c [] W:=hI
   refine token_key 1 0 (.inl ⟨rfl,rfl⟩) V.g (acW V) 61 _ rfl (enters_by Tryz.func61 (by kernel_rfl) rfl) W (fun v W'=>Rd W' v (enL (scN (c.take 32) key9))∧Wr V vl w0 x0 (.slice (some ⟨b,off,none⟩) n cap) s (c.drop 32) ([]++enL (scN (c.take 32) key9)) W'∧Stay 91 W W') (fun W'=>InW V vl w0 x0 (.slice (some ⟨b,off,none⟩) n cap) s c 1 W'∧Stay 91 W W') ?_ ?_
   ·intro W1 hb1
    refine Calls.mono (wcurve_any V vl w0 x0 _ s c [] (by omega) (by simp) W1 (hI0.kept hb1)) ?_
    rintro e W2 ⟨v,rfl,h1,h3,h4⟩
    exact⟨v,rfl,h1,h3,(Stay.below hb1).trans h4⟩
   ·rintro v W1 ⟨h1,h3,h4⟩
    refine Calls.mono (wmix_any V vl w0 x0 _ s _ _ _ v (by rw[l1];omega) W1 h3 h1 hT) ?_
    rintro e W2 ⟨rfl,h5,h6⟩
    exact⟨rfl,h5,h4.trans h6⟩
  |1,_,hI=>
   have hI0:Wr V vl w0 x0 (.slice (some ⟨b,off,none⟩) n cap) (w1S s c) (c.drop 32) ([]++enL (scN (c.take 32) key9)) W:=hI
   refine token_key 8 1 (.inr ⟨rfl,rfl⟩) V.g (acW V) 63 _ rfl (enters_by Tryz.func63 (by kernel_rfl) rfl) W (fun v W'=>Rd W' v (ekL ((c.drop 32).take 32))∧Wr V vl w0 x0 (.slice (some ⟨b,off,none⟩) n cap) (w1S s c) ((c.drop 32).drop 64) (w2M c) W'∧Stay 91 W W') (fun W'=>InW V vl w0 x0 (.slice (some ⟨b,off,none⟩) n cap) s c 2 W'∧Stay 91 W W') ?_ ?_
   ·intro W1 hb1
    refine Calls.mono (wkem_any V vl w0 x0 _ (w1S s c) (c.drop 32) _ (by rw[List.length_drop];omega) (by rw[List.nil_append,l1];omega) W1 (hI0.kept hb1) hT hPw) ?_
    rintro e W2 ⟨v,rfl,h1,h3,h4⟩
    exact⟨v,rfl,h1,h3,(Stay.below hb1).trans h4⟩
   ·rintro v W1 ⟨h1,h3,h4⟩
    refine Calls.mono (wmix_any V vl w0 x0 _ (w1S s c) _ _ _ v (by rw[l2];unfold w1S;rw[mhS_len];omega) W1 h3 h1 hT) ?_
    rintro e W2 ⟨rfl,h5,h6⟩
    exact⟨rfl,h5,h4.trans h6⟩
  |i+2,hi,_=>exact absurd hi (by simp)
 ·intro W hI
  rw[htk] at hI
  exact Wr.next hI _
 ·intro W hI
  exact wpayload_any V vl w0 x0 _ (w2S s c) hkey (by unfold w2S;rw[mhS_len];omega) _ (w2M c) t (by omega) (by rw[l3];omega) W hI hl hT
theorem write_nil (vl vd:Value) (w:World):Calls Tryz.prog 9 #[.pointer none,vl,vd] w fun e w'=>e=.returned (.tuple #[.slice none 0 0,.int .i64 1])∧w'=w:=by
 go_enter Tryz.func9,Tryz.ntmps9
 go_wp2
 go_ret2
 exact⟨rfl,rfl⟩

set_option maxRecDepth 100000 in
set_option maxHeartbeats 4000000 in
theorem write_state (g:Nat) (i:Bool) (p:Ptn) (s:Sta) (hn:tuP p i=false) (vl vd:Value) (w w0:World) (hS:ShP w0 g i p s w):
  Calls Tryz.prog 9 #[.pointer (some ⟨g,0,none⟩),vl,vd] w fun e w'=>e=.returned (.tuple #[.slice none 0 0,.int .i64 30])∧Below w.heap.size w w':=by
 obtain⟨vm,cs,hB,h0,h1,hM⟩:=hS.blk
 have hTu:=hturn_any g cs i vm p w hB h0 h1 hM
 rw[hn] at hTu
 have HTu:Hid _:=hTu
 clear hS hB h0 h1 hM hTu hn
 go_enter Tryz.func9,Tryz.ntmps9
 go_wp2_with fail
 refine Calls.mono HTu.out ?_
 rintro e w1 ⟨rfl,b1⟩
 have HB:Hid _:=b1
 clear b1
 go_wp2
 go_ret2
 exact⟨rfl,HB.out⟩

set_option maxRecDepth 100000 in
set_option maxHeartbeats 4000000 in
theorem write_long (g:Nat) (i:Bool) (p:Ptn) (s:Sta) (hn:tuP p i=true) (vl vd:Value) (t:List UInt8) (h32:32768<t.length) (w w0:World) (hS:ShP w0 g i p s w) (hl:Rd w vl t):
  Calls Tryz.prog 9 #[.pointer (some ⟨g,0,none⟩),vl,vd] w fun e w'=>e=.returned (.tuple #[.slice none 0 0,.int .i64 14])∧Below w.heap.size w w':=by
 obtain⟨vm,cs,hB,h0,h1,hM⟩:=hS.blk
 have hTu:=hturn_any g cs i vm p w hB h0 h1 hM
 rw[hn] at hTu
 have HTu:Hid _:=hTu
 obtain⟨al,cl,rfl, -⟩:=id hl
 have hd:decide ((32768:Int)<(t.length:Int))=true:=decide_eq_true (by omega)
 clear hS hB h0 h1 hM hTu hn hl
 go_enter Tryz.func9,Tryz.ntmps9
 go_wp2_with fail
 refine Calls.mono HTu.out ?_
 rintro e w1 ⟨rfl,b1⟩
 have HB:Hid _:=b1
 clear b1
 go_wp2
 go_ret2
 exact⟨rfl,HB.out⟩

set_option maxRecDepth 100000 in
set_option maxHeartbeats 4000000 in
theorem write_arg (g:Nat) (i:Bool) (p:Ptn) (s:Sta) (hn:tuP p i=true) (ht:∀x∈p.tk 0,x≤10) (h12:(p.tk 0).length≤1000) (vl vd:Value) (t c:List UInt8) (h32:t.length≤32768) (hc:c.length≠neP p i) (w w0:World) (hS:ShP w0 g i p s w) (hl:Rd w vl t) (hd:Rd w vd c):
  Calls Tryz.prog 9 #[.pointer (some ⟨g,0,none⟩),vl,vd] w fun e w'=>e=.returned (.tuple #[.slice none 0 0,.int .i64 1])∧Below w.heap.size w w':=by
 obtain⟨vm,cs,hB,h0,h1,hM⟩:=hS.blk
 have hTu:=hturn_any g cs i vm p w hB h0 h1 hM
 rw[hn] at hTu
 have HTu:Hid _:=hTu
 have HNe:Hid (∀W,Below w.heap.size w W→_):=fun W (hb:Below w.heap.size w W)=>hneed_any g cs i vm p ht h12 W (hB.kept hb) h0 h1 (hM.kept hb)
 obtain⟨al,cl,rfl, -⟩:=id hl
 obtain⟨ad,cd,rfl, -⟩:=id hd
 obtain⟨nt,hnt⟩:∃n:Nat,n=t.length:=⟨_,rfl⟩
 rw[←hnt] at h32 ⊢
 obtain⟨nc,hnc⟩:∃n:Nat,n=c.length:=⟨_,rfl⟩
 rw[←hnc] at hc ⊢
 obtain⟨ne,hne⟩:∃n:Nat,n=neP p i:=⟨_,rfl⟩
 rw[←hne] at hc HNe
 have e1:decide ((32768:Int)<(nt:Int))=false:=decide_eq_false (by omega)
 have e2:((nc:Int) !=(ne:Int))=true:=by simp;omega
 clear hS hB h0 h1 hM hTu hn hl hd ht h12 hnt hnc hne h32 hc
 go_enter Tryz.func9,Tryz.ntmps9
 go_wp2_with fail
 refine Calls.mono HTu.out ?_
 rintro e w1 ⟨rfl,b1⟩
 have HB:Hid (Below w.heap.size w w1):=b1
 clear b1
 go_wp2_with fail
 refine Calls.mono (HNe.out _ HB.out) ?_
 rintro e w2 ⟨rfl,b2⟩
 have HB2:Hid (Below w.heap.size w w2):=stepB HB.out b2
 clear b2
 go_wp2
 go_ret2
 exact⟨rfl,HB2.out⟩

set_option maxRecDepth 100000 in
set_option maxHeartbeats 8000000 in
theorem write_any (p:Ptn) (hp2:1<p.n) (htk:p.tk 0=[1,8]) (g:Nat) (i:Bool) (hi:p.ini 0=i) (s:Sta) (hkey:s.c.key=[]) (hlc:s.ck.length≤1000) (hlh:s.h.length≤1000) (vl vd:Value) (t c:List UInt8) (hlt:t.length≤32768) (hc:c.length=96) (w w0:World) (hbw:Below w0.heap.size w0 w) (hT:Tabs w0) (hPw:PwT w0) (hS:ShP w0 g i p s w) (hl:Rd w vl t) (hd:Rd w vd c):
  Calls Tryz.prog 9 #[.pointer (some ⟨g,0,none⟩),vl,vd] w fun e w'=>∃v,e=.returned (.tuple #[v,.int .i64 0])∧Rd w' v (w2M c++t)∧ShP w0 g i (tlP p) (mhS (w2S s c) t) w'∧Chg (fun k=>k=g) w w':=by
 obtain⟨hge,vm,post,hH,hQ,hp⟩:=id hS
 obtain⟨vc0,vh0,vk0,hB, -⟩:=id hH
 have hM:=hQ.rd
 have htu:tuP p i=true:=by unfold tuP;rw[hi];simp;omega
 have hne:neP p i=96:=by unfold neP;rw[htu,if_pos rfl,htk];decide
 have hTu:=hturn_any g _ i vm p w hB rfl rfl hM
 rw[htu] at hTu
 have HTu:Hid _:=hTu
 have HNe:Hid (∀W,Below w.heap.size w W→Calls Tryz.prog 16 #[.pointer (some ⟨g,0,none⟩)] W fun e w'=>e=.returned (.int .i64 96)∧Below W.heap.size W w'):=fun W hb=>by
  have:=hneed_any g _ i vm p (by rw[htk];decide) (by rw[htk];decide) W (hB.kept hb) rfl rfl (hM.kept hb)
  rw[hne] at this
  exact this
 have HBr:Hid (∀W,Below w.heap.size w W→_):=fun W (hb:Below w.heap.size w W)=>branch_any g i vm post s p (by omega) (by omega) (by rw[hkey];simp) W w0 (hH.kept hb) (hM.kept hb) hp
 obtain⟨am,cap,evm, -, -,hfm⟩:=id hM.form
 rcases hfm with hfm|⟨b,off,rfl, -⟩
 ·omega
 obtain⟨n,hn⟩:∃n:Nat,n=p.n:=⟨_,rfl⟩
 rw[←hn] at evm
 subst evm
 have HWa:Hid (∀V W,Wr V vl w (.bool i) (.slice (some ⟨b,off,none⟩) n cap) s c [] W→_):=fun V W (h:Wr V vl w (.bool i) (.slice (some ⟨b,off,none⟩) n cap) s c [] W)=>wwalk_any p hp2 htk V vl (.bool i) b off n cap s hkey hlh c t hc (by omega) W w hM hl (hT.kept hbw) (hPw.kept hbw) h
 have HWr:Hid (∀g2 W,Below w.heap.size w W→w.heap.size≤g2→StH w.heap.size g2 (.bool i) (.slice (some ⟨b,off,none⟩) n cap) post s W→Calls Tryz.prog 29 #[.pointer (some ⟨g2,0,none⟩),vl,vd] W fun e w'=>∃V:WV,V.g=g2∧e=.returned (.agg (acW V).toArray)∧Wr V vl w (.bool i) (.slice (some ⟨b,off,none⟩) n cap) s c [] w'∧Below W.heap.size W w'):=fun g2 W hb hg h=>by
  obtain⟨vc,vh,vk,h⟩:=h
  exact writing_any g2 vl vd t c (.bool i) _ post vc vh vk s W w hb hg h hp hl hd
 have HQ:Hid (MsQ w (.slice (some ⟨b,off,none⟩) n cap) p):=hQ
 have HB:Hid (BlkAt g 101 _ w):=hB
 have HP:Hid (Sls 17 post):=hp
 have HP2:Hid (1<p.n):=hp2
 have HBW:Hid (w0.heap.size≤w.heap.size):=hbw.size
 have HGe:Hid (w0.heap.size≤g):=hge
 obtain⟨al,cl,rfl, -⟩:=id hl
 obtain⟨ad,cd,rfl, -⟩:=id hd
 obtain⟨nt,hnt⟩:∃n:Nat,n=t.length:=⟨_,rfl⟩
 rw[←hnt] at hlt HWa HWr ⊢
 rw[hc] at HWr ⊢
 obtain⟨S3,hS3⟩:∃S:Sta,S=mhS (w2S s c) t:=⟨_,rfl⟩
 obtain⟨M3,hM3⟩:∃S:List UInt8,S=w2M c++t:=⟨_,rfl⟩
 rw[←hS3,←hM3] at HWa ⊢
 have e1:decide ((32768:Int)<(nt:Int))=false:=decide_eq_false (by omega)
 clear hS hH hB hM hTu hl hd hge hQ hp hp2 hbw hT hPw hlt hnt hc htu hne hlc hlh hkey hi htk hn hS3 hM3
 go_enter Tryz.func9,Tryz.ntmps9
 go_wp2_with fail
 refine Calls.mono HTu.out ?_
 rintro e w1 ⟨rfl,b1⟩
 have HB1:Hid (Below w.heap.size w w1):=b1
 clear b1
 go_wp2_with fail
 refine Calls.mono (HNe.out _ HB1.out) ?_
 rintro e w2 ⟨rfl,b2⟩
 have HB2:Hid (Below w.heap.size w w2):=stepB HB1.out b2
 clear b2
 go_wp2_with fail
 refine Calls.mono (HBr.out _ HB2.out) ?_
 rintro e w3 ⟨g2,rfl,hg2,hS3,b3⟩
 have HB3:Hid (Below w.heap.size w w3):=stepB HB2.out b3
 have HG2:Hid (w.heap.size≤g2):=Nat.le_trans HB2.out.size hg2
 have HS3:Hid (StH w.heap.size g2 (.bool i) (.slice (some ⟨b,off,none⟩) n cap) post s w3):=hS3.mono HB2.out.size
 clear b3 hg2 hS3
 go_wp2_with fail
 refine Calls.mono (HWr.out g2 _ HB3.out HG2.out HS3.out) ?_
 rintro e w4 ⟨V,hV,rfl,hW4, -⟩
 have HV:Hid (V.g=g2):=hV
 have HWk:Hid _:=HWa.out V _ hW4
 rw[hV] at HWk
 clear hW4 hV
 go_wp2_with fail
 refine Calls.mono HWk.out ?_
 rintro e w5 ⟨v,rfl,hO5,hW5⟩
 obtain⟨post5,vc,vh,vk,vg,vd',hC5⟩:=hW5.it
 have HB5:Hid (Below w.heap.size w w5):=hC5.below
 have hne:g≠g2:=by have:=HB.out.lt;have:=HG2.out;omega
 have hst5:=hC5.st
 rw[HV.out] at hst5
 have hM5:MsQ w5 (.slice (some ⟨b,off+2,none⟩) (n - 1) (cap - 1)) (tlP p):=(HQ.out.kept HB5.out).tail HP2.out
 have hB5:=HB.out.kept HB5.out
 have HSe:Hid _:=settle_any g g2 hne i _ post5 S3 (tlP p) _ v w5 w0 hB5 (by simp[shD,HP.out.len]) (StH.mono ⟨_,_,_,hst5⟩ HBW.out) hM5.rd hC5.sl
 have HO5:Hid (Ow 5 w.heap.size v M3 w5):=hO5
 have HM5:Hid (MsQ w5 (.slice (some ⟨b,off+2,none⟩) (n - 1) (cap - 1)) (tlP p)):=hM5
 have HSl:Hid (Sls 17 post5):=hC5.sl
 have HB5b:Hid (BlkAt g 101 _ w5):=hB5
 obtain⟨av,kv,rfl, -⟩:=id hO5.rd
 clear hC5 hW5 hO5 hst5 hM5 hB5 hne
 go_wp2_with fail
 refine Calls.mono HSe.out ?_
 rintro e w6 ⟨rfl,hS6,c6⟩
 have H6:Hid (ShP w0 g i (tlP p) S3 w6):=⟨HGe.out,_,_,hS6,HM5.out.chg HB5b.out ne_shm ne_sht c6,HSl.out⟩
 have HR6:Hid (Rd w6 (.slice av M3.length kv) M3):=(HO5.out.chg HB5b.out ne_shake c6).rd
 have HC6:Hid (Chg (fun k=>k=g) w w6):=(Chg.of_below HB5.out).trans c6
 clear hS6 c6
 go_wp2
 go_ret2
 exact⟨_,rfl,HR6.out,H6.out,HC6.out⟩
set_option maxRecDepth 100000 in
set_option maxHeartbeats 1000000 in
theorem rtake_any (gm:Nat) (vg:Value) (m:List UInt8) (k:Nat) (hk:k≤m.length) (hkm:k≤100000) (w:World) (hV:BlkAt gm 26 [vg] w) (hR:Rd w vg m):
  Calls Tryz.prog 71 #[.int .i64 (k:Int),.pointer (some ⟨gm,0,none⟩)] w fun e w'=>∃v,e=.returned (.tuple #[v,.int .i64 0])∧Ow 5 w.heap.size v (m.take k) w'∧(∃vg',BlkAt gm 26 [vg'] w'∧∀W,Rd W vg m→Rd W vg' (m.drop k))∧Chg (fun j=>j=gm) w w':=by
 obtain⟨ab,cb,rfl,hcb,hmb,hnn, -⟩:=id hR
 obtain⟨L,hL⟩:∃n:Nat,n=m.length:=⟨_,rfl⟩
 rw[←hL] at hcb hV hR
 have HX:Hid (k≤L∧L≤cb∧cb≤maxLen∧(ab=none→cb=0)):=⟨by omega,hcb,hmb,hnn⟩
 obtain⟨ab',htail,hrest⟩:=exec_tail (ab:=ab) (m:=k) HX.out.1 hcb hmb hnn
 have HT:Hid _:= @htail
 have HRs:Hid (∀(W:World) (b:List UInt8),Rd W (.slice ab L cb) b→Rd W (.slice ab' (L - k) (cb - k)) (b.drop k)):=hrest
 have HR:Hid (Rd w (.slice ab k cb) (m.take k)):=Rd.take hR (n:=k) HX.out.1
 obtain⟨T,hT⟩:∃T:List UInt8,T=m.take k:=⟨_,rfl⟩
 have HTl:Hid (T.length=k):=by show _=_;rw[hT,List.length_take];omega
 rw[←hT] at HR ⊢
 have HLc:Hid (L=m.length):=hL
 have HKm:Hid (k≤100000):=hkm
 have c0:=hV.one
 have HV:Hid (BlkAt gm 26 [.slice ab L cb] w):=hV
 have e0:¬L<k:=by have:=HX.out.1;omega
 clear hV hR htail hrest hT hL hk hcb hmb hnn hkm
 go_enter Tryz.func71,Tryz.ntmps71
 go_wp2_with (refine wpList_val rfl (exec_head _ _ (by rfl) (by rfl) (by rfl) HX.out.1 HX.out.2.1 HX.out.2.2.1 HX.out.2.2.2) ?_)
 go_wp2_with fail
 refine(join_any _ _ _ _ (RdL.lit1r (e:=26) rfl HR.out) (by have:=HTl.out;have:=HKm.out;simp[totL];omega)).mono ?_
 rintro e w1 ⟨v1,rfl,hN1⟩
 replace hN1:=hN1.one16
 have b1:=stepB (growB _) hN1.2
 have hO1:Ow 5 w.heap.size v1 T w1:=Ow.mono (Ow.of_new hN1) (by simp)
 obtain⟨a1,k1,rfl, -⟩:=id hO1.rd
 have hV1:=HV.out.kept b1
 have c1:=hV1.one
 have f1:=hV1.free 0
 have HV1:Hid (BlkAt gm 26 [.slice ab L cb] w1):=hV1
 have HO1:Hid (Ow 5 w.heap.size (.slice a1 T.length k1) T w1):=hO1
 have HB1:Hid (Below w.heap.size w w1):=b1
 clear hN1 b1 hO1 hV1 c0 HR
 go_wp2_with (refine wpList_val rfl (HT.out _ _ (by rfl) (by rfl) (by rfl)) ?_)
 go_ret2
 have hw:=Wrote.set gm 0 w1 (.slice ab' (L - k) (cb - k))
 exact⟨_,rfl,HO1.out.chg HV1.out (by decide) (Chg.of_wrote hw),⟨_,HV1.out.set 0 _,fun W h=>HRs.out W m (by rw[HLc.out];exact h)⟩,(Chg.of_below HB1.out).trans (Chg.of_wrote hw)⟩

structure RV where
 g:Nat
 gs:Nat
 gm:Nat
 gt:Nat
structure RF (V:RV) (w:World):Prop where
 bs:BlkAt V.gs 33 [.pointer (some ⟨V.g,0,none⟩)] w
 bt:BlkAt V.gt 130 [.func (.func 71) #[] #[.pointer (some ⟨V.gm,0,none⟩)]] w
theorem RF.kept {V:RV} {w w':World} (h:RF V w) (hb:Below w.heap.size w w'):RF V w':=⟨h.bs.kept hb,h.bt.kept hb⟩
theorem RF.other {V:RV} {k:Nat} {ty:TypeId} {cs:List Value} {w w':World} (h:RF V w) (hB:BlkAt k ty cs w) (h1:(33:TypeId)≠ty) (h2:(130:TypeId)≠ty) (c:Chg (fun j=>j=k) w w'):RF V w':=⟨h.bs.chg c (blk_ne h.bs hB h1),h.bt.chg c (blk_ne h.bt hB h2)⟩
structure RC (V:RV) (w0:World) (x0 vm:Value) (s:Sta) (m:List UInt8) (post:List Value) (vc vh vk vg:Value) (w:World):Prop where
 st:StV w0.heap.size V.g x0 vm post vc vh vk s w
 sl:Sls 17 post
 bm:BlkAt V.gm 26 [vg] w
 rm:Rd w0 vg m
 below:Below w0.heap.size w0 w
structure Rr (V:RV) (w0:World) (x0 vm:Value) (s:Sta) (m:List UInt8) (w:World):Prop where
 fix:RF V w
 ng:w0.heap.size≤V.g
 nm:w0.heap.size≤V.gm
 it:∃post vc vh vk vg,RC V w0 x0 vm s m post vc vh vk vg w
theorem RC.kept {V:RV} {w0:World} {x0 vm:Value} {s:Sta} {m:List UInt8} {post:List Value} {vc vh vk vg:Value} {w w':World} (h:RC V w0 x0 vm s m post vc vh vk vg w) (hb:Below w.heap.size w w'):RC V w0 x0 vm s m post vc vh vk vg w':=⟨h.st.kept hb,h.sl,h.bm.kept hb,h.rm,stepB h.below hb⟩
theorem Rr.kept {V:RV} {w0:World} {x0 vm:Value} {s:Sta} {m:List UInt8} {w w':World} (h:Rr V w0 x0 vm s m w) (hb:Below w.heap.size w w'):Rr V w0 x0 vm s m w':=by
 obtain⟨post,vc,vh,vk,vg,h1⟩:=h.it
 exact⟨h.fix.kept hb,h.ng,h.nm,_,_,_,_,_,h1.kept hb⟩
theorem RC.side {V:RV} {w0:World} {x0 vm x1:Value} {s s':Sta} {m:List UInt8} {post post':List Value} {vc vh vk vg vh':Value} {w w':World} (h:RC V w0 x0 vm s m post vc vh vk vg w) (ng:w0.heap.size≤V.g) (c1:Chg (fun k=>k=V.g) w w')
  (hs:StV w0.heap.size V.g x0 x1 post' vc vh' vk s' w') (hp:Sls 17 post'):RC V w0 x0 x1 s' m post' vc vh' vk vg w':=
 ⟨hs,hp,h.bm.chg c1 (blk_ne h.bm h.st.1 (by decide)),h.rm,Chg.gone h.below c1 h.below.size ng⟩
theorem RC.taken {V:RV} {w0:World} {x0 vm:Value} {s:Sta} {m m':List UInt8} {post:List Value} {vc vh vk vg vg':Value} {w w':World} (h:RC V w0 x0 vm s m post vc vh vk vg w) (nm:w0.heap.size≤V.gm) (c1:Chg (fun k=>k=V.gm) w w')
  (hb:BlkAt V.gm 26 [vg'] w') (hr:Rd w0 vg' m'):RC V w0 x0 vm s m' post vc vh vk vg' w':=
 ⟨⟨h.st.1.chg c1 (blk_ne h.st.1 h.bm (by decide)),h.st.2.1.chg h.bm (by decide) c1,h.st.2.2.1.chg h.bm (by decide) c1,h.st.2.2.2.chg h.bm (by decide) c1⟩,h.sl,hb,hr,Chg.gone h.below c1 h.below.size nm⟩
theorem Rr.below {V:RV} {w0:World} {x0 vm:Value} {s:Sta} {m:List UInt8} {w:World} (h:Rr V w0 x0 vm s m w):Below w0.heap.size w0 w:=by
 obtain⟨post,vc,vh,vk,vg,h1⟩:=h.it
 exact h1.below
theorem Rr.cell1 {V:RV} {w0:World} {x0 vm:Value} {s:Sta} {m:List UInt8} {w:World} (h:Rr V w0 x0 vm s m w):∃cs,BlkAt V.g 101 cs w∧cs[1]?=some vm:=by
 obtain⟨post,vc,vh,vk,vg,h1⟩:=h.it
 exact⟨_,h1.st.1,rfl⟩
theorem Rr.next {V:RV} {w0:World} {x0 vm:Value} {s:Sta} {m:List UInt8} {w:World} (h:Rr V w0 x0 vm s m w) (vm':Value):Rr V w0 x0 vm' s m (w.setCell ⟨V.g,1,none⟩ vm'):=by
 obtain⟨post,vc,vh,vk,vg,hC⟩:=h.it
 have c1:=Chg.of_wrote (Wrote.set V.g 1 w vm')
 have hb:BlkAt V.g 101 (shD x0 vm' post vc vh vk s.c.n) (w.setCell ⟨V.g,1,none⟩ vm'):=hC.st.1.set 1 vm'
 exact⟨h.fix.other hC.st.1 (by decide) (by decide) c1,h.ng,h.nm,_,_,_,_,_,hC.side h.ng c1 ⟨hb,hC.st.2.1.chg hC.st.1 ne_shake c1,hC.st.2.2.1.chg hC.st.1 ne_shake c1,hC.st.2.2.2.chg hC.st.1 ne_shake c1⟩ hC.sl⟩
theorem rmix_any (V:RV) (w0:World) (x0 vm:Value) (s:Sta) (m b:List UInt8) (vb:Value) (hl:s.h.length+b.length≤100000000) (w:World) (hW:Rr V w0 x0 vm s m w) (hb:Rd w vb b) (hT:Tabs w0):
  Calls Tryz.prog 106 #[.pointer (some ⟨V.g,0,none⟩),vb,.int .i64 0] w fun e w'=>e=.returned (.int .i64 0)∧Rr V w0 x0 vm (mhS s b) m w'∧Stay 91 w w':=by
 obtain⟨post,vc,vh,vk,vg,hC⟩:=hW.it
 refine Calls.mono (hmixhash_any w0.heap.size V.g x0 vm post vc vh vk s vb b hl w hC.below.size hC.st hb (hT.kept hC.below)) ?_
 rintro e w' ⟨rfl,⟨vh',h1,h2⟩,c1⟩
 exact⟨rfl,⟨hW.fix.other hC.st.1 (by decide) (by decide) c1,hW.ng,hW.nm,_,_,_,_,_,hC.side hW.ng c1 h1 hC.sl⟩,Stay.chg hC.st.1 (by decide) c1⟩

set_option maxRecDepth 100000 in
set_option maxHeartbeats 4000000 in
theorem rcurve_any (V:RV) (w0:World) (x0 vm:Value) (s:Sta) (m:List UInt8) (h32:32≤m.length) (w:World) (hW:Rr V w0 x0 vm s m w):
  Calls Tryz.prog 74 #[.pointer (some ⟨V.gt,0,none⟩),.pointer (some ⟨V.gs,0,none⟩)] w fun e w'=>∃v,e=.returned (.tuple #[v,.int .i64 0])∧Rd w' v (m.take 32)∧Rr V w0 x0 vm s (m.drop 32) w'∧Stay 91 w w':=by
 obtain⟨post,vc,vh,vk,vg,hC⟩:=hW.it
 have HG:Hid (w0.heap.size≤V.g∧w0.heap.size≤V.gm):=⟨hW.ng,hW.nm⟩
 have HF:Hid (RF V w):=hW.fix
 have HC:Hid (RC V w0 x0 vm s m post vc vh vk vg w):=hC
 have HD:Hid _:=rtake_any V.gm vg m 32 h32 (by decide) w hC.bm (hC.rm.kept hC.below)
 have ct:=hW.fix.bt.one
 obtain⟨T,hT⟩:∃T:List UInt8,T=m.take 32:=⟨_,rfl⟩
 obtain⟨D,hD⟩:∃T:List UInt8,T=m.drop 32:=⟨_,rfl⟩
 rw[←hT,←hD] at HD ⊢
 clear hW hC h32 hT hD
 go_enter Tryz.func74,Tryz.ntmps74
 go_wp2_with fail
 refine Calls.mono HD.out ?_
 rintro e w1 ⟨v1,rfl,hO1,⟨vg',hb1,hr1⟩,c1⟩
 obtain⟨a1,k1,rfl, -⟩:=id hO1.rd
 have HO1:Hid (Ow 5 w.heap.size (.slice a1 T.length k1) T w1):=hO1
 have HC1:Hid (RC V w0 x0 vm s D post vc vh vk vg' w1):=HC.out.taken HG.out.2 c1 hb1 (hr1 _ HC.out.rm)
 have HF1:Hid (RF V w1):=HF.out.other HC.out.bm (by decide) (by decide) c1
 have HY1:Hid (Stay 91 w w1):=Stay.chg HC.out.bm (by decide) c1
 obtain⟨p0,hp0⟩:=HC1.out.sl.get (j:=9) (by decide)
 have cs:=HF1.out.bs.one
 have c15:w1.cell? ⟨V.g,15,none⟩=some p0:=by rw[HC1.out.st.1.cell];exact(shD_get6 _ _ _ _ _ _ _ 9).trans hp0
 have f15:=HC1.out.st.1.free 15
 clear hO1 hb1 hr1 c1 HC HF HD ct hp0
 go_wp2
 go_ret2
 have hw:=Wrote.set V.g 15 w1 (.slice a1 T.length k1)
 have c2:=Chg.of_wrote hw
 have r2:BlkAt V.g 101 (shD x0 vm (post.set 9 (.slice a1 T.length k1)) vc vh vk s.c.n) (w1.setCell ⟨V.g,15,none⟩ (.slice a1 T.length k1)):=by
  have:=HC1.out.st.1.set 15 (.slice a1 T.length k1)
  rw[show 15=6+9 from rfl,shD_set6] at this
  exact this
 exact⟨_,rfl,(HO1.out.chg HC1.out.st.1 ne_shake c2).rd,⟨HF1.out.other HC1.out.st.1 (by decide) (by decide) c2,HG.out.1,HG.out.2,_,_,_,_,_,HC1.out.side HG.out.1 c2 (HC1.out.st.post r2 c2) (HC1.out.sl.set _ _ _ _)⟩,HY1.out.trans (Stay.chg HC1.out.st.1 (by decide) c2)⟩

set_option maxRecDepth 100000 in
set_option maxHeartbeats 4000000 in
theorem rkem_any (V:RV) (w0:World) (x0 vm:Value) (s:Sta) (m:List UInt8) (h1184:1184≤m.length) (hck:ckE (m.take 1184)=0) (w:World) (hW:Rr V w0 x0 vm s m w):
  Calls Tryz.prog 75 #[.pointer (some ⟨V.gt,0,none⟩),.pointer (some ⟨V.gs,0,none⟩)] w fun e w'=>∃v,e=.returned (.tuple #[v,.int .i64 0])∧Rd w' v (m.take 1184)∧Rr V w0 x0 vm s (m.drop 1184) w'∧Stay 91 w w':=by
 obtain⟨post,vc,vh,vk,vg,hC⟩:=hW.it
 have HG:Hid (w0.heap.size≤V.g∧w0.heap.size≤V.gm):=⟨hW.ng,hW.nm⟩
 have HF:Hid (RF V w):=hW.fix
 have HC:Hid (RC V w0 x0 vm s m post vc vh vk vg w):=hC
 have HD:Hid _:=rtake_any V.gm vg m 1184 h1184 (by decide) w hC.bm (hC.rm.kept hC.below)
 have ct:=hW.fix.bt.one
 obtain⟨T,hT⟩:∃T:List UInt8,T=m.take 1184:=⟨_,rfl⟩
 obtain⟨D,hD⟩:∃T:List UInt8,T=m.drop 1184:=⟨_,rfl⟩
 rw[←hT,←hD] at HD ⊢
 rw[←hT] at hck
 have HCk:Hid (ckE T=0):=hck
 clear hW hC h1184 hT hD hck
 go_enter Tryz.func75,Tryz.ntmps75
 go_wp2_with fail
 refine Calls.mono HD.out ?_
 rintro e w1 ⟨v1,rfl,hO1,⟨vg',hb1,hr1⟩,c1⟩
 obtain⟨a1,k1,rfl, -⟩:=id hO1.rd
 have HO1:Hid (Ow 5 w.heap.size (.slice a1 T.length k1) T w1):=hO1
 have HC1:Hid (RC V w0 x0 vm s D post vc vh vk vg' w1):=HC.out.taken HG.out.2 c1 hb1 (hr1 _ HC.out.rm)
 have HF1:Hid (RF V w1):=HF.out.other HC.out.bm (by decide) (by decide) c1
 have HY1:Hid (Stay 91 w w1):=Stay.chg HC.out.bm (by decide) c1
 obtain⟨p0,hp0⟩:=HC1.out.sl.get (j:=11) (by decide)
 have cs:=HF1.out.bs.one
 have c17:w1.cell? ⟨V.g,17,none⟩=some p0:=by rw[HC1.out.st.1.cell];exact(shD_get6 _ _ _ _ _ _ _ 11).trans hp0
 have f17:=HC1.out.st.1.free 17
 have e0:((0:Int) !=0)=false:=rfl
 clear hO1 hb1 hr1 c1 HC HF HD ct hp0
 have hw:=Wrote.set V.g 17 w1 (.slice a1 T.length k1)
 have c2:=Chg.of_wrote hw
 have r2:BlkAt V.g 101 (shD x0 vm (post.set 11 (.slice a1 T.length k1)) vc vh vk s.c.n) (w1.setCell ⟨V.g,17,none⟩ (.slice a1 T.length k1)):=by
  have:=HC1.out.st.1.set 17 (.slice a1 T.length k1)
  rw[show 17=6+11 from rfl,shD_set6] at this
  exact this
 have HO2:Hid (Rd (w1.setCell ⟨V.g,17,none⟩ (.slice a1 T.length k1)) (.slice a1 T.length k1) T):=(HO1.out.chg HC1.out.st.1 ne_shake c2).rd
 have HR2:Hid (Rr V w0 x0 vm s D (w1.setCell ⟨V.g,17,none⟩ (.slice a1 T.length k1))):=⟨HF1.out.other HC1.out.st.1 (by decide) (by decide) c2,HG.out.1,HG.out.2,_,_,_,_,_,HC1.out.side HG.out.1 c2 (HC1.out.st.post r2 c2) (HC1.out.sl.set _ _ _ _)⟩
 have HY2:Hid (Stay 91 w (w1.setCell ⟨V.g,17,none⟩ (.slice a1 T.length k1))):=HY1.out.trans (Stay.chg HC1.out.st.1 (by decide) c2)
 clear hw c2 r2 HC1 HF1 HY1 HO1
 go_wp2_with fail
 refine Calls.mono (mcheck_any _ T _ HO2.out) ?_
 rw[HCk.out]
 rintro e w3 ⟨rfl,b3⟩
 have HR3:Hid (Rd w3 (.slice a1 T.length k1) T):=HO2.out.kept b3
 have HX3:Hid (Rr V w0 x0 vm s D w3):=HR2.out.kept b3
 have HY3:Hid (Stay 91 w w3):=HY2.out.trans (Stay.below b3)
 clear b3 c17 f17 cs
 go_wp2
 go_ret2
 exact⟨_,rfl,HR3.out,HX3.out,HY3.out⟩

set_option maxRecDepth 100000 in
set_option maxHeartbeats 4000000 in
theorem rpayload_any (V:RV) (w0:World) (x0 vm:Value) (s:Sta) (hkey:s.c.key=[]) (hlh:s.h.length≤100000) (m:List UInt8) (hlm:m.length≤100000) (w:World) (hW:Rr V w0 x0 vm s m w) (hT:Tabs w0):
  Calls Tryz.prog 82 #[.pointer (some ⟨V.gs,0,none⟩),.pointer (some ⟨V.gm,0,none⟩)] w fun e w'=>∃v,e=.returned (.tuple #[v,.int .i64 0])∧Ow 5 w0.heap.size v m w'∧Rr V w0 x0 vm (mhS s m) m w':=by
 obtain⟨post,vc,vh,vk,vg,hC⟩:=hW.it
 obtain⟨av,kv,rfl, -⟩:=id hC.rm
 have HG:Hid (w0.heap.size≤V.g∧w0.heap.size≤V.gm):=⟨hW.ng,hW.nm⟩
 have HF:Hid (RF V w.drew):=hW.fix.kept (Below.refl _ _).drew
 have hC':=hC.kept (Below.refl _ _).drew
 have HC:Hid (RC V w0 x0 vm s m post vc vh vk (.slice av m.length kv) w.drew):=hC'
 have HD:Hid _:=sopenN V.g x0 vm post vc vh vk s hkey _ m hlm hlh w.drew w0 hC'.st (hC'.rm.kept hC'.below) hC'.below hT
 have hS:w.drew.cell? ⟨V.gs,0,none⟩=some (.pointer (some ⟨V.g,0,none⟩))∧w.drew.cell? ⟨V.gm,0,none⟩=some (.slice av m.length kv):=⟨HF.out.bs.one,hC'.bm.one⟩
 have HN1:Hid (V.gs≠V.g):=blk_ne HF.out.bs hC'.st.1 (by decide)
 have HN2:Hid (V.gm≠V.g):=blk_ne hC'.bm hC'.st.1 (by decide)
 clear hW hC hC' hkey hlh hlm hT
 go_enter Tryz.func82,Tryz.ntmps82
 go_wp2_with fail
 refine wpS_begin (fun W=>W.cell? ⟨V.gs,0,none⟩=some (.pointer (some ⟨V.g,0,none⟩))∧W.cell? ⟨V.gm,0,none⟩=some (.slice av m.length kv)) (by kernel_rfl) ?_
 refine sU_ hS 0 rfl ⟨_,by intro W hW;have hcW:=hW.1;go_simp<;>with_reducible rfl,?_⟩
 try simp only[Act.put,pA_,pB_,pC_]
 refine sU_ hS 1 rfl ⟨_,by intro W hW;go_simp<;>with_reducible rfl,?_⟩
 try simp only[Act.put,pA_,pB_,pC_]
 refine sU_ hS 2 rfl ⟨_,by intro W hW;go_simp<;>with_reducible rfl,?_⟩
 try simp only[Act.put,pA_,pB_,pC_]
 refine sU_ hS 3 rfl ⟨_,by intro W hW;have hcW:=hW.2;go_simp<;>with_reducible rfl,?_⟩
 try simp only[Act.put,pA_,pB_,pC_]
 refine sD_ 4 fun K hK=>?_
 go_simp
 refine Calls.mono HD.out ?_
 rintro e w1 ⟨x,rfl,hO1,⟨vh',hS1,hN1⟩,c1⟩
 replace hS:=And.intro (cell_chg c1 hS.1 HN1.out) (cell_chg c1 hS.2 HN2.out)
 have HO1:Hid (Ow 5 w0.heap.size x m w1):=hO1.mono HC.out.below.size
 have HR1:Hid (Rr V w0 x0 vm (mhS s m) m w1):=⟨HF.out.other HC.out.st.1 (by decide) (by decide) c1,HG.out.1,HG.out.2,_,_,_,_,_,HC.out.side HG.out.1 c1 hS1 HC.out.sl⟩
 clear hO1 hS1 hN1 c1 HC HF HD
 refine hK.out _ _ hS ?_
 clear hK K
 try simp only[Act.put,pA_,pB_,pC_]
 refine sU_ hS 5 rfl ⟨_,by intro W hW;go_simp<;>with_reducible rfl,?_⟩
 try simp only[Act.put,pA_,pB_,pC_]
 refine sU_ hS 6 rfl ⟨_,by intro W hW;go_simp<;>with_reducible rfl,?_⟩
 try simp only[Act.put,pA_,pB_,pC_]
 refine sU_ hS 7 rfl ⟨_,by intro W hW;go_simp<;>with_reducible rfl,?_⟩
 try simp only[Act.put,pA_,pB_,pC_]
 refine sU_ hS 8 rfl ⟨_,by intro W hW;go_simp<;>with_reducible rfl,?_⟩
 try simp only[Act.put,pA_,pB_,pC_]
 refine wpS_done (by kernel_rfl) ?_
 go_wp2_with fail
 go_ret2
 exact⟨_,rfl,HO1.out,HR1.out⟩
def acR (V:RV) (gu:Nat):List Value:=[.func (.func 74) #[] #[.pointer (some ⟨V.gt,0,none⟩),.pointer (some ⟨V.gs,0,none⟩)],
 .func (.func 75) #[] #[.pointer (some ⟨V.gt,0,none⟩),.pointer (some ⟨V.gs,0,none⟩)],
 .func (.func 77) #[] #[.pointer (some ⟨gu,0,none⟩),.pointer (some ⟨V.gs,0,none⟩)],
 .func (.func 79) #[] #[.pointer (some ⟨V.gt,0,none⟩),.pointer (some ⟨V.gs,0,none⟩)],
 .func (.func 81) #[] #[.pointer (some ⟨gu,0,none⟩),.pointer (some ⟨V.gs,0,none⟩)],
 .func (.func 82) #[] #[.pointer (some ⟨V.gs,0,none⟩),.pointer (some ⟨V.gm,0,none⟩)]]
theorem acR_one (V:RV) (gu:Nat):(acR V gu).toArray.all (·.oneCell')=true:=by kernel_rfl

set_option maxRecDepth 100000 in
set_option maxHeartbeats 4000000 in
theorem reading_any (g:Nat) (vg:Value) (m:List UInt8) (x0 vm:Value) (post:List Value) (vc vh vk:Value) (s:Sta) (w w0:World) (hb:Below w0.heap.size w0 w) (hg:w0.heap.size≤g) (hS:StV w0.heap.size g x0 vm post vc vh vk s w) (hp:Sls 17 post) (hm:Rd w0 vg m):
  Calls Tryz.prog 31 #[.pointer (some ⟨g,0,none⟩),vg] w fun e w'=>∃(V:RV) (gu:Nat),V.g=g∧e=.returned (.agg (acR V gu).toArray)∧Rr V w0 x0 vm s m w'∧Below w.heap.size w w':=by
 obtain⟨al,cl,el, -⟩:=id hm
 obtain⟨nl,hnl⟩:∃n:Nat,n=m.length:=⟨_,rfl⟩
 rw[←hnl] at el
 subst el
 have HM:Hid (Rd w0 (.slice al nl cl) m):=hm
 have HB:Hid (Below w0.heap.size w0 w):=hb
 have HG:Hid (w0.heap.size≤g):=hg
 have HS:Hid (StV w0.heap.size g x0 vm post vc vh vk s w):=hS
 have HP:Hid (Sls 17 post):=hp
 have hmf:=mkf17
 clear hm hb hg hS hp hnl
 go_enter Tryz.func31,Tryz.ntmps31
 go_wp2_with (refine wpList_box_val rfl 33 _ rfl (.pointer (some ⟨g,0,none⟩)) rfl (boxP17 _ _) ?_)
 intro w1 r1 b1 s1
 go_wp2_with (refine wpList_box_val rfl 26 _ rfl (.slice al nl cl) rfl (boxS17 _ _ _ _) ?_)
 intro w2 r2 b2 s2
 go_wp2_with (refine wpList_alloc_blk rfl 91 rfl noA (allocA17 _) ?_)
 intro w3 r3 b3 s3
 obtain⟨gs,hgs⟩:∃n:Nat,n=w.heap.size:=⟨_,rfl⟩
 obtain⟨gm,hgm⟩:∃n:Nat,n=w1.heap.size:=⟨_,rfl⟩
 obtain⟨ga,hga⟩:∃n:Nat,n=w2.heap.size:=⟨_,rfl⟩
 have q1:BlkAt gs 33 [.pointer (some ⟨g,0,none⟩)] w3:=by rw[hgs];exact(r1.kept b2).kept b3
 have q2:BlkAt gm 26 [.slice al nl cl] w3:=by rw[hgm];exact r2.kept b3
 have q4:BlkAt ga 91 noA w3:=by rw[hga];exact r3
 have bw:Below w.heap.size w w3:=stepB (stepB b1 b2) b3
 have HO:Hid (gs<gm∧gm<ga∧w.heap.size≤gs):=by
  have:=s1.out;have:=s2.out
  refine⟨?_,?_,?_⟩<;>omega
 rw[←hgs,←hgm,←hga]
 clear r1 r2 r3 b1 b2 b3 s1 s2 s3 hgs hgm hga
 go_wp2_with (refine wpList_alloc_blk rfl 130 rfl [.nilFunc] (allocF4 _) ?_)
 intro w6 r6 b6 s6
 obtain⟨gt,hgt⟩:∃n:Nat,Hid (n=w3.heap.size):=⟨_,rfl⟩
 rw[←hgt.out] at r6 ⊢
 have HGp:Hid (w.heap.size≤gt):=by show _≤_;rw[hgt.out];exact bw.size
 go_wp2_with (refine wpList_store_fn rfl 130 _ _ rfl rfl (.func 71) #[] #[.pointer (some ⟨gm,0,none⟩)] rfl szF4 r6 ?_)
 intro w7 r7 hw7
 have n7:∀{k ty cs},BlkAt k ty cs w3→BlkAt k ty cs w7:=fun {k ty cs} h=>(h.kept b6).wrote hw7 (by have:=h.lt;have:=hgt.out;omega)
 have q1':=n7 q1
 have q2':=n7 q2
 have q4':=n7 q4
 have bw7:Below w.heap.size w w7:=hw7.fresh (stepB bw b6) HGp.out
 clear n7 q1 q2 q4 bw r6 b6 s6 hw7 hgt
 go_wp2_with (refine wpList_alloc_blk rfl 130 rfl [.nilFunc] (allocF4 _) ?_)
 intro w8 r8 b8 s8
 obtain⟨gu,hgu⟩:∃n:Nat,Hid (n=w7.heap.size):=⟨_,rfl⟩
 rw[←hgu.out] at r8 ⊢
 have HGq:Hid (w.heap.size≤gu):=by show _≤_;rw[hgu.out];exact bw7.size
 go_wp2_with (refine wpList_store_fn rfl 130 _ _ rfl rfl (.func 72) #[] #[.pointer (some ⟨gs,0,none⟩),.pointer (some ⟨gt,0,none⟩)] rfl szF4 r8 ?_)
 intro w9 r9 hw9
 have n9:∀{k ty cs},BlkAt k ty cs w7→BlkAt k ty cs w9:=fun {k ty cs} h=>(h.kept b8).wrote hw9 (by have:=h.lt;have:=hgu.out;omega)
 have q1:=n9 q1'
 have q2:=n9 q2'
 have q4:=n9 q4'
 have q6:=n9 r7
 have bw9:Below w.heap.size w w9:=hw9.fresh (stepB bw7 b8) HGq.out
 clear n9 q1' q2' q4' r7 bw7 r8 b8 s8 hw9 hgu
 go_wp2_with (first
  |refine wpList_buildB rfl 91 _ rfl _ (by go_simp;rfl) _ (buildA17 _ _ _ _ _ _ _ _ _ _ _ _ _) ?_
  |(refine wpList_store_part rfl 91 _ _ rfl rfl (acR ⟨g,gs,gm,gt⟩ gu) rfl [] noA [] (acR ⟨g,gs,gm,gt⟩ gu) q4 rfl rfl rfl rfl infoA17 (acR_one _ _) ?_;intro wc rc hwc))
 refine bodyPost_blk rfl rfl rfl rc Tryz.underlying91 rfl infoA17 ?_
 have nc:∀{k ty cs},BlkAt k ty cs w9→ty≠91→BlkAt k ty cs wc:=fun {k ty cs} h hne=>h.wrote hwc (blk_ne h q4 hne)
 have bwc:Below w.heap.size w wc:=hwc.fresh bw9 (by have:=HO.out;omega)
 refine⟨⟨g,gs,gm,gt⟩,gu,rfl,rfl,⟨⟨nc q1 (by decide),nc q6 (by decide)⟩,HG.out,?_,post,vc,vh,vk,.slice al nl cl,⟨HS.out.kept bwc,HP.out,nc q2 (by decide),HM.out,stepB HB.out bwc⟩⟩,bwc⟩
 have:=HO.out;have:=HB.out.size;show _≤gm;omega

def r1S (s:Sta) (m:List UInt8):Sta:=mhS s (m.take 32)
def r2S (s:Sta) (m:List UInt8):Sta:=mhS (r1S s m) ((m.drop 32).take 1184)
def InR (V:RV) (w0:World) (x0 vm:Value) (s:Sta) (m:List UInt8):Nat→World→Prop
 |0,W=>Rr V w0 x0 vm s m W
 |1,W=>Rr V w0 x0 vm (r1S s m) (m.drop 32) W
 |_,W=>Rr V w0 x0 vm (r2S s m) ((m.drop 32).drop 1184) W
theorem InR.any {V:RV} {w0:World} {x0 vm:Value} {s:Sta} {m:List UInt8} {i:Nat} {W:World} (h:InR V w0 x0 vm s m i W):∃s' m',Rr V w0 x0 vm s' m' W:=by
 match i,h with
 |0,h=>exact⟨_,_,h⟩
 |1,h=>exact⟨_,_,h⟩
 |i+2,h=>exact⟨_,_,h⟩
theorem InR.kept {V:RV} {w0:World} {x0 vm:Value} {s:Sta} {m:List UInt8} (i:Nat) (W W':World) (h:InR V w0 x0 vm s m i W) (hb:Below W.heap.size W W'):InR V w0 x0 vm s m i W':=by
 match i,h with
 |0,h=>exact Rr.kept h hb
 |1,h=>exact Rr.kept h hb
 |i+2,h=>exact Rr.kept h hb

set_option maxRecDepth 100000 in
theorem rwalk_any (p:Ptn) (h2:1<p.n) (htk:p.tk 0=[1,8]) (V:RV) (gu:Nat) (x0:Value) (b off n cap:Nat) (s:Sta) (hkey:s.c.key=[]) (hlh:s.h.length≤1000) (m:List UInt8) (hlm:1216≤m.length) (hlx:m.length≤70000) (hck:ckE ((m.drop 32).take 1184)=0) (w w0:World) (hM:MsR w0 (.slice (some ⟨b,off,none⟩) n cap) p) (hT:Tabs w0)
  (hW:Rr V w0 x0 (.slice (some ⟨b,off,none⟩) n cap) s m w):
  Calls Tryz.prog 28 #[.pointer (some ⟨V.g,0,none⟩),.agg (acR V gu).toArray] w fun e w'=>∃v,e=.returned (.tuple #[v,.int .i64 0])∧Ow 5 w0.heap.size v ((m.drop 32).drop 1184) w'∧Rr V w0 x0 (.slice (some ⟨b,off+2,none⟩) (n - 1) (cap - 1)) (mhS (r2S s m) ((m.drop 32).drop 1184)) ((m.drop 32).drop 1184) w':=by
 have l1:(m.take 32).length=32:=by rw[List.length_take];omega
 have l2:((m.drop 32).take 1184).length=1184:=by rw[List.length_take,List.length_drop];omega
 refine walk_any V.g p h2 b off n cap (acR V gu) rfl 82 _ rfl (enters_by Tryz.func82 (by kernel_rfl) rfl) w w0 (InR V w0 x0 _ s m) (fun W=>Rr V w0 x0 (.slice (some ⟨b,off+2,none⟩) (n - 1) (cap - 1)) (r2S s m) ((m.drop 32).drop 1184) W)
  (fun v W=>Ow 5 w0.heap.size v ((m.drop 32).drop 1184) W∧Rr V w0 x0 (.slice (some ⟨b,off+2,none⟩) (n - 1) (cap - 1)) (mhS (r2S s m) ((m.drop 32).drop 1184)) ((m.drop 32).drop 1184) W) hM hW InR.kept (fun i W h=>by obtain⟨s',m',h'⟩:=h.any;exact h'.below) (fun i W h=>by obtain⟨s',m',h'⟩:=h.any;exact h'.cell1) ?_ ?_ ?_
 ·intro i hi W hI
  rw[htk] at hi ⊢
  match i,hi,hI with
  |0,_,hI=>
   have hI0:Rr V w0 x0 (.slice (some ⟨b,off,none⟩) n cap) s m W:=hI
   refine token_key 1 0 (.inl ⟨rfl,rfl⟩) V.g (acR V gu) 74 _ rfl (enters_by Tryz.func74 (by kernel_rfl) rfl) W (fun v W'=>Rd W' v (m.take 32)∧Rr V w0 x0 (.slice (some ⟨b,off,none⟩) n cap) s (m.drop 32) W'∧Stay 91 W W') (fun W'=>InR V w0 x0 (.slice (some ⟨b,off,none⟩) n cap) s m 1 W'∧Stay 91 W W') ?_ ?_
   ·intro W1 hb1
    refine Calls.mono (rcurve_any V w0 x0 _ s m (by omega) W1 (hI0.kept hb1)) ?_
    rintro e W2 ⟨v,rfl,h1,h3,h4⟩
    exact⟨v,rfl,h1,h3,(Stay.below hb1).trans h4⟩
   ·rintro v W1 ⟨h1,h3,h4⟩
    refine Calls.mono (rmix_any V w0 x0 _ s _ _ v (by rw[l1];omega) W1 h3 h1 hT) ?_
    rintro e W2 ⟨rfl,h5,h6⟩
    exact⟨rfl,h5,h4.trans h6⟩
  |1,_,hI=>
   have hI0:Rr V w0 x0 (.slice (some ⟨b,off,none⟩) n cap) (r1S s m) (m.drop 32) W:=hI
   refine token_key 8 1 (.inr ⟨rfl,rfl⟩) V.g (acR V gu) 75 _ rfl (enters_by Tryz.func75 (by kernel_rfl) rfl) W (fun v W'=>Rd W' v ((m.drop 32).take 1184)∧Rr V w0 x0 (.slice (some ⟨b,off,none⟩) n cap) (r1S s m) ((m.drop 32).drop 1184) W'∧Stay 91 W W') (fun W'=>InR V w0 x0 (.slice (some ⟨b,off,none⟩) n cap) s m 2 W'∧Stay 91 W W') ?_ ?_
   ·intro W1 hb1
    refine Calls.mono (rkem_any V w0 x0 _ (r1S s m) (m.drop 32) (by rw[List.length_drop];omega) hck W1 (hI0.kept hb1)) ?_
    rintro e W2 ⟨v,rfl,h1,h3,h4⟩
    exact⟨v,rfl,h1,h3,(Stay.below hb1).trans h4⟩
   ·rintro v W1 ⟨h1,h3,h4⟩
    refine Calls.mono (rmix_any V w0 x0 _ (r1S s m) _ _ v (by rw[l2];unfold r1S;rw[mhS_len];omega) W1 h3 h1 hT) ?_
    rintro e W2 ⟨rfl,h5,h6⟩
    exact⟨rfl,h5,h4.trans h6⟩
  |i+2,hi,_=>exact absurd hi (by simp)
 ·intro W hI
  rw[htk] at hI
  exact Rr.next hI _
 ·intro W hI
  exact rpayload_any V w0 x0 _ (r2S s m) hkey (by unfold r2S;rw[mhS_len];omega) _ (by rw[List.length_drop,List.length_drop];omega) W hI hT
theorem hread_nil (vm:Value) (w:World):Calls Tryz.prog 10 #[.pointer none,vm] w fun e w'=>e=.returned (.tuple #[.slice none 0 0,.int .i64 1])∧w'=w:=by
 go_enter Tryz.func10,Tryz.ntmps10
 go_wp2
 go_ret2
 exact⟨rfl,rfl⟩
theorem hneed_nil (w:World):Calls Tryz.prog 16 #[.pointer none] w fun e w'=>e=.returned (.int .i64 0)∧Below w.heap.size w w':=by
 go_enter Tryz.func16,Tryz.ntmps16
 go_wp2_with fail
 refine Calls.mono (hturn_nil _) ?_
 rintro e w1 ⟨rfl,b1⟩
 have HB:Hid _:=b1
 clear b1
 go_wp2
 go_ret
 exact⟨rfl,HB.out⟩
theorem hhash_nil (w:World):Calls Tryz.prog 17 #[.pointer none] w fun e w'=>e=.returned (.slice none 0 0)∧w'=w:=by
 go_enter Tryz.func17,Tryz.ntmps17
 go_wp2_with fail
 refine Calls.mono (hdone_nil _) ?_
 rintro e w1 ⟨rfl,rfl⟩
 go_wp2
 go_ret
 exact⟨rfl,rfl⟩

set_option maxRecDepth 100000 in
set_option maxHeartbeats 4000000 in
theorem hread_long (g:Nat) (i:Bool) (p:Ptn) (s:Sta) (hn:tuP p i=false) (h0n:p.n≠0) (vg:Value) (m:List UInt8) (hlm:65536<m.length) (w w0:World) (hS:ShP w0 g i p s w) (hm:Rd w vg m):
  Calls Tryz.prog 10 #[.pointer (some ⟨g,0,none⟩),vg] w fun e w'=>e=.returned (.tuple #[.slice none 0 0,.int .i64 14])∧Below w.heap.size w w':=by
 obtain⟨vm,cs,hB,h0,h1,hM⟩:=hS.blk
 have hDo:=hdone_any g cs vm p w hB h1 hM
 have hTu:=hturn_any g cs i vm p w hB h0 h1 hM
 rw[hn] at hTu
 rw[show decide (p.n=0)=false by simp;exact h0n] at hDo
 have HTu:Hid _:=hTu
 have HDo:Hid _:=hDo
 obtain⟨al,cl,rfl, -⟩:=id hm
 obtain⟨nt,hnt⟩:∃n:Nat,n=m.length:=⟨_,rfl⟩
 rw[←hnt] at hlm ⊢
 have e1:decide ((65536:Int)<(nt:Int))=true:=decide_eq_true (by omega)
 clear hS hB h0 h1 hM hTu hDo hn hm hnt hlm h0n
 go_enter Tryz.func10,Tryz.ntmps10
 go_wp2_with fail
 refine Calls.mono HDo.out ?_
 rintro e w1 ⟨rfl,rfl⟩
 go_wp2_with fail
 refine Calls.mono HTu.out ?_
 rintro e w2 ⟨rfl,b2⟩
 have HB:Hid _:=b2
 clear b2
 go_wp2
 go_ret2
 exact⟨rfl,HB.out⟩

set_option maxRecDepth 100000 in
set_option maxHeartbeats 8000000 in
theorem hread_any (p:Ptn) (hp2:1<p.n) (htk:p.tk 0=[1,8]) (g:Nat) (i:Bool) (hi:(p.ini 0==i)=false) (s:Sta) (hkey:s.c.key=[]) (hlc:s.ck.length≤1000) (hlh:s.h.length≤1000) (vg:Value) (m:List UInt8) (hlm:1216≤m.length) (hlx:m.length≤65536) (hck:ckE ((m.drop 32).take 1184)=0) (w w0:World) (hbw:Below w0.heap.size w0 w) (hT:Tabs w0) (hS:ShP w0 g i p s w) (hm:Rd w vg m):
  Calls Tryz.prog 10 #[.pointer (some ⟨g,0,none⟩),vg] w fun e w'=>∃v,e=.returned (.tuple #[v,.int .i64 0])∧Rd w' v ((m.drop 32).drop 1184)∧ShP w0 g i (tlP p) (mhS (r2S s m) ((m.drop 32).drop 1184)) w'∧Chg (fun k=>k=g) w w':=by
 obtain⟨hge,vm,post,hH,hQ,hp⟩:=id hS
 obtain⟨vc0,vh0,vk0,hB, -⟩:=id hH
 have hM:=hQ.rd
 have htu:tuP p i=false:=by unfold tuP;rw[hi];simp
 have hTu:=hturn_any g _ i vm p w hB rfl rfl hM
 rw[htu] at hTu
 have hDo:=hdone_any g _ vm p w hB rfl hM
 rw[show decide (p.n=0)=false by simp;omega] at hDo
 have HTu:Hid _:=hTu
 have HDo:Hid _:=hDo
 have HBr:Hid (∀W,Below w.heap.size w W→_):=fun W (hb:Below w.heap.size w W)=>branch_any g i vm post s p (by omega) (by omega) (by rw[hkey];simp) W w0 (hH.kept hb) (hM.kept hb) hp
 obtain⟨am,cap,evm, -, -,hfm⟩:=id hM.form
 rcases hfm with hfm|⟨b,off,rfl, -⟩
 ·omega
 obtain⟨n,hn⟩:∃n:Nat,n=p.n:=⟨_,rfl⟩
 rw[←hn] at evm
 subst evm
 have HWa:Hid (∀V gu W,Rr V w (.bool i) (.slice (some ⟨b,off,none⟩) n cap) s m W→_):=fun V gu W (h:Rr V w (.bool i) (.slice (some ⟨b,off,none⟩) n cap) s m W)=>rwalk_any p hp2 htk V gu (.bool i) b off n cap s hkey hlh m hlm (by omega) hck W w hM (hT.kept hbw) h
 have HWr:Hid (∀g2 W,Below w.heap.size w W→w.heap.size≤g2→StH w.heap.size g2 (.bool i) (.slice (some ⟨b,off,none⟩) n cap) post s W→Calls Tryz.prog 31 #[.pointer (some ⟨g2,0,none⟩),vg] W fun e w'=>∃(V:RV) (gu:Nat),V.g=g2∧e=.returned (.agg (acR V gu).toArray)∧Rr V w (.bool i) (.slice (some ⟨b,off,none⟩) n cap) s m w'∧Below W.heap.size W w'):=fun g2 W hb hg h=>by
  obtain⟨vc,vh,vk,h⟩:=h
  exact reading_any g2 vg m (.bool i) _ post vc vh vk s W w hb hg h hp hm
 have HQ:Hid (MsQ w (.slice (some ⟨b,off,none⟩) n cap) p):=hQ
 have HB:Hid (BlkAt g 101 _ w):=hB
 have HP:Hid (Sls 17 post):=hp
 have HP2:Hid (1<p.n):=hp2
 have HBW:Hid (w0.heap.size≤w.heap.size):=hbw.size
 have HGe:Hid (w0.heap.size≤g):=hge
 obtain⟨al,cl,rfl, -⟩:=id hm
 obtain⟨nt,hnt⟩:∃n:Nat,n=m.length:=⟨_,rfl⟩
 rw[←hnt] at hlx HWr ⊢
 obtain⟨M3,hM3⟩:∃S:List UInt8,S=(m.drop 32).drop 1184:=⟨_,rfl⟩
 rw[←hM3] at HWa ⊢
 obtain⟨S3,hS3⟩:∃S:Sta,S=mhS (r2S s m) M3:=⟨_,rfl⟩
 rw[←hS3] at HWa ⊢
 have e1:decide ((65536:Int)<(nt:Int))=false:=decide_eq_false (by omega)
 clear hS hH hB hM hTu hDo hm hge hQ hp hp2 hbw hT hlx hlm hnt htu hlc hlh hkey hi htk hn hS3 hM3 hck
 go_enter Tryz.func10,Tryz.ntmps10
 go_wp2_with fail
 refine Calls.mono HDo.out ?_
 rintro e w1 ⟨rfl,rfl⟩
 go_wp2_with fail
 refine Calls.mono HTu.out ?_
 rintro e w2 ⟨rfl,b2⟩
 have HB2:Hid (Below w1.heap.size w1 w2):=b2
 clear b2
 go_wp2_with fail
 refine Calls.mono (HBr.out _ HB2.out) ?_
 rintro e w3 ⟨g2,rfl,hg2,hS3,b3⟩
 have HB3:Hid (Below w1.heap.size w1 w3):=stepB HB2.out b3
 have HG2:Hid (w1.heap.size≤g2):=Nat.le_trans HB2.out.size hg2
 have HS3:Hid (StH w1.heap.size g2 (.bool i) (.slice (some ⟨b,off,none⟩) n cap) post s w3):=hS3.mono HB2.out.size
 clear b3 hg2 hS3
 go_wp2_with fail
 refine Calls.mono (HWr.out g2 _ HB3.out HG2.out HS3.out) ?_
 rintro e w4 ⟨V,gu,hV,rfl,hW4, -⟩
 have HV:Hid (V.g=g2):=hV
 have HWk:Hid _:=HWa.out V gu _ hW4
 rw[hV] at HWk
 clear hW4 hV
 go_wp2_with fail
 refine Calls.mono HWk.out ?_
 rintro e w5 ⟨v,rfl,hO5,hW5⟩
 obtain⟨post5,vc,vh,vk,vg',hC5⟩:=hW5.it
 have HB5:Hid (Below w1.heap.size w1 w5):=hC5.below
 have hne:g≠g2:=by have:=HB.out.lt;have:=HG2.out;omega
 have hst5:=hC5.st
 rw[HV.out] at hst5
 have hM5:MsQ w5 (.slice (some ⟨b,off+2,none⟩) (n - 1) (cap - 1)) (tlP p):=(HQ.out.kept HB5.out).tail HP2.out
 have hB5:=HB.out.kept HB5.out
 have HSe:Hid _:=settle_any g g2 hne i _ post5 S3 (tlP p) _ v w5 w0 hB5 (by simp[shD,HP.out.len]) (StH.mono ⟨_,_,_,hst5⟩ HBW.out) hM5.rd hC5.sl
 have HO5:Hid (Ow 5 w1.heap.size v M3 w5):=hO5
 have HM5:Hid (MsQ w5 (.slice (some ⟨b,off+2,none⟩) (n - 1) (cap - 1)) (tlP p)):=hM5
 have HSl:Hid (Sls 17 post5):=hC5.sl
 have HB5b:Hid (BlkAt g 101 _ w5):=hB5
 obtain⟨av,kv,rfl, -⟩:=id hO5.rd
 clear hC5 hW5 hO5 hst5 hM5 hB5 hne
 go_wp2_with fail
 refine Calls.mono HSe.out ?_
 rintro e w6 ⟨rfl,hS6,c6⟩
 have H6:Hid (ShP w0 g i (tlP p) S3 w6):=⟨HGe.out,_,_,hS6,HM5.out.chg HB5b.out ne_shm ne_sht c6,HSl.out⟩
 have HR6:Hid (Rd w6 (.slice av M3.length kv) M3):=(HO5.out.chg HB5b.out ne_shake c6).rd
 have HC6:Hid (Chg (fun k=>k=g) w1 w6):=(Chg.of_below HB5.out).trans c6
 clear hS6 c6
 go_wp2
 go_ret2
 exact⟨_,rfl,HR6.out,H6.out,HC6.out⟩
set_option maxRecDepth 100000 in
set_option maxHeartbeats 8000000 in
theorem parse_any (s:List UInt8) (hs:s.length≤maxLen) (w:World) (hT:TkT w):
  Calls Tryz.prog 12 #[.string ⟨s.toArray⟩] w fun e w'=>∃vm,e=.returned (.tuple #[.agg (paC (psQ s).1 vm).toArray,.int .i64 (psQ s).2])∧MsR w' vm (psQ s).1∧Below w.heap.size w w':=by
 obtain⟨L,hL⟩:∃L:Nat,L=s.length:=⟨_,rfl⟩
 have HL:Hid (L=s.length):=hL
 unfold maxLen at hs
 rw[←hL] at hs
 have HT:Hid (TkT w):=hT
 obtain⟨SB,hSB⟩:∃B:ByteArray,B=⟨s.toArray⟩:=⟨_,rfl⟩
 have hsz:SB.size=L:=by rw[hSB,hL];exact str_size _
 have HSB:Hid (SB=⟨s.toArray⟩):=hSB
 rw[←hSB]
 clear hL hT hSB
 go_enter Tryz.func12,Tryz.ntmps12
 go_wp2_with (refine wpList_alloc_blk rfl 25 rfl (paC zeP (.slice none 0 0)) (allocPa _) ?_)
 intro w1 r1 b1 s1
 have HB1:Hid (Below w.heap.size w w1):=b1
 have HT1:Hid (TkT w1):=HT.out.kept b1
 obtain⟨g2,hg2⟩:∃g:Nat,g=w.heap.size:=⟨_,rfl⟩
 rw[←hg2] at r1 ⊢
 have hgw:w.heap.size≤g2:=by omega
 have hgl:g2<w1.heap.size:=r1.lt
 have bp0:=fun w=>buildPa w
 clear b1 s1 hg2 HT
 by_cases h4:4096<L
 ·have d1:decide ((4096:Int)<(L:Int))=true:=decide_eq_true (by omega)
  have d2:(4096:Int)<(L:Int):=by omega
  have HQ:Hid (psQ s=(zeP,1)):=by show _=_;unfold psQ;rw[if_pos (by rw[←HL.out];exact h4)]
  go_wp2_with (refine wpList_store_part rfl 25 _ _ rfl rfl (paC zeP (.slice none 0 0)) rfl [] (paC zeP (.slice none 0 0)) [] (paC zeP (.slice none 0 0)) r1 (whole15 _) (whole15 _) rfl rfl (paInfo _ _) (paC_all _ _ _ _) ?_)
  intro w3 r3 hw3
  have HB3:Hid (Below w.heap.size w w3):=hw3.below _ _ hgw HB1.out
  go_wp2
  refine bodyPost_blk2 rfl rfl rfl rfl r3 Tryz.underlying25 rfl (paInfo _ _) ?_
  exact⟨.slice none 0 0,by rw[HQ.out];rfl,by rw[HQ.out];exact zeP_ms _,HB3.out⟩
 ·have d1:decide ((4096:Int)<(L:Int))=false:=decide_eq_false (by omega)
  have d2:(L:Int)≤4096:=by omega
  have hsl:s.length≤4096:=by rw[←HL.out];omega
  have HQ:Hid (psQ s=psO (rdF15 (lnS s))):=by show _=_;unfold psQ;rw[if_neg (by omega)]
  have HLn:Hid ((lnS s).length≤4097∧∀x∈lnS s,x.length≤4096):=by
   refine⟨?_,fun x hx=>Nat.le_trans (lnL_mem hx).2 hsl⟩
   rw[←lnT_end s]
   have h1:=lnT_le (splL 10 s) (splL 10 s).length
   have h2:=splL_count 10 s
   omega
  go_wp2_with fail
  rw[HSB.out]
  refine(linesOf_any s hsl _ HT1.out).mono ?_
  rintro e w2 ⟨v,rfl,hO⟩
  rw[←HSB.out]
  have r2:=r1.kept hO.below
  have HB2:Hid (Below w.heap.size w w2):=stepB HB1.out hO.below
  have HT2:Hid (TkT w2):=HT1.out.kept hO.below
  have HO2:Hid (OwnG w1 [Rw.st v (lnS s)] w2):=hO
  have hgl2:g2<w2.heap.size:=r2.lt
  clear hO r1 hsl
  go_wp2_with fail
  refine(read15_any (lnS s) v HLn.out.1 HLn.out.2 w1 _ HO2.out HT2.out).mono ?_
  rintro e w3 ⟨b3,hcase⟩
  replace r2:=r2.kept b3
  have HB3:Hid (Below w.heap.size w w3):=stepB HB2.out b3
  have HSz3:Hid (w2.heap.size≤w3.heap.size):=b3.size
  have HGl3:Hid (g2<w3.heap.size):=r2.lt
  clear b3 HO2 HT2
  rcases hcase with ⟨q,vm,hq,rfl,hM⟩|⟨hq,rfl⟩
  ·have HQ2:Hid (psQ s=(q,0)):=by show _=_;rw[HQ.out,hq];rfl
   obtain⟨am,nm',cm,rfl⟩:=ms_form (hM _ (Chg.refl _ _))
   have HM:Hid (∀W,Chg (fun b=>b<w2.heap.size) w3 W→MsR W (.slice am nm' cm) q):=hM
   clear hM hq
   go_wp2_with (refine wpList_alloc_blk rfl 25 rfl (paC zeP (.slice none 0 0)) (allocPa _) ?_)
   intro w4 r4 b4 s4
   have r2':=r2.kept b4
   go_wp2_with (refine wpList_store_part rfl 25 _ _ rfl rfl (paC q (.slice am nm' cm)) rfl [] (paC zeP (.slice none 0 0)) [] (paC q (.slice am nm' cm)) r4 (whole15 _) (whole15 _) rfl rfl (paInfo zeP (.slice none 0 0)) (paC_all _ _ _ _) ?_)
   intro w5 r5 hw5
   have r2'':=r2'.wrote hw5 (by have:=HGl3.out;omega)
   have HC5:Hid (Chg (fun b=>b<w2.heap.size) w3 w5):=(Chg.of_below b4).step (Chg.of_wrote hw5) (fun i hi e=>by omega)
   have HB5:Hid (Below w.heap.size w w5):=hw5.below _ _ HB3.out.size (stepB HB3.out b4)
   clear r4 b4 s4 hw5 r2 r2'
   go_wp2_with (first
    |refine wpList_load_part rfl 25 _ rfl rfl [] (paC q (.slice am nm' cm)) [] r5 (whole15 _) rfl Tryz.underlying25 rfl (paInfo q _) ?_
    |refine wpList_store_part rfl 25 _ _ rfl rfl (paC q (.slice am nm' cm)) rfl [] (paC zeP (.slice none 0 0)) [] (paC q (.slice am nm' cm)) r2'' (whole15 _) (whole15 _) rfl rfl (paInfo zeP (.slice none 0 0)) (paC_all _ _ _ _) ?_)
   intro w8 r8 hw8
   have HB8:Hid (Below w.heap.size w w8):=hw8.below _ _ hgw HB5.out
   have HM8:Hid (MsR w8 (.slice am nm' cm) q):=HM.out _ (HC5.out.trans ((Chg.of_wrote hw8).mono fun k _ e=>by omega))
   go_wp2
   refine bodyPost_blk2 rfl rfl rfl rfl r8 Tryz.underlying25 rfl (paInfo _ _) ?_
   exact⟨_,by rw[HQ2.out];rfl,by rw[HQ2.out];exact HM8.out,HB8.out⟩
  ·have HQ2:Hid (psQ s=(zeP,20)):=by show _=_;rw[HQ.out,hq];rfl
   clear hq
   go_wp2_with (refine wpList_alloc_blk rfl 25 rfl (paC zeP (.slice none 0 0)) (allocPa _) ?_)
   intro w4 r4 b4 s4
   have r2':=r2.kept b4
   go_wp2_with (refine wpList_store_part rfl 25 _ _ rfl rfl (paC zeP (.slice none 0 0)) rfl [] (paC zeP (.slice none 0 0)) [] (paC zeP (.slice none 0 0)) r4 (whole15 _) (whole15 _) rfl rfl (paInfo zeP (.slice none 0 0)) (paC_all _ _ _ _) ?_)
   intro w5 r5 hw5
   have r2'':=r2'.wrote hw5 (by have:=HGl3.out;omega)
   have HB5:Hid (Below w.heap.size w w5):=hw5.below _ _ HB3.out.size (stepB HB3.out b4)
   clear r4 b4 s4 hw5 r2 r2' r5
   go_wp2_with (refine wpList_store_part rfl 25 _ _ rfl rfl (paC zeP (.slice none 0 0)) rfl [] (paC zeP (.slice none 0 0)) [] (paC zeP (.slice none 0 0)) r2'' (whole15 _) (whole15 _) rfl rfl (paInfo _ _) (paC_all _ _ _ _) ?_)
   intro w8 r8 hw8
   have HB8:Hid (Below w.heap.size w w8):=hw8.below _ _ hgw HB5.out
   go_wp2
   refine bodyPost_blk2 rfl rfl rfl rfl r8 Tryz.underlying25 rfl (paInfo _ _) ?_
   exact⟨.slice none 0 0,by rw[HQ2.out];rfl,by rw[HQ2.out];exact zeP_ms _,HB8.out⟩
def nnT:List UInt8:=[78,78,58,10,45,62,32,101,44,32,101,49,10,60,45,32,101,107,101,109,44,32,101,44,32,101,101,10]
def nnP:Ptn:=⟨[78,78],false,false,[(true,[1,8]),(false,[9,1,3])]⟩
theorem nn_read:psQ nnT=(nnP,0):=by kernel_rfl
theorem nn_ck:ckA nnP=0:=by decide+kernel
theorem nn_say (i:Bool):sayB nnP i 2=false∧sayB nnP true 7=false∧sayB nnP false 7=false:=by cases i<;>decide+kernel
theorem nn_tk (k:Nat):(nnP.tk k).length≤1000:=by
 match k with
 |0=>decide
 |1=>decide
 |k+2=>simp[nnP,Ptn.tk]
def nnS:Sta:=mhS (nwS (hdN nnP)) []
theorem nn_key:nnS.c.key=[]:=rfl
theorem nn_h:nnS.h.length=32:=s2L_length _
theorem nn_c:nnS.ck.length=32:=nwH_length (hdN nnP)
theorem build_prZ (w:World):(Instr.build 45 #[]).run Tryz.prog w=.ok (.agg prZ.toArray) w:=by kernel_rfl
theorem nn_new (i:Bool) (vm:Value) (A O T:Array Value) (hA:A=(paC nnP vm).toArray) (hO:O=prZ.toArray) (hT':T=prZ.toArray) (w w0:World) (hbw:Below w0.heap.size w0 w) (hM:MsR w vm nnP) (hT:Tabs w0):
  Calls Tryz.prog 13 #[.agg A,.bool i,.slice none 0 0,.agg O,.agg T,.slice none 0 0] w fun e w'=>∃g,e=.returned (.tuple #[.pointer (some ⟨g,0,none⟩),.int .i64 0])∧w.heap.size≤g∧ShP w0 g i nnP nnS w'∧Below w.heap.size w w':=
 new_plain nnP vm A O T hA hO hT' i nn_ck rfl rfl (nn_say i).1 (nn_say i).2.1 (nn_say i).2.2 (by decide) (by decide) nn_tk _ _ [] (by decide) (by have h:=nwH_length (hdN nnP);show(nwH (hdN nnP)).length≤1000;omega) w w0 hbw hM (Rd.nil _) hT
theorem ShP.chg {w0 w w':World} {g g2:Nat} {i j:Bool} {p q:Ptn} {s t:Sta} (h:ShP w0 g i p s w) (h2:ShP w0 g2 j q t w) (c:Chg (fun b=>b=g2) w w') (hne:g≠g2):ShP w0 g i p s w':=by
 obtain⟨vm,cs,hB, -⟩:=h2.blk
 exact h.other hB c hne
theorem bodyPost_blks17 {P:Program} {fn:Func} {p q r:Tmp} {ty bt bu:TypeId} {g k:Nat} {cs ds:List Value} {d:TypeDesc} {v:Value} {R:Ending→World→Prop} {a:Act} {w:World} (h:fn.results=#[.cell p ty,.cell q ty,.tmp r]) (hd:a.defers=[])
  (hp:a.tmps.getD p undef=.pointer (some ⟨g,0,none⟩)) (hq:a.tmps.getD q undef=.pointer (some ⟨k,0,none⟩)) (hr:a.tmps.getD r undef=v) (hb:BlkAt g bt cs w) (hc:BlkAt k bu ds w) (hu:P.underlying ty=some d) (hrow:d.isRow=true) (hi:(P.info? ty).map (·.size)=some cs.length) (hj:(P.info? ty).map (·.size)=some ds.length)
  (hR:R (.returned (.tuple #[.agg cs.toArray,.agg ds.toArray,v])) w):bodyPost P fn R .ret a w:=by
 refine bodyPost_ret ?_ hd hR
 have hp':a.tmps[p]?.getD undef=.pointer (some ⟨g,0,none⟩):=by simpa using hp
 have hq':a.tmps[q]?.getD undef=.pointer (some ⟨k,0,none⟩):=by simpa using hq
 have hr':a.tmps[r]?.getD undef=v:=by simpa using hr
 have hb':BlkAt g bt (([]:List Value)++cs++[]) w:=by simpa using hb
 have hc':BlkAt k bu (([]:List Value)++ds++[]) w:=by simpa using hc
 have hl:=run_loadVar_mid (P:=P) w g 0 ty cs d hb'.range hu hrow hi
 have hm:=run_loadVar_mid (P:=P) w k 0 ty ds d hc'.range hu hrow hj
 simp[results,h,hp',hq',hr',asAddr,hl,hm]
def zci:List Value:=[.slice none 0 0,.int .u64 0]
theorem alloc_zci (w:World):(Instr.alloc 61 true (.tuple #[])).run Tryz.prog w=.ok (.pointer (some ⟨w.heap.size,0,none⟩)) (w.alloc (.cells zci.toArray 61)):=by kernel_rfl
theorem build_zci (w:World):(Instr.build 61 #[]).run Tryz.prog w=.ok (.agg zci.toArray) w:=by kernel_rfl
theorem info_zci:(Tryz.prog.info? 61).map (·.size)=some 2:=by kernel_rfl
theorem alloc_pr (w:World):(Instr.alloc 45 true (.tuple #[])).run Tryz.prog w=.ok (.pointer (some ⟨w.heap.size,0,none⟩)) (w.alloc (.cells prZ.toArray 45)):=by kernel_rfl
theorem one_pr:prZ.toArray.all (·.oneCell')=true:=by kernel_rfl
theorem one_zci:zci.toArray.all (·.oneCell')=true:=by kernel_rfl
theorem info_pr:(Tryz.prog.info? 45).map (·.size)=some 4:=by kernel_rfl

set_option maxRecDepth 100000 in
set_option maxHeartbeats 2000000 in
theorem other_nil (w:World):Calls Tryz.prog 18 #[.pointer none] w fun e w'=>e=.returned (.agg prZ.toArray)∧Below w.heap.size w w':=by
 go_enter Tryz.func18,Tryz.ntmps18
 go_wp2_with (refine wpList_alloc_blk rfl 45 rfl prZ (alloc_pr _) ?_)
 intro w1 r1 b1 s1
 go_wp2_with (first
  |refine wpList_buildB rfl 45 _ rfl #[] (by go_simp) _ (build_prZ _) ?_
  |(refine wpList_store_part rfl 45 _ _ rfl rfl prZ rfl [] prZ [] prZ r1 rfl rfl rfl rfl info_pr one_pr ?_;intro w2 r2 hw2))
 refine bodyPost_blk rfl rfl rfl r2 Tryz.underlying45 rfl info_pr ?_
 exact⟨rfl,hw2.fresh b1 (Nat.le_refl _)⟩
set_option maxRecDepth 100000 in
set_option maxHeartbeats 2000000 in
theorem split_nil (w:World):Calls Tryz.prog 11 #[.pointer none] w fun e w'=>e=.returned (.tuple #[.agg zci.toArray,.agg zci.toArray,.int .i64 1])∧Below w.heap.size w w':=by
 go_enter Tryz.func11,Tryz.ntmps11
 go_wp2_with (refine wpList_alloc_blk rfl 61 rfl zci (alloc_zci _) ?_)
 intro w1 r1 b1 s1
 go_wp2_with (refine wpList_alloc_blk rfl 61 rfl zci (alloc_zci _) ?_)
 intro w2 r2 b2 s2
 obtain⟨g1,hg1⟩:∃n:Nat,Hid (n=w.heap.size):=⟨_,rfl⟩
 obtain⟨g2,hg2⟩:∃n:Nat,Hid (n=w1.heap.size):=⟨_,rfl⟩
 have q1:BlkAt g1 61 zci w2:=by rw[hg1.out];exact r1.kept b2
 have q2:BlkAt g2 61 zci w2:=by rw[hg2.out];exact r2
 have HL:Hid (w.heap.size≤g1∧g1<g2):=by have:=s1.out;have:=hg1.out;have:=hg2.out;exact⟨by omega,by omega⟩
 have HB:Hid (Below w.heap.size w w2):=stepB b1 b2
 rw[←hg1.out,←hg2.out]
 clear r1 r2 b1 b2 s1 s2 hg1 hg2
 go_wp2_with (first
  |refine wpList_buildB rfl 61 _ rfl #[] (by go_simp) _ (build_zci _) ?_
  |(refine wpList_store_part rfl 61 _ _ rfl rfl zci rfl [] zci [] zci q1 rfl rfl rfl rfl info_zci one_zci ?_;intro w3 r3 hw3;have q3:BlkAt g2 61 zci w3:=q2.wrote hw3 (by have:=HL.out;omega))
  |(refine wpList_store_part rfl 61 _ _ rfl rfl zci rfl [] zci [] zci q3 rfl rfl rfl rfl info_zci one_zci ?_;intro w4 r4 hw4))
 have q4:BlkAt g1 61 zci w4:=r3.wrote hw4 (by have:=HL.out;omega)
 have bF:Below w.heap.size w w4:=hw4.fresh (hw3.fresh HB.out HL.out.1) (by have:=HL.out;omega)
 refine bodyPost_blks17 rfl rfl rfl rfl rfl q4 r4 Tryz.underlying61 rfl info_zci info_zci ?_
 exact⟨rfl,bF⟩
theorem Rd.marked17 {w:World} {e:TypeId} {fr:Nat×Nat} (l:List UInt8) {cs:Array Value} {n b:Nat} (h:cs=(l.map bv).toArray) (hn:n=l.length) (hb:b=w.heap.size) (hm:l.length≤maxLen):Rd (w.alloc (.cells cs e fr)) (.slice (some ⟨b,0,none⟩) n n) l:=by
 subst h hn hb
 refine⟨_,_,rfl,Nat.le_refl _,hm,(fun h=>by cases h),.inr ⟨_,0,rfl,fun i hi=>?_⟩⟩
 have hh:(w.alloc (.cells (l.map bv).toArray e fr)).heap[w.heap.size]?=some (.cells (l.map bv).toArray e fr):=by
  show(w.heap.push _)[w.heap.size]?=_
  simp
 unfold World.cell?
 rw[hh]
 simp[hi,bv]
theorem ShP.lt {w0 w:World} {g:Nat} {i:Bool} {p:Ptn} {s:Sta} (h:ShP w0 g i p s w):g<w.heap.size:=by
 obtain⟨vm,cs,hB, -⟩:=h.blk
 exact hB.lt
theorem ShP.gone {w0 w w':World} {g:Nat} {i:Bool} {p:Ptn} {s:Sta} (h:ShP w0 g i p s w) (hb:Below w0.heap.size w0 w) (c:Chg (fun b=>b=g) w w'):Below w0.heap.size w0 w':=Chg.gone hb c hb.size h.ge
theorem ShP.turn {w0 w:World} {g:Nat} {i:Bool} {p:Ptn} {s:Sta} (h:ShP w0 g i p s w):Calls Tryz.prog 14 #[.pointer (some ⟨g,0,none⟩)] w fun e w'=>e=.returned (.bool (tuP p i))∧Below w.heap.size w w':=by
 obtain⟨vm,cs,hB,h0,h1,hM⟩:=h.blk
 exact hturn_any g cs i vm p w hB h0 h1 hM
theorem ShP.done {w0 w:World} {g:Nat} {i:Bool} {p:Ptn} {s:Sta} (h:ShP w0 g i p s w):Calls Tryz.prog 15 #[.pointer (some ⟨g,0,none⟩)] w fun e w'=>e=.returned (.bool (decide (p.n=0)))∧w'=w:=by
 obtain⟨vm,cs,hB,h0,h1,hM⟩:=h.blk
 exact hdone_any g cs vm p w hB h1 hM
theorem ShP.need {w0 w:World} {g:Nat} {i:Bool} {p:Ptn} {s:Sta} (h:ShP w0 g i p s w) (ht:∀x∈p.tk 0,x≤10) (h12:(p.tk 0).length≤1000):Calls Tryz.prog 16 #[.pointer (some ⟨g,0,none⟩)] w fun e w'=>e=.returned (.int .i64 (neP p i:Int))∧Below w.heap.size w w':=by
 obtain⟨vm,cs,hB,h0,h1,hM⟩:=h.blk
 exact hneed_any g cs i vm p ht h12 w hB h0 h1 hM
theorem nn_le:∀x∈nnP.tk 0,x≤10:=by decide
def heL:List UInt8:=[104,101,108,108,111]
def aw_c:List UInt8:=List.replicate 96 0
def aw_m:List UInt8:=w2M aw_c++heL
theorem aw_len:aw_m.length=1221:=by
 have l1:(enL (scN (aw_c.take 32) key9)).length=32:=enL_length _
 have l2:(ekL ((aw_c.drop 32).take 32)).length=1184:=ekL_length _
 unfold aw_m w2M
 simp only[List.length_append,List.length_nil,l1,l2]
 rfl
theorem aw_cut:(aw_m.drop 32).take 1184=ekL ((aw_c.drop 32).take 32)∧(aw_m.drop 32).drop 1184=heL:=by
 have l1:(enL (scN (aw_c.take 32) key9)).length=32:=enL_length _
 have l2:(ekL ((aw_c.drop 32).take 32)).length=1184:=ekL_length _
 have e:aw_m.drop 32=ekL ((aw_c.drop 32).take 32)++heL:=by
  unfold aw_m w2M
  rw[List.nil_append,List.append_assoc,List.drop_left' l1]
 rw[e]
 exact⟨List.take_left' l2,List.drop_left' l2⟩
theorem aw_ck:ckE ((aw_m.drop 32).take 1184)=0:=by
 rw[aw_cut.1]
 exact ckE_key _

set_option maxRecDepth 100000 in
set_option maxHeartbeats 8000000 in
theorem awake_any (w:World) (hTk:TkT w) (hT:Tabs w) (hPw:PwT w):Calls Tryz.prog 5 #[] w fun e w'=>e=.returned (.bool true)∧Below w.heap.size w w':=by
 obtain⟨ti,hti,hz0,hz1,hz2⟩:=info_parts info5
 have HTk:Hid (TkT w):=hTk
 have HT:Hid (Tabs w):=hT
 have HPw:Hid (PwT w):=hPw
 have kc:=fun(w:World) (C:Array Value) (n c:Nat)=>Lib.run_convert_bytes_const (P:=Tryz.prog) w 26 5 C n c Tryz.underlying26 Tryz.underlying5
 clear hTk hT hPw
 go_enter Tryz.func5,Tryz.ntmps5
 go_wp2_with fail
 refine(parse_any nnT (by decide) _ HTk.out).mono ?_
 rw[nn_read]
 rintro e w2 ⟨vm,rfl,hm,b2⟩
 dsimp only at hm ⊢
 obtain⟨am,nm,cm,rfl⟩:∃a n c,vm=.slice a n c:=by obtain⟨a,c,e, -⟩:=hm.form;exact⟨a,_,c,e⟩
 go_wp2_with (refine wpList_alloc_blk rfl 25 rfl (paC zeP (.slice none 0 0)) (allocPa _) ?_)
 intro w3 r3 b3 s3
 go_wp2_with (refine wpList_store_part rfl 25 _ _ rfl rfl (paC nnP (.slice am nm cm)) rfl [] (paC zeP (.slice none 0 0)) [] (paC nnP (.slice am nm cm)) r3 (whole15 _) (whole15 _) rfl rfl (paInfo zeP (.slice none 0 0)) (paC_all _ _ _ _) ?_)
 intro w4 r4 hw4
 have b4:=hw4.below _ _ (Nat.le_refl _) b3
 have hbw:Below w.heap.size w w4:=stepB b2 b4
 have HM:Hid (MsR w4 (.slice am nm cm) nnP):=hm.kept b4
 obtain⟨gp,hgp⟩:∃n:Nat,Hid (n=w2.heap.size):=⟨_,rfl⟩
 rw[←hgp.out] at r4 ⊢
 have HB4:Hid (Below w.heap.size w w4):=hbw
 obtain⟨PC,hPC⟩:∃l:List Value,l=paC nnP (.slice am nm cm):=⟨_,rfl⟩
 have HPC:Hid (PC=paC nnP (.slice am nm cm)):=hPC
 rw[←hPC] at r4
 have hinf:(Tryz.prog.info? 25).map (·.size)=some PC.length:=by rw[hPC];exact infoPat _ _
 clear r3 b3 s3 hw4 b4 b2 hm hbw hPC
 go_wp2_with (first
  |refine wpList_load_part rfl 25 _ rfl rfl [] PC [] r4 (by simp) rfl Tryz.underlying25 rfl hinf ?_
  |refine wpList_buildB rfl 45 _ rfl #[] (by go_simp) _ (build_prZ _) ?_)
 refine Calls.mono (nn_new true _ _ _ _ (congrArg List.toArray HPC.out) rfl rfl _ w HB4.out HM.out HT.out) ?_
 rintro e w5 ⟨gx,rfl,hgx,hX5,b5⟩
 have HX5:Hid (ShP w gx true nnP nnS w5):=hX5
 have HB5:Hid (Below w.heap.size w w5):=stepB HB4.out b5
 have HM5:Hid (MsR w5 (.slice am nm cm) nnP):=HM.out.kept b5
 replace r4:=r4.kept b5
 clear hX5 b5 hgx HM HB4
 go_wp2_with (first
  |refine wpList_load_part rfl 25 _ rfl rfl [] PC [] r4 (by simp) rfl Tryz.underlying25 rfl hinf ?_
  |refine wpList_buildB rfl 45 _ rfl #[] (by go_simp) _ (build_prZ _) ?_)
 refine Calls.mono (nn_new false _ _ _ _ (congrArg List.toArray HPC.out) rfl rfl _ w HB5.out HM5.out HT.out) ?_
 rintro e w6 ⟨gy,rfl,hgy,hY6,b6⟩
 have HY6:Hid (ShP w gy false nnP nnS w6):=hY6
 have HX6:Hid (ShP w gx true nnP nnS w6):=HX5.out.kept b6
 have HB6:Hid (Below w.heap.size w w6):=stepB HB5.out b6
 have HNe:Hid (gx≠gy):=by have:=HX5.out.lt;show gx≠gy;omega
 clear hY6 b6 hgy HX5 HM5 HB5 r4 hinf
 go_wp2_with fail
 refine Calls.mono (HX6.out.need nn_le (by decide)) ?_
 rintro e w7 ⟨rfl,b7⟩
 rw[show neP nnP true=96 from by decide]
 have HX7:Hid (ShP w gx true nnP nnS w7):=HX6.out.kept b7
 have HY7:Hid (ShP w gy false nnP nnS w7):=HY6.out.kept b7
 have HB7:Hid (Below w.heap.size w w7):=stepB HB6.out b7
 clear b7 HX6 HY6 HB6
 go_wp2_with fail
 refine Calls.mono HX7.out.turn ?_
 rintro e w8 ⟨rfl,b8⟩
 rw[show tuP nnP true=true from by decide]
 have HX8:Hid (ShP w gx true nnP nnS w8):=HX7.out.kept b8
 have HY8:Hid (ShP w gy false nnP nnS w8):=HY7.out.kept b8
 have HB8:Hid (Below w.heap.size w w8):=stepB HB7.out b8
 clear b8 HX7 HY7 HB7
 go_wp2_with fail
 refine Calls.mono HY8.out.turn ?_
 rintro e w9 ⟨rfl,b9⟩
 rw[show tuP nnP false=false from by decide]
 have HX9:Hid (ShP w gx true nnP nnS w9):=HX8.out.kept b9
 have HY9:Hid (ShP w gy false nnP nnS w9):=HY8.out.kept b9
 have HB9:Hid (Below w.heap.size w w9):=stepB HB8.out b9
 clear b9 HX8 HY8 HB8
 have ba:Below w9.heap.size w9 (w9.alloc (.cells #[.int .u8 104,.int .u8 101,.int .u8 108,.int .u8 108,.int .u8 111] 5 (5,6))):=growB _
 have hRa:Rd (w9.alloc (.cells #[.int .u8 104,.int .u8 101,.int .u8 108,.int .u8 108,.int .u8 111] 5 (5,6))) (.slice (some ⟨w9.heap.size,0,none⟩) 5 5) heL:=Rd.marked17 heL rfl rfl rfl (by decide)
 obtain⟨n9,hn9⟩:∃n:Nat,Hid (n=w9.heap.size):=⟨_,rfl⟩
 generalize hwa:w9.alloc (.cells #[.int .u8 104,.int .u8 101,.int .u8 108,.int .u8 108,.int .u8 111] 5 (5,6))=wa at ba hRa
 have HWa:Hid (w9.alloc (.cells #[.int .u8 104,.int .u8 101,.int .u8 108,.int .u8 108,.int .u8 111] 5 (5,6))=wa):=hwa
 clear hwa
 go_wp2_with (at_make;rw[HWa.out];go_must (refine wpList_make_full _ rfl _ _ 26 rfl wa.heap.size 5 ti _ 1 Tryz.underlying26 hti hz0 hz1 _ _ _ _ 96 rfl rfl rfl rfl (by rw[hz2];omega) (by unfold maxLen;omega) (Nat.le_refl _) ?_))
 intro wb hown hgr
 have hNb:=New.made hown hgr
 have hRb:Rd wb (.slice (some ⟨wa.heap.size,0,none⟩) 96 96) aw_c:=hNb.rd
 have bb:=hNb.2
 have HXb:Hid (ShP w gx true nnP nnS wb):=(HX9.out.kept ba).kept bb
 have HYb:Hid (ShP w gy false nnP nnS wb):=(HY9.out.kept ba).kept bb
 have HBb:Hid (Below w.heap.size w wb):=stepB (stepB HB9.out ba) bb
 have HRa:Hid (Rd wb (.slice (some ⟨w9.heap.size,0,none⟩) 5 5) heL):=hRa.kept bb
 have HRb:Hid (Rd wb (.slice (some ⟨wa.heap.size,0,none⟩) 96 96) aw_c):=hRb
 clear hown hgr hNb hRb bb ba hRa HX9 HY9 HB9 HWa
 go_wp2_with fail
 refine Calls.mono (write_any nnP (by decide) rfl gx true rfl nnS nn_key (by rw[nn_c];decide) (by rw[nn_h];decide) _ _ heL aw_c (by decide) (by decide) _ w HBb.out HT.out HPw.out HXb.out HRa.out HRb.out) ?_
 rintro e wc ⟨v,rfl,hRc,hXc,cc⟩
 replace hRc:Rd wc v aw_m:=hRc
 obtain⟨S1,hS1⟩:∃s:Sta,s=mhS (w2S nnS aw_c) heL:=⟨_,rfl⟩
 rw[←hS1] at hXc
 obtain⟨av,cv,rfl, -⟩:=id hRc
 rw[aw_len] at hRc ⊢
 have HRc:Hid (Rd wc (.slice av 1221 cv) aw_m):=hRc
 have HXc:Hid (ShP w gx true (tlP nnP) S1 wc):=hXc
 have HYc:Hid (ShP w gy false nnP nnS wc):=HYb.out.chg HXb.out cc HNe.out.symm
 have HBc:Hid (Below w.heap.size w wc):=HXb.out.gone HBb.out cc
 clear hRc hXc cc hS1 HXb HYb HBb HRa HRb
 go_wp2_with fail
 refine Calls.mono (write_state gx true (tlP nnP) S1 (by decide) _ _ _ w HXc.out) ?_
 rintro e wd ⟨rfl,bd⟩
 have HYd:Hid (ShP w gy false nnP nnS wd):=HYc.out.kept bd
 have HBd:Hid (Below w.heap.size w wd):=stepB HBc.out bd
 have HRd:Hid (Rd wd (.slice av 1221 cv) aw_m):=HRc.out.kept bd
 clear bd HYc HBc HRc HXc
 go_wp2_with fail
 refine Calls.mono (hread_any nnP (by decide) rfl gy false rfl nnS nn_key (by rw[nn_c];decide) (by rw[nn_h];decide) _ aw_m (by rw[aw_len];decide) (by rw[aw_len];decide) aw_ck _ w HBd.out HT.out HYd.out HRd.out) ?_
 rw[aw_cut.2]
 rintro e we ⟨u,rfl,hRe,hYe,ce⟩
 obtain⟨S2,hS2⟩:∃s:Sta,s=mhS (r2S nnS aw_m) heL:=⟨_,rfl⟩
 rw[←hS2] at hYe
 have HYe:Hid (ShP w gy false (tlP nnP) S2 we):=hYe
 have HBe:Hid (Below w.heap.size w we):=HYd.out.gone HBd.out ce
 have cv5:=convS hRe
 obtain⟨au,cu,rfl, -⟩:=id hRe
 clear hRe hYe ce hS2 HYd HBd HRd
 go_wp2_with fail
 refine Calls.mono HYe.out.done ?_
 rintro e wf ⟨rfl,rfl⟩
 rw[show decide ((tlP nnP).n=0)=false from by decide]
 clear cv5
 go_wp2_with fail
 refine Calls.mono HYe.out.turn ?_
 rintro e wg ⟨rfl,bg⟩
 rw[show tuP (tlP nnP) false=true from by decide]
 have HBg:Hid _:=stepB HBe.out bg
 clear bg
 go_wp2
 go_ret
 exact⟨rfl,HBg.out⟩
end Go.Proofs.YtpgjobpmafbigaaGreatDoor
