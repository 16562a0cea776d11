/- A side that is none does nothing; what is too long is refused: the law's walk. -/
import Derived.Test.YtpgjobpmafbigaaGreatDoorGk
import Derived.Deep.DeepCutAuto
namespace Go.Proofs.YtpgjobpmafbigaaGreatDoor
open Go.ChangeShapes Go.WideShapes Go.ChangeAt Go.RowKit
set_option linter.unusedSimpArgs false
set_option linter.unusedVariables false

theorem wp_make17 {P:Program} {e:TypeId} {w:World} {o:Oper} {a:Act} {K:Act→World→Prop} {Q:Exit→Act→World→Prop} (l c:Operand) (t:TypeId) (ho:o.op=.makeSlice t l c) (hu:P.underlying t=some (.slice e))
  (hinfo:(P.info? e).map (fun i=>(i.zero,i.size,i.bytes))=some (some (.int .u8 0),1,1)) (n:Nat) (hl:a.eval l=.int .i64 (n:Int)) (hc:a.eval c=.int .i64 (n:Int)) (hn:n≤1000000)
  (h:∀w',New e w (.slice (some ⟨w.heap.size,0,none⟩) n n) (List.replicate n 0) w'→K (a.put o.dst (.slice (some ⟨w.heap.size,0,none⟩) n n)) w'):o.wp P a w K Q:=by
 obtain⟨i,hi,hz0,hz1,hz2⟩:=info_parts hinfo
 obtain⟨w',hrun,r1,r2⟩:=run_make_full (P:=P) w w.heap.size t e i _ 1 hu hi hz0 hz1 .i64 .i64 n (by rw[hz2];omega) (by unfold maxLen;omega) (Nat.le_refl _)
 unfold Oper.wp
 simp[execOp,ho,hl,hc,hrun,Result.andThen]
 rw[Nat.mul_one] at r1
 exact h w' (New.made r1 r2)
theorem fieldZ (w:World):(Instr.field 45 (.agg #[.slice none 0 0,.slice none 0 0,.slice none 0 0,.slice none 0 0]) 1).run Tryz.prog w=.ok (.slice none 0 0) w:=by kernel_rfl

set_option maxRecDepth 100000 in
set_option maxHeartbeats 8000000 in
theorem none_walk (v:Value) (w:World) (hTk:TkT w) (hT:Tabs w) (hPw:PwT w):Calls Tryz.prog 4 #[v] w fun e w'=>e=.returned (.bool true)∧Below w.heap.size w w':=by
 obtain⟨ti,hti,hz0,hz1,hz2⟩:=info_parts info5
 have HTk:Hid (TkT w):=hTk
 have HT:Hid (Tabs w):=hT
 have HPw:Hid (PwT w):=hPw
 clear hTk hT hPw
 go_enter Tryz.func4,Tryz.ntmps4
 go_wp2_with fail
 refine Calls.mono (awake_any _ HTk.out HT.out HPw.out) ?_
 rintro e w1 ⟨rfl,b1⟩
 have HB1:Hid (Below w.heap.size w w1):=b1
 clear b1
 go_wp2_with fail
 refine Calls.mono (write_nil _ _ _) ?_
 rintro e wx ⟨rfl,rfl⟩
 go_wp2_with fail
 refine Calls.mono (hread_nil _ _) ?_
 rintro e wy ⟨rfl,rfl⟩
 go_wp2_with fail
 refine Calls.mono (split_nil _) ?_
 rintro e ws ⟨rfl,bs⟩
 have HBs:Hid (Below w.heap.size w ws):=stepB HB1.out bs
 clear bs HB1
 obtain⟨cc,hcc⟩:∃c:Array Value,Hid (c=zci.toArray):=⟨_,rfl⟩
 rw[←hcc.out]
 go_wp2_with (refine wpList_alloc_blk rfl 61 rfl zci (alloc_zci _) ?_)
 intro wt rt bt st
 go_wp2_with (refine wpList_alloc_blk rfl 61 rfl zci (alloc_zci _) ?_)
 intro wu ru bu su
 obtain⟨g1,hg1⟩:∃n:Nat,Hid (n=ws.heap.size):=⟨_,rfl⟩
 obtain⟨g2,hg2⟩:∃n:Nat,Hid (n=wt.heap.size):=⟨_,rfl⟩
 have q1:BlkAt g1 61 zci wu:=by rw[hg1.out];exact rt.kept bu
 have q2:BlkAt g2 61 zci wu:=by rw[hg2.out];exact ru
 have HL:Hid (ws.heap.size≤g1∧g1<g2):=by have:=st.out;have:=hg1.out;have:=hg2.out;exact⟨by omega,by omega⟩
 have HBu:Hid (Below w.heap.size w wu):=stepB HBs.out (stepB bt bu)
 rw[←hg1.out,←hg2.out]
 clear rt ru bt bu st su hg1 hg2
 have hcc':=hcc.out
 go_wp2_with (first
  |(refine wpList_store_part rfl 61 _ _ rfl rfl zci (by exact congrArg Value.agg hcc.out) [] zci [] zci q1 rfl rfl rfl rfl info_zci one_zci ?_;intro wv rv hwv;have q3:BlkAt g2 61 zci wv:=q2.wrote hwv (by have:=HL.out;omega))
  |(refine wpList_store_part rfl 61 _ _ rfl rfl zci (by exact congrArg Value.agg hcc.out) [] zci [] zci q3 rfl rfl rfl rfl info_zci one_zci ?_;intro ww rw' hww))
 have HBw:Hid (Below w.heap.size w ww):=hww.below _ _ (by have:=HL.out;have:=HBs.out.size;omega) (hwv.below _ _ (by have:=HL.out;have:=HBs.out.size;omega) HBu.out)
 clear q1 q2 q3 rv rw' hwv hww HBu HBs HL hcc'
 refine(parse_any nnT (by decide) _ (HTk.out.kept HBw.out)).mono ?_
 rw[nn_read]
 rintro e w2 ⟨vm,rfl,hm,b2⟩
 dsimp only at hm ⊢
 obtain⟨am,nm,cm,rfl⟩:∃a n c,vm=.slice a n c:=by obtain⟨a,c,e, -⟩:=hm.form;exact⟨a,_,c,e⟩
 go_wp2_with (refine wpList_alloc_blk rfl 25 rfl (paC zeP (.slice none 0 0)) (allocPa _) ?_)
 intro w3 r3 b3 s3
 go_wp2_with (refine wpList_store_part rfl 25 _ _ rfl rfl (paC nnP (.slice am nm cm)) rfl [] (paC zeP (.slice none 0 0)) [] (paC nnP (.slice am nm cm)) r3 (whole15 _) (whole15 _) rfl rfl (paInfo zeP (.slice none 0 0)) (paC_all _ _ _ _) ?_)
 intro w4 r4 hw4
 have b4:=hw4.below _ _ (Nat.le_refl _) b3
 have HM:Hid (MsR w4 (.slice am nm cm) nnP):=hm.kept b4
 have HB4:Hid (Below w.heap.size w w4):=stepB (stepB HBw.out b2) b4
 obtain⟨gp,hgp⟩:∃n:Nat,Hid (n=w2.heap.size):=⟨_,rfl⟩
 rw[←hgp.out] at r4 ⊢
 obtain⟨PC,hPC⟩:∃l:List Value,l=paC nnP (.slice am nm cm):=⟨_,rfl⟩
 have HPC:Hid (PC=paC nnP (.slice am nm cm)):=hPC
 rw[←hPC] at r4
 have hinf:(Tryz.prog.info? 25).map (·.size)=some PC.length:=by rw[hPC];exact infoPat _ _
 clear r3 b3 s3 hw4 b4 b2 hm hPC HBw
 go_wp2_with (first
  |refine wpList_load_part rfl 25 _ rfl rfl [] PC [] r4 (by simp) rfl Tryz.underlying25 rfl hinf ?_
  |refine wpList_buildB rfl 45 _ rfl #[] (by go_simp) _ (build_prZ _) ?_)
 refine Calls.mono (nn_new true _ _ _ _ (congrArg List.toArray HPC.out) rfl rfl _ w HB4.out HM.out HT.out) ?_
 rintro e w5 ⟨gx,rfl,hgx,hX5,b5⟩
 have HX5:Hid (ShP w gx true nnP nnS w5):=hX5
 have HB5:Hid (Below w.heap.size w w5):=stepB HB4.out b5
 have HM5:Hid (MsR w5 (.slice am nm cm) nnP):=HM.out.kept b5
 replace r4:=r4.kept b5
 clear hX5 b5 hgx HM HB4
 go_wp2_with (first
  |refine wpList_load_part rfl 25 _ rfl rfl [] PC [] r4 (by simp) rfl Tryz.underlying25 rfl hinf ?_
  |refine wpList_buildB rfl 45 _ rfl #[] (by go_simp) _ (build_prZ _) ?_)
 refine Calls.mono (nn_new false _ _ _ _ (congrArg List.toArray HPC.out) rfl rfl _ w HB5.out HM5.out HT.out) ?_
 rintro e w6 ⟨gy,rfl,hgy,hY6,b6⟩
 have HY6:Hid (ShP w gy false nnP nnS w6):=hY6
 have HX6:Hid (ShP w gx true nnP nnS w6):=HX5.out.kept b6
 have HB6:Hid (Below w.heap.size w w6):=stepB HB5.out b6
 clear hY6 b6 hgy HX5 HM5 HB5 r4 hinf
 go_upto_region 11 with fail
 go_cut [18,19] (fun u v wx=>u=.slice none 0 0∧v=.int .i64 14∧Hid (Below w6.heap.size w6 wx))
 case first=>
  have hB:Below w6.heap.size w6 w6.drew:=(Below.refl _ _).drew
  refine wpB_begin (Below.refl w6.heap.size w6) (by kernel_rfl) ?_
  refine bU_ hB 0 rfl ⟨_,by intro W hW;go_simp<;>with_reducible rfl,?_⟩
  try simp only[Act.put,pA_,pB_,pC_]
  refine bF_ 1 2 (fun K hK=>?_) (fun K hK=>?_)
  ·refine wp_make17 _ _ 26 rfl Tryz.underlying26 infoU8 32769 rfl rfl (by decide) ?_
   intro wm hNm
   have hM1:=hNm.rd
   replace hB:=stepB hB hNm.2
   refine hK.out _ _ hB ?_
   clear hK K
   try simp only[Act.put,pA_,pB_,pC_]
   refine bD_ 2 fun K hK=>?_
   refine wp_make17 _ _ 26 rfl Tryz.underlying26 infoU8 96 rfl rfl (by decide) ?_
   intro wn hNn
   replace hB:=stepB hB hNn.2
   try replace hM1:=Rd.kept hM1 hNn.2
   refine hK.out _ _ hB ?_
   clear hK K
   try simp only[Act.put,pA_,pB_,pC_]
   refine bD_ 3 fun K hK=>?_
   go_simp
   refine Calls.mono (write_long gx true nnP nnS (by decide) _ _ (List.replicate 32769 0) (by rw[List.length_replicate];decide) _ w (HX6.out.kept hB) hM1) ?_
   rintro e wj ⟨rfl,bj⟩
   replace hB:=stepB hB bj
   refine hK.out _ _ hB ?_
   clear hK K
   try simp only[Act.put,pA_,pB_,pC_]
   refine bU_ hB 4 rfl ⟨_,by intro W hW;go_simp<;>with_reducible rfl,?_⟩
   try simp only[Act.put,pA_,pB_,pC_]
   refine bU_ hB 5 rfl ⟨_,by intro W hW;go_simp<;>with_reducible rfl,?_⟩
   try simp only[Act.put,pA_,pB_,pC_]
   refine bU_ hB 6 rfl ⟨_,by intro W hW;go_simp<;>with_reducible rfl,?_⟩
   try simp only[Act.put,pA_,pB_,pC_]
   refine bU_ hB 7 rfl ⟨_,by intro W hW;go_simp<;>with_reducible rfl,?_⟩
   try simp only[Act.put,pA_,pB_,pC_]
   refine bU_ hB 8 rfl ⟨_,by intro W hW;go_simp<;>with_reducible rfl,?_⟩
   try simp only[Act.put,pA_,pB_,pC_]
   refine wpB_done (by kernel_rfl) ?_
   go_wp2_with fail
   go_meet
   exact⟨rfl,rfl,hB⟩
  ·refine wp_make17 _ _ 26 rfl Tryz.underlying26 infoU8 96 rfl rfl (by decide) ?_
   intro wn hNn
   replace hB:=stepB hB hNn.2
   try replace hM1:=Rd.kept hM1 hNn.2
   refine hK.out _ _ hB ?_
   clear hK K
   try simp only[Act.put,pA_,pB_,pC_]
   refine bD_ 1 fun K hK=>?_
   refine wp_make17 _ _ 26 rfl Tryz.underlying26 infoU8 32769 rfl rfl (by decide) ?_
   intro wm hNm
   have hM1:=hNm.rd
   replace hB:=stepB hB hNm.2
   refine hK.out _ _ hB ?_
   clear hK K
   try simp only[Act.put,pA_,pB_,pC_]
   refine bD_ 3 fun K hK=>?_
   go_simp
   refine Calls.mono (write_long gx true nnP nnS (by decide) _ _ (List.replicate 32769 0) (by rw[List.length_replicate];decide) _ w (HX6.out.kept hB) hM1) ?_
   rintro e wj ⟨rfl,bj⟩
   replace hB:=stepB hB bj
   refine hK.out _ _ hB ?_
   clear hK K
   try simp only[Act.put,pA_,pB_,pC_]
   refine bU_ hB 4 rfl ⟨_,by intro W hW;go_simp<;>with_reducible rfl,?_⟩
   try simp only[Act.put,pA_,pB_,pC_]
   refine bU_ hB 5 rfl ⟨_,by intro W hW;go_simp<;>with_reducible rfl,?_⟩
   try simp only[Act.put,pA_,pB_,pC_]
   refine bU_ hB 6 rfl ⟨_,by intro W hW;go_simp<;>with_reducible rfl,?_⟩
   try simp only[Act.put,pA_,pB_,pC_]
   refine bU_ hB 7 rfl ⟨_,by intro W hW;go_simp<;>with_reducible rfl,?_⟩
   try simp only[Act.put,pA_,pB_,pC_]
   refine bU_ hB 8 rfl ⟨_,by intro W hW;go_simp<;>with_reducible rfl,?_⟩
   try simp only[Act.put,pA_,pB_,pC_]
   refine wpB_done (by kernel_rfl) ?_
   go_wp2_with fail
   go_meet
   exact⟨rfl,rfl,hB⟩
 case rest=>
 obtain⟨rfl,rfl,HB7⟩:=hcut
 rename World=>w7
 have HX7:Hid (ShP w gx true nnP nnS w7):=HX6.out.kept HB7.out
 have HY7:Hid (ShP w gy false nnP nnS w7):=HY6.out.kept HB7.out
 have HBw7:Hid (Below w.heap.size w w7):=stepB HB6.out HB7.out
 clear HX6 HY6 HB6 HB7
 go_wp2_with (at_make;go_must (refine wpList_make_full _ rfl _ _ 26 rfl w7.heap.size 5 ti _ 1 Tryz.underlying26 hti hz0 hz1 _ _ _ _ 65537 rfl rfl rfl rfl (by rw[hz2];omega) (by unfold maxLen;omega) (Nat.le_refl _) ?_))
 intro w8 hown hgr
 have hN8:=New.made hown hgr
 have HX8:Hid (ShP w gx true nnP nnS w8):=HX7.out.kept hN8.2
 have HY8:Hid (ShP w gy false nnP nnS w8):=HY7.out.kept hN8.2
 have HB8:Hid (Below w.heap.size w w8):=stepB HBw7.out hN8.2
 have HR8:Hid (Rd w8 (.slice (some ⟨w7.heap.size,0,none⟩) 65537 65537) (List.replicate 65537 0)):=hN8.rd
 clear hown hgr hN8 HX7 HY7 HBw7
 go_wp2_with fail
 refine Calls.mono (hread_long gy false nnP nnS (by decide) (by decide) _ (List.replicate 65537 0) (by rw[List.length_replicate];decide) _ w HY8.out HR8.out) ?_
 rintro e w9 ⟨rfl,b9⟩
 have HX9:Hid (ShP w gx true nnP nnS w9):=HX8.out.kept b9
 have HB9:Hid (Below w.heap.size w w9):=stepB HB8.out b9
 clear b9 HX8 HY8 HB8 HR8
 go_wp2_with (at_make;go_must (refine wpList_make_full _ rfl _ _ 26 rfl w9.heap.size 5 ti _ 1 Tryz.underlying26 hti hz0 hz1 _ _ _ _ 95 rfl rfl rfl rfl (by rw[hz2];omega) (by unfold maxLen;omega) (Nat.le_refl _) ?_))
 intro wa hown hgr
 have hNa:=New.made hown hgr
 have HXa:Hid (ShP w gx true nnP nnS wa):=HX9.out.kept hNa.2
 have HBa:Hid (Below w.heap.size w wa):=stepB HB9.out hNa.2
 have HRa:Hid (Rd wa (.slice (some ⟨w9.heap.size,0,none⟩) 95 95) (List.replicate 95 0)):=hNa.rd
 clear hown hgr hNa HX9 HB9
 go_wp2_with fail
 refine Calls.mono (write_arg gx true nnP nnS (by decide) nn_le (by decide) _ _ [] (List.replicate 95 0) (by decide) (by decide) _ w HXa.out (Rd.nil _) HRa.out) ?_
 rintro e wb ⟨rfl,bb⟩
 have HBb:Hid (Below w.heap.size w wb):=stepB HBa.out bb
 clear bb HXa HBa HRa
 go_wp2_with fail
 refine Calls.mono (hturn_nil _) ?_
 rintro e wc ⟨rfl,bc⟩
 have HBc:Hid (Below w.heap.size w wc):=stepB HBb.out bc
 clear bc HBb
 go_wp2_with fail
 refine Calls.mono (hdone_nil _) ?_
 rintro e wd ⟨rfl,rfl⟩
 go_wp2_with fail
 refine Calls.mono (hneed_nil _) ?_
 rintro e we ⟨rfl,be⟩
 have HBe:Hid (Below w.heap.size w we):=stepB HBc.out be
 clear be HBc
 go_wp2_with fail
 refine Calls.mono (hhash_nil _) ?_
 rintro e wf ⟨rfl,rfl⟩
 go_wp2_with fail
 refine Calls.mono (other_nil _) ?_
 rintro e wg ⟨rfl,bg⟩
 have HBg:Hid (Below w.heap.size w wg):=stepB HBe.out bg
 clear bg HBe
 rw[show prZ.toArray=#[.slice none 0 0,.slice none 0 0,.slice none 0 0,.slice none 0 0] from rfl]
 have hfz:=fieldZ
 go_wp2
 go_ret
 exact⟨rfl,HBg.out⟩
end Go.Proofs.YtpgjobpmafbigaaGreatDoor
