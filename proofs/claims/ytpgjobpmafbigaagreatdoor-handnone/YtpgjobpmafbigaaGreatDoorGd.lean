/- What functions of the program, or of the reference, answer: contracts; several texts in one. -/
import Derived.Test.YtpgjobpmafbigaaGreatDoorGa
import Derived.Test.YtpgjobpmafbigaaGreatDoorGc
import Derived.Test.YtpgjobpmafbigaaGreatDoorGb
import Derived.Test.YtpgjobpmafbigaaGreatDoorBase
import Derived.Test.YtpgjobpmafbigaaGreatDoorRows
import Derived.WalkSpells
import Derived.RegionTactic
import Derived.BigRegion
import Derived.Deep.QuietTactic
import Derived.BigQuiet
import Derived.OwnWalk
import Derived.Shelf.Abstract
import Derived.Lib.AppendStr
import Derived.Lib.ConvBytes
import Derived.Laws.AppendOwn
import Derived.Lib.BufferWrite
import Derived.Laws.CopyOwn

namespace Go.Proofs.YtpgjobpmafbigaaGreatDoor
set_option linter.unusedSimpArgs false
set_option linter.unusedVariables false
end Go.Proofs.YtpgjobpmafbigaaGreatDoor

namespace Go.Proofs.YtpgjobpmafbigaaGreatDoor
open Go.ChangeShapes Go.WideShapes Go.ChangeAt Go.RowKit
set_option linter.unusedSimpArgs false
set_option linter.unusedVariables false

theorem max25 {f:Nat→Nat}:(stL f).length≤maxLen:=by rw[stL_length];simp[maxLen]
structure St (w0:World) (L:List (Nat×(Nat→Nat))) (w:World):Prop where
 rows:∀p∈L,RowAt .u64 235 p.1 25 (stL p.2) w
 b:Below w0.heap.size w0 w
 t:Tabs w
theorem St.kept {w0 w w':World} {L:List (Nat×(Nat→Nat))} (h:St w0 L w) (hb:Below w.heap.size w w'):St w0 L w':=⟨fun p hp=>(h.rows p hp).kept hb,stepB h.b hb,h.t.kept hb⟩
theorem St.step {w0 w w':World} {o:Obj} {L:List (Nat×(Nat→Nat))} {F:Nat→Nat} (h:St w0 L w) (hr:RowAt .u64 235 w.heap.size 25 (stL F) w') (hw:Wrote w.heap.size (w.alloc o) w'):St w0 ((w.heap.size,F) :: L) w':=by
 have h1:=h.kept (growB o)
 refine⟨fun p hp=>?_,hw.below _ _ h.b.size h1.b,h1.t.wrote hw h.t.two⟩
 rcases List.mem_cons.1 hp with rfl|hp
 ·exact hr
 ·refine(h1.rows p hp).wrote hw ?_
  have:=(h.rows p hp).lt
  omega
theorem St.fresh {w:World} {cs:Array Value} {F:Nat→Nat} (ht:Tabs w) (h:cs=((stL F).map (Value.int .u64)).toArray):St w [(w.heap.size,F)] (w.alloc (.cells cs 235)):=by
 refine⟨fun p hp=>?_,growB _,ht.kept (growB _)⟩
 obtain rfl:=List.mem_singleton.1 hp
 exact RowAt.fresh (stL F) h rfl (stL_length F).symm (stL_ne F) max25
theorem St.cell {w0 w:World} {L:List (Nat×(Nat→Nat))} (h:St w0 L w) (g:Nat) (F:Nat→Nat) (hp:(g,F)∈L) (j:Nat) (hj:j<25) (v:Int) (hv:((F j:Nat):Int)=v):w.cell? ⟨g,j,none⟩=some (.int .u64 v):=by
 have:=(h.rows (g,F) hp).cell (j:=j) (by rw[stL_length];exact hj)
 rw[stL_get _ _ hj] at this
 rw[this,←hv]
theorem byF_shr (f:Nat→Nat) (n:Nat):((f (n / 8):Nat):Int) / 2 ^ (8 * (n % 8)) % 256=((byF f n).toNat:Int):=stB_shr (f (n / 8)) (n % 8)

set_option maxHeartbeats 400000 in
theorem byteAt_any (A:Array Value) (f:Nat→Nat) (hf:∀i,f i<18446744073709551616) (hA:A=((stL f).map (Value.int .u64)).toArray) (n:Nat) (hn:n<200) (w:World):
  Calls Tryz.prog 266 #[.agg A,.int .i64 (n:Int)] w fun e w'=>e=.returned (.int .u8 ((byF f n).toNat:Int))∧Below w.heap.size w w':=by
 have HA:Hid _:=hA
 have hq:=hf (n / 8)
 clear hA hf
 obtain⟨d,hd⟩:∃d:Nat,d=n / 8:=⟨_,rfl⟩
 obtain⟨m,hm⟩:∃m:Nat,m=n % 8:=⟨_,rfl⟩
 have td:(n:Int).tdiv 8=(d:Int):=by rw[hd,Int.tdiv_eq_ediv_of_nonneg (by omega)];omega
 have tm:(n:Int).tmod 8=(m:Int):=by rw[hm,Int.tmod_eq_emod_of_nonneg (by omega)];omega
 have bd:(d:Int)<25:=by omega
 have bm:(m:Int)<8:=by omega
 have w8:IntKind.i64.wrap (8 * (m:Int))=8 * (m:Int):=IntWalk.i64_in _ (by omega)
 have n8:(8 * (m:Int)).toNat=8 * m:=by omega
 have HE:Hid _:=byF_shr f n
 rw[←hm] at HE
 rw[←hd] at HE hq
 have r0:RowAt .u64 235 w.heap.size 25 (stL f) (w.alloc (.cells A 235)):=RowAt.fresh (stL f) HA.out rfl (stL_length f).symm (stL_ne f) max25
 have hc:=r0.cell (j:=d) (by rw[stL_length];omega)
 rw[stL_get _ _ (by omega)] at hc
 have hb:Below w.heap.size w (w.alloc (.cells A 235)):=growB _
 generalize f d=q at hc HE hq
 clear r0 HA hd hm
 go_enter Tryz.func266,Tryz.ntmps266
 go_wp2
 go_ret
 exact⟨retI (by first|exact HE.out|simpa using HE.out),hb⟩

theorem New.of_fill {e:TypeId} {w wb:World} {B n:Nat} {f:Nat→UInt8} {wr:World} (h:Fill e wb B n f n wr) (hb:Below w.heap.size w wb):New e w (.slice (some ⟨B,0,none⟩) n n) ((List.range n).map f) wr:=h.done.from hb
theorem Fill.kept {e:TypeId} {w:World} {B n:Nat} {f:Nat→UInt8} {k:Nat} {wr w2:World} (h:Fill e w B n f k wr) (hb:Below wr.heap.size wr w2):Fill e w B n f k w2:=⟨ownsRow_below h.1 hb,h.2.trans (hb.mono h.2.size)⟩

set_option maxHeartbeats 400000 in
theorem first_any (A:Array Value) (f:Nat→Nat) (hf:∀i,f i<18446744073709551616) (hA:A=((stL f).map (Value.int .u64)).toArray) (n:Nat) (hn:n≤200) (w:World):
  Calls Tryz.prog 191 #[.agg A,.int .i64 (n:Int)] w fun e w'=>∃v,e=.returned v∧New 5 w v (bsP f n) w':=by
 obtain⟨i,hi,hz0,hz1,hz2⟩:=info_parts info5
 have HA:Hid _:=hA
 have HF:Hid (∀i,f i<18446744073709551616):=hf
 clear hA hf
 have r0:RowAt .u64 235 w.heap.size 25 (stL f) (w.alloc (.cells A 235)):=RowAt.fresh (stL f) HA.out rfl (stL_length f).symm (stL_ne f) max25
 have hb:Below w.heap.size w (w.alloc (.cells A 235)):=growB _
 go_enter Tryz.func191,Tryz.ntmps191
 go_wp2_with (at_make;go_must (refine wpList_make_full _ rfl _ _ 26 rfl (w.heap.size+1) 5 i _ 1 Tryz.underlying26 hi hz0 hz1 _ _ _ _ n rfl rfl (by omega) (by omega) (by rw[hz2];omega) (by unfold maxLen;omega) (by simp) ?_))
 intro w1 hown hgr
 have hF:Fill 5 (w.alloc (.cells A 235)) (w.heap.size+1) n (byF f) 0 w1:=by
  have h1:(w.alloc (.cells A 235)).heap.size=w.heap.size+1:=by simp
  have:=Fill.start (w:=w.alloc (.cells A 235)) (byF f) (by rw[h1];exact hown) hgr
  rwa [h1] at this
 clear hown hgr
 generalize w.alloc (.cells A 235)=wb at hF r0 hb
 go_wp2
 go_loopw [10] (fun i wr=>∃j:Nat,j≤n∧i=.int .i64 j∧Fill 5 wb (w.heap.size+1) n (byF f) j wr) (fun i _=>n - (intOf i).toNat)
 case atStart=>exact⟨0,Nat.zero_le _,rfl,hF⟩
 case round=>
  obtain⟨j,hj,rfl,hFj⟩:=hrel
  clear hF
  by_cases hlt:j<n
  ·have hdt:decide ((j:Int)<(n:Int))=true:=decide_eq_true (by omega)
   have hjI:(j:Int)<n:=by omega
   have r1:=r0.kept (hFj.2)
   go_wp2_with (refine wpList_load_row rfl 235 _ rfl rfl r1 _ Tryz.underlying235 rfl (arrInfo _) ?_)
   refine(byteAt_any _ f HF.out rfl j (by omega) _).mono ?_
   rintro e w2 ⟨rfl,hB⟩
   have hF2:=hFj.kept hB
   obtain⟨hcj,hfj⟩:=hF2.cell hlt
   clear r1 hB hFj
   go_wp2
   go_roundw
   case rel=>exact⟨j+1,by omega,by go_num,hF2.step rfl⟩
   case measure=>simp[intOf];omega
  ·have hje:j=n:=by omega
   subst hje
   go_wp2
   go_ret
   exact⟨_,rfl,New.of_fill hFj hb⟩
theorem leN_noughts:∀n,leN (List.replicate n 0)=0
 |0=>rfl
 |n+1=>by rw[List.replicate_succ,leN_cons,leN_noughts n];rfl
theorem leN_pad (z:Nat):∀l:List UInt8,leN (l++List.replicate z 0)=leN l
 |[]=>by simpa [leN] using leN_noughts z
 |x :: xs=>by rw[List.cons_append,leN_cons,leN_cons,leN_pad z xs]
theorem lane_any (l:List UInt8) (j:Nat):leN (((l.drop (8 * j)).take (l.length - 8 * j)).take 8)=xbl (fun k=>l.getD k 0) l.length j:=by
 unfold xbl
 have e:(List.range 8).map (fun t=>if 8 * j+t<l.length then l.getD (8 * j+t) 0 else 0)=(l.drop (8 * j)).take 8++List.replicate (8 - (l.length - 8 * j)) 0:=by
  refine List.ext_getElem (by simp;omega) fun t h1 h2=>?_
  have ht:t<8:=by simpa using h1
  by_cases h:8 * j+t<l.length
  ·rw[List.getElem_append_left (by simp;omega)]
   simp[h]
  ·rw[List.getElem_append_right (by simp;omega)]
   simp[h]
 rw[e,leN_pad,show(l.drop (8 * j)).take (l.length - 8 * j)=l.drop (8 * j) from List.take_of_length_le (by simp)]
theorem xbl_none (blk:Nat→UInt8) (r j:Nat) (h:r≤8 * j):xbl blk r j=0:=by
 have e:(List.range 8).map (fun t=>if 8 * j+t<r then blk (8 * j+t) else 0)=List.replicate 8 0:=by
  refine List.ext_getElem (by simp) fun t h1 h2=>?_
  simp only[List.getElem_map,List.getElem_range,List.getElem_replicate]
  rw[if_neg (by omega)]
 unfold xbl
 rw[e,leN_noughts]
theorem arrV_congr {f g:Nat→Nat} (h:∀i,i<25→f i=g i):arrV f=arrV g:=by
 show Value.agg _=Value.agg _
 rw[stL_congr h]
theorem arrV_F (f:Nat→Nat) (hf:∀i,f i<18446744073709551616):arrV (rdsL f 24)=arrV (rdsF f 24):=arrV_congr fun i hi=>rdsL_eq f hf 24 (Nat.le_refl _) i hi

set_option maxRecDepth 100000 in
set_option maxHeartbeats 1000000 in
theorem take_any (A:Array Value) (f:Nat→Nat) (hf:∀i,f i<18446744073709551616) (hA:A=((stL f).map (Value.int .u64)).toArray) (vb:Value) (l:List UInt8) (hl:l.length≤200) (w:World) (hr:Rd w vb l) (ht:Tabs w):
  Calls Tryz.prog 267 #[.agg A,vb] w fun e w'=>e=.returned (arrV (tkF f (fun k=>l.getD k 0) l.length))∧Below w.heap.size w w':=by
 have HA:Hid _:=hA
 have HF:Hid (∀i,f i<18446744073709551616):=hf
 obtain⟨a,cap,rfl,h2,h3,h4, -⟩:=id hr
 have HR:Hid (Rd w (.slice a l.length cap) l):=hr
 clear hA hf hr
 obtain⟨n,hn⟩:∃n:Nat,n=(l.length+7) / 8:=⟨_,rfl⟩
 have q1:IntKind.i64.wrap ((l.length:Int)+8)=(l.length:Int)+8:=IntWalk.i64_in _ (by omega)
 have q2:IntKind.i64.wrap ((l.length:Int)+8 - 1)=(l.length:Int)+8 - 1:=IntWalk.i64_in _ (by omega)
 have q3:((l.length:Int)+8 - 1).tdiv 8=(n:Int):=by rw[Int.tdiv_eq_ediv_of_nonneg (by omega)];omega
 have q4:IntKind.i64.wrap (n:Int)=(n:Int):=IntWalk.i64_in _ (by omega)
 go_enter Tryz.func267,Tryz.ntmps267
 go_wp2
 rw[HA.out]
 obtain⟨W,hW,hI,hs⟩:=two_rows f w _ zeros25 ht
 rw[hW]
 clear hW ht q1 q2 q3 q4
 go_loopw [11] (fun i wr=>∃j:Nat,j≤n∧i=.int .i64 j∧KI w (upQ f (fun k=>f k^^^xbl (fun k=>l.getD k 0) l.length k) j) wr) (fun i _=>n - (intOf i).toNat)
 case atStart=>exact⟨0,by omega,rfl,by have e:=upQ_zero f (fun k=>f k^^^xbl (fun k=>l.getD k 0) l.length k);exact⟨e ▸ hI.a,hI.r,hI.b,hI.t,hI.two⟩⟩
 case round=>
  obtain⟨j,hj,rfl,hI2⟩:=hrel
  clear hI hs
  by_cases hlt:j<n
  ·have hd:decide ((j:Int)<(n:Int))=true:=decide_eq_true (by omega)
   have hjn:(j:Int)<n:=by omega
   have hjI:(j:Int)<25:=by omega
   have w8:IntKind.i64.wrap (8 * (j:Int))=8 * (j:Int):=IntWalk.i64_in _ (by omega)
   have n8:(8 * (j:Int)).toNat=8 * j:=by omega
   have hle:8 * (j:Int)≤(l.length:Int):=by omega
   have hge:(0:Int)≤8 * (j:Int):=by omega
   have hcn:¬cap=8 * j:=by omega
   have hc:=hI2.a.cell (j:=j) (by rw[stL_length];omega)
   have hcf:=hI2.a.free j
   rw[stL_get _ j (by omega),upQ_get] at hc
   have hq:=HF.out j
   obtain⟨b,off,rfl⟩:∃b off,a=some ⟨b,off,none⟩:=by
    obtain⟨b,off,cp,e1,_⟩:=HR.out.cellAt (i:=0) (by omega)
    simp only[Value.slice.injEq] at e1
    exact⟨b,off,e1.1⟩
   have hR1:=(HR.out.kept hI2.b).sub (8 * j) l.length (by omega) (Nat.le_refl _)
   have HLn:Hid _:=lane_any l j
   have HS:Hid (∀x:Int,x=((f j^^^xbl (fun k=>l.getD k 0) l.length j:Nat):Int)→KI w (upQ f (fun k=>f k^^^xbl (fun k=>l.getD k 0) l.length k) (j+1)) (wr.setCell ⟨w.heap.size,j,none⟩ (.int .u64 x))):=by
    intro x hx
    exact hI2.set j x (by rw[hx];exact upQ_set f (fun k=>f k^^^xbl (fun k=>l.getD k 0) l.length k) j)
   have HX:Hid _:=xorI (f j) (xbl (fun k=>l.getD k 0) l.length j) hq (xbl_lt _ _ _)
   generalize f j=q0 at hc hq HX HS
   clear hI2
   go_wp2_with fail
   refine wpE_begin 10 (by kernel_rfl) ?_
   refine eU_ 0 rfl ⟨_,by intro W hW;go_simp<;>with_reducible rfl,?_⟩
   try simp only[Act.put,pA_,pB_,pC_]
   refine eU_ 1 rfl ⟨_,by intro W hW;go_simp<;>with_reducible rfl,?_⟩
   try simp only[Act.put,pA_,pB_,pC_]
   refine eU_ 2 rfl ⟨_,by intro W hW;have hcW:=cellU hc hW;go_simp<;>with_reducible rfl,?_⟩
   try simp only[Act.put,pA_,pB_,pC_]
   refine eU_ 3 rfl ⟨_,by intro W hW;go_simp<;>with_reducible rfl,?_⟩
   try simp only[Act.put,pA_,pB_,pC_]
   refine eU_ 4 rfl ⟨_,by intro W hW;go_simp<;>with_reducible rfl,?_⟩
   try simp only[Act.put,pA_,pB_,pC_]
   refine eU_ 5 rfl ⟨_,by intro W hW;go_simp<;>with_reducible rfl,?_⟩
   try simp only[Act.put,pA_,pB_,pC_]
   refine eU_ 6 rfl ⟨_,by intro W hW;go_simp<;>with_reducible rfl,?_⟩
   try simp only[Act.put,pA_,pB_,pC_]
   refine eD_ 7 fun K hK=>?_
   go_simp
   refine(load_any _ _ _ hR1.drew).mono ?_
   rintro e w' ⟨rfl,rfl⟩
   refine hK.out _ _ (Below.refl _ _) ?_
   clear hK K
   try simp only[Act.put,pA_,pB_,pC_]
   refine eU_ 8 rfl ⟨_,by intro W hW;go_simp<;>with_reducible rfl,?_⟩
   try simp only[Act.put,pA_,pB_,pC_]
   refine eU_ 9 rfl ⟨_,by intro W hW;go_simp<;>with_reducible rfl,?_⟩
   try simp only[Act.put,pA_,pB_,pC_]
   refine eL_ fun K hK=>?_
   go_simp
   refine hK.out _ _ ?_
   clear hK K
   try simp only[Act.put,pA_,pB_,pC_]
   rw[HLn.out,HX.out]
   have hI3:=(HS.out _ rfl).drew
   go_wp2
   go_roundw
   case rel=>exact⟨j+1,by omega,by go_num,hI3⟩
   case measure=>simp[intOf];omega
  ·have hd0:decide ((j:Int)<(n:Int))=false:=decide_eq_false (by omega)
   have hj0:(n:Int)≤j:=by omega
   have r1:=hI2.a
   have e1:stL (upQ f (fun k=>f k^^^xbl (fun k=>l.getD k 0) l.length k) j)=stL (fun k=>f k^^^xbl (fun k=>l.getD k 0) l.length k):=stL_congr fun i hi=>by
    unfold upQ
    split
    ·rfl
    ·rw[xbl_none _ _ _ (by omega),Nat.xor_zero]
   rw[e1] at r1
   go_wp2_with (refine wpList_load_row rfl 235 _ rfl rfl r1 _ Tryz.underlying235 rfl (arrInfo _) ?_)
   have hlx:∀i,(fun k=>f k^^^xbl (fun k=>l.getD k 0) l.length k) i<18446744073709551616:=fun i=>xor_lt64 (HF.out i) (xbl_lt _ _ _)
   refine(kF_any _ _ hlx rfl _ hI2.t).mono ?_
   rintro e w2 ⟨rfl,hB⟩
   have r2:=(hI2.kept hB).r
   have hb2:=(hI2.kept hB).b
   rw[arrV_F _ hlx]
   clear r1 hI2 hB e1
   go_wp2_with (refine wpList_store_row rfl 235 _ _ rfl (stL (rdsF (fun k=>f k^^^xbl (fun k=>l.getD k 0) l.length k) 24)) rfl rfl r2 (by simp[stL_length]) (arrInfo _) ?_;intro w3 r3 hw)
   refine bodyPost_row (p:=4) (ty:=235) rfl rfl rfl r3 Tryz.underlying235 rfl (arrInfo _) ?_
   exact⟨rfl,hw.below _ _ (by omega) hb2⟩
def lbF (r:Nat) (s:UInt8) (l:List UInt8) (k:Nat):UInt8:=(if k<l.length then l.getD k 0 else if k=l.length then s else 0)^^^(if k=r - 1 then 128 else 0)
def lbL (r:Nat) (s:UInt8) (l:List UInt8):List UInt8:=(List.range r).map (lbF r s l)
theorem lbL_length (r:Nat) (s:UInt8) (l:List UInt8):(lbL r s l).length=r:=by simp[lbL]
theorem lb_step (r:Nat) (s:UInt8) (l:List UInt8) (hl:l.length<r) (k:Nat) (hk:k<r):((l++List.replicate (r - l.length) (0:UInt8)).set l.length s).getD k 0=if k<l.length then l.getD k 0 else if k=l.length then s else 0:=by
 rw[List.getD_eq_getElem?_getD,List.getElem?_set]
 by_cases h:k<l.length
 ·rw[if_pos h,if_neg (by omega),List.getElem?_append_left h,List.getD_eq_getElem?_getD]
 ·rw[if_neg h]
  by_cases h2:k=l.length
  ·subst h2
   rw[if_pos rfl,if_pos (by simp;omega),if_pos rfl]
   rfl
  ·rw[if_neg h2,if_neg (Ne.symm h2),List.getElem?_append_right (by omega),List.getElem?_replicate,if_pos (by omega)]
   rfl
theorem lb_done (r:Nat) (s:UInt8) (l:List UInt8) (hl:l.length<r):
  ((l++List.replicate (r - l.length) (0:UInt8)).set l.length s).set (r - 1) (((l++List.replicate (r - l.length) (0:UInt8)).set l.length s).getD (r - 1) 0^^^128)=lbL r s l:=by
 have hlen:((l++List.replicate (r - l.length) (0:UInt8)).set l.length s).length=r:=by simp;omega
 refine List.ext_getElem (by rw[List.length_set,hlen,lbL_length]) fun k h1 h2=>?_
 have hk:k<r:=by rw[lbL_length] at h2;exact h2
 have e1:=lb_step r s l hl k hk
 have e3:(lbL r s l)[k]=lbF r s l k:=by simp[lbL]
 rw[e3,List.getElem_set]
 unfold lbF
 by_cases h:r - 1=k
 ·subst h
  rw[if_pos rfl,if_pos rfl,e1]
 ·have e2:((l++List.replicate (r - l.length) (0:UInt8)).set l.length s)[k]'(by rw[hlen];exact hk)=((l++List.replicate (r - l.length) (0:UInt8)).set l.length s).getD k 0:=by
   rw[List.getD_eq_getElem?_getD,List.getElem?_eq_getElem (by rw[hlen];exact hk)]
   rfl
  rw[if_neg h,if_neg (Ne.symm h),←e1,UInt8.xor_zero]
  exact e2

set_option maxHeartbeats 1000000 in
theorem lastBlock_any (r:Nat) (h2:r≤200) (s:UInt8) (S:Int) (hS:S=(s.toNat:Int)) (vb:Value) (l:List UInt8) (hl:l.length<r) (w:World) (hr:Rd w vb l):
  Calls Tryz.prog 268 #[.int .i64 (r:Int),.int .u8 S,vb] w fun e w'=>∃v,e=.returned v∧New 5 w v (lbL r s l) w':=by
 subst hS
 obtain⟨i,hi,hz0,hz1,hz2⟩:=info_parts info5
 have hsz:(Tryz.prog.info? 5).map (·.size)=some 1:=by kernel_rfl
 have HD:Hid _:=lb_done r s l hl
 obtain⟨a,cap,rfl,h3,h4,h5, -⟩:=id hr
 go_enter Tryz.func268,Tryz.ntmps268
 go_wp2_with (at_make;go_must (refine wpList_make_full _ rfl _ _ 26 rfl w.heap.size 5 i _ 1 Tryz.underlying26 hi hz0 hz1 _ _ _ _ r rfl rfl (by omega) (by omega) (by rw[hz2];omega) (by unfold maxLen;omega) (Nat.le_refl _) ?_))
 intro w1 hown hgr
 have hN:=New.made hown hgr
 have hr1:=hr.kept hN.2
 clear hown hgr hr
 go_wp2_with (refine wpList_copy_new (w:=w) rfl _ _ 26 rfl 5 Tryz.underlying26 hsz _ _ rfl hN _ _ rfl hr1 (by simp;omega) (by intro h;simp at h;omega) ?_)
 intro w2 hN2
 clear hN hr1
 have hlen2:r=(l++List.replicate (r - l.length) (0:UInt8)).length:=by simp;omega
 obtain⟨g,eg,hg, -,hc,hfz,hset⟩:=own_at hlen2 hN2.1 (j:=l.length) hl
 simp only[Option.some.injEq,Addr.mk.injEq,and_true] at eg
 subst eg
 have hN3:New 5 w (.slice (some ⟨w.heap.size,0,none⟩) r r) ((l++List.replicate (r - l.length) (0:UInt8)).set l.length s) (w2.setCell ⟨w.heap.size,l.length,none⟩ (.int .u8 (s.toNat:Int))):=⟨hset s _ rfl,hN2.2.setCell (Nat.le_refl _) _⟩
 have hlI:(l.length:Int)<r:=by omega
 obtain⟨p,hp⟩:∃p:Nat,p=r - 1:=⟨_,rfl⟩
 have wp1:IntKind.i64.wrap ((r:Int) - 1)=(p:Int):=by rw[IntWalk.i64_in _ (by omega)];omega
 have hpI:(p:Int)<r:=by omega
 rw[←hp] at HD
 have hlen3:r=((l++List.replicate (r - l.length) (0:UInt8)).set l.length s).length:=by rw[List.length_set];exact hlen2
 obtain⟨g,eg,hg3, -,hc3,hfz3,hset3⟩:=own_at hlen3 hN3.1 (j:=p) (by omega)
 simp only[Option.some.injEq,Addr.mk.injEq,and_true] at eg
 subst eg
 have hN4:=hset3 _ _ (byte_xor (((l++List.replicate (r - l.length) (0:UInt8)).set l.length s).getD p 0) 128)
 rw[HD.out] at hN4
 have hb4:=hN3.2.setCell (p:=⟨w.heap.size,p,none⟩) (Nat.le_refl _) (.int .u8 (bits .xor .u8 (((((l++List.replicate (r - l.length) (0:UInt8)).set l.length s).getD p 0).toNat:Nat):Int) (((128:UInt8).toNat:Nat):Int)))
 generalize ((l++List.replicate (r - l.length) (0:UInt8)).set l.length s).getD p 0=x at hc3 hN4 hb4
 have HN:Hid (New 5 w (.slice (some ⟨w.heap.size,0,none⟩) r r) (lbL r s l) ((w2.setCell ⟨w.heap.size,l.length,none⟩ (.int .u8 (s.toNat:Int))).setCell ⟨w.heap.size,p,none⟩ (.int .u8 (bits .xor .u8 ((x.toNat:Nat):Int) (((128:UInt8).toNat:Nat):Int))))):=⟨hN4,hb4⟩
 clear HD hset hset3 hN2 hN3 hN4 hb4 hlen2 hlen3 hp
 go_wp2
 go_ret
 exact⟨_,rfl,HN.out⟩

structure AI (w:World) (F:Nat→Nat) (wr:World):Prop where
 a:RowAt .u64 235 w.heap.size 25 (stL fun _=>0) wr
 r:RowAt .u64 235 (w.heap.size+1) 25 (stL F) wr
 b:Below w.heap.size w wr
 t:Tabs wr
 two:7<w.heap.size
theorem AI.drew {w wr:World} {F:Nat→Nat} (h:AI w F wr):AI w F wr.drew:=⟨h.a.drew,h.r.drew,h.b.drew,h.t.kept (Below.refl _ _).drew,h.two⟩
theorem AI.kept {w wr w2:World} {F:Nat→Nat} (h:AI w F wr) (hb:Below wr.heap.size wr w2):AI w F w2:=⟨h.a.kept hb,h.r.kept hb,stepB h.b hb,h.t.kept hb,h.two⟩
theorem AI.whole {w wr w2:World} {F G:Nat→Nat} (h:AI w F wr) (hr:RowAt .u64 235 (w.heap.size+1) 25 (stL G) w2) (hw:Wrote (w.heap.size+1) wr w2):AI w G w2:=
 ⟨h.a.wrote hw (by omega),hr,hw.below _ _ (by omega) h.b,h.t.wrote hw (by have:=h.two;omega),h.two⟩

theorem Rd.rest {w:World} {b off n cap:Nat} {l:List UInt8} (h:Rd w (.slice (some ⟨b,off,none⟩) n cap) l) (r:Nat) (hr:r≤n):
  Rd w (.slice (if cap=r then some ⟨b,off,none⟩ else some ⟨b,off+r,none⟩) (n - r) (cap - r)) (l.drop r):=by
 have hn:n=l.length:=by
  obtain⟨a,c,e,_⟩:=id h
  simp only[Value.slice.injEq] at e
  exact e.2.1
 by_cases hc:cap=r
 ·rw[if_pos hc]
  have hcap:n≤cap:=by
   obtain⟨a,c,e,h2,_⟩:=id h
   simp only[Value.slice.injEq] at e
   omega
  have h0:l.drop r=[]:=List.drop_eq_nil_of_le (by omega)
  rw[h0,show n - r=0 by omega,hc,Nat.sub_self]
  exact⟨_,0,rfl,by simp,by simp,fun _=>rfl,.inl rfl⟩
 ·rw[if_neg hc]
  have:=h.sub r n hr (Nat.le_refl _)
  rwa [List.take_of_length_le (by rw[List.length_drop];omega)] at this

theorem absorb_zero (R S:Int) (h:¬(1≤R∧R≤200)) (vb:Value) (w:World):
  Calls Tryz.prog 192 #[.int .i64 R,.int .u8 S,vb] w fun e w'=>e=.returned (arrV fun _=>0)∧Below w.heap.size w w':=by
 have r0:RowAt .u64 235 w.heap.size 25 (stL fun _=>0) (w.alloc (.cells #[Value.int .u64 0,.int .u64 0,.int .u64 0,.int .u64 0,.int .u64 0,.int .u64 0,.int .u64 0,.int .u64 0,.int .u64 0,.int .u64 0,.int .u64 0,.int .u64 0,.int .u64 0,.int .u64 0,.int .u64 0,.int .u64 0,.int .u64 0,.int .u64 0,.int .u64 0,.int .u64 0,.int .u64 0,.int .u64 0,.int .u64 0,.int .u64 0,.int .u64 0] 235)):=RowAt.fresh (stL fun _=>0) zeros25 rfl (stL_length _).symm (stL_ne _) max25
 have r1:RowAt .u64 235 (w.heap.size+1) 25 (stL fun _=>0) ((w.alloc (.cells #[Value.int .u64 0,.int .u64 0,.int .u64 0,.int .u64 0,.int .u64 0,.int .u64 0,.int .u64 0,.int .u64 0,.int .u64 0,.int .u64 0,.int .u64 0,.int .u64 0,.int .u64 0,.int .u64 0,.int .u64 0,.int .u64 0,.int .u64 0,.int .u64 0,.int .u64 0,.int .u64 0,.int .u64 0,.int .u64 0,.int .u64 0,.int .u64 0,.int .u64 0] 235)).alloc (.cells #[Value.int .u64 0,.int .u64 0,.int .u64 0,.int .u64 0,.int .u64 0,.int .u64 0,.int .u64 0,.int .u64 0,.int .u64 0,.int .u64 0,.int .u64 0,.int .u64 0,.int .u64 0,.int .u64 0,.int .u64 0,.int .u64 0,.int .u64 0,.int .u64 0,.int .u64 0,.int .u64 0,.int .u64 0,.int .u64 0,.int .u64 0,.int .u64 0,.int .u64 0] 235)):=RowAt.fresh (stL fun _=>0) zeros25 (by simp) (stL_length _).symm (stL_ne _) max25
 have hb:=stepB (growB (w:=w) (.cells #[Value.int .u64 0,.int .u64 0,.int .u64 0,.int .u64 0,.int .u64 0,.int .u64 0,.int .u64 0,.int .u64 0,.int .u64 0,.int .u64 0,.int .u64 0,.int .u64 0,.int .u64 0,.int .u64 0,.int .u64 0,.int .u64 0,.int .u64 0,.int .u64 0,.int .u64 0,.int .u64 0,.int .u64 0,.int .u64 0,.int .u64 0,.int .u64 0,.int .u64 0] 235)) (growB (.cells #[Value.int .u64 0,.int .u64 0,.int .u64 0,.int .u64 0,.int .u64 0,.int .u64 0,.int .u64 0,.int .u64 0,.int .u64 0,.int .u64 0,.int .u64 0,.int .u64 0,.int .u64 0,.int .u64 0,.int .u64 0,.int .u64 0,.int .u64 0,.int .u64 0,.int .u64 0,.int .u64 0,.int .u64 0,.int .u64 0,.int .u64 0,.int .u64 0,.int .u64 0] 235))
 have r2:=r0.kept (growB (.cells #[Value.int .u64 0,.int .u64 0,.int .u64 0,.int .u64 0,.int .u64 0,.int .u64 0,.int .u64 0,.int .u64 0,.int .u64 0,.int .u64 0,.int .u64 0,.int .u64 0,.int .u64 0,.int .u64 0,.int .u64 0,.int .u64 0,.int .u64 0,.int .u64 0,.int .u64 0,.int .u64 0,.int .u64 0,.int .u64 0,.int .u64 0,.int .u64 0,.int .u64 0] 235))
 have h':(R<1∧decide (R<1)=true)∨(200<R∧decide (R<1)=false∧decide (200<R)=true):=by
  by_cases h1:R<1
  ·exact .inl ⟨h1,decide_eq_true h1⟩
  ·exact .inr ⟨by omega,decide_eq_false h1,decide_eq_true (by omega)⟩
 rcases h' with ⟨h1,d1⟩|⟨h1,d0,d1⟩
 all_goals
  go_enter Tryz.func192,Tryz.ntmps192
  go_wp2_with (first|refine wpList_load_row rfl 235 _ rfl rfl r1 _ Tryz.underlying235 rfl (arrInfo _) ?_|(refine wpList_store_row rfl 235 _ _ rfl (stL fun _=>0) rfl rfl r2 (by simp[stL_length]) (arrInfo _) ?_;intro w3 r3 hw))
  refine bodyPost_row (p:=6) (ty:=235) rfl rfl rfl r3 Tryz.underlying235 rfl (arrInfo _) ?_
  exact⟨rfl,hw.below _ _ (Nat.le_refl _) hb⟩
theorem lb_las (r:Nat) (s:UInt8) (l:List UInt8) (hr:0<r) (k:Nat) (hk:k<r):(lbL r s (l.drop (l.length / r * r))).getD k 0=lasB r s l k:=by
 have h0:=Nat.div_add_mod l.length r
 rw[Nat.mul_comm] at h0
 have e1:(l.drop (l.length / r * r)).length=l.length % r:=by simp;omega
 unfold lbL lasB
 rw[show((List.range r).map (lbF r s (l.drop (l.length / r * r)))).getD k 0=lbF r s (l.drop (l.length / r * r)) k by simp[hk]]
 unfold lbF
 rw[e1]
 congr 1
 by_cases h:k<l.length % r
 ·rw[if_pos h,if_pos h]
  simp
 ·rw[if_neg h,if_neg h]

theorem absorb_start (w:World) (cs:Array Value) (hcs:cs=((stL fun _=>0).map (Value.int .u64)).toArray) (t:Tabs w):
  ∃W,(w.alloc (.cells cs 235)).alloc (.cells cs 235)=W∧AI w (fun _=>0) W:=by
 subst hcs
 obtain⟨W,hW,hI,hs⟩:=two_rows (fun _=>0) w _ rfl t
 exact⟨W,hW,⟨hI.a,hI.r,hI.b,hI.t,hI.two⟩⟩

set_option maxRecDepth 100000 in
set_option maxHeartbeats 2000000 in
theorem absorb_at (r:Nat) (h1:1≤r) (h2:r≤200) (s:UInt8) (S:Int) (hS:S=(s.toNat:Int)) (vb:Value) (l:List UInt8) (w:World) (hr:Rd w vb l) (ht:Tabs w):
  Calls Tryz.prog 192 #[.int .i64 (r:Int),.int .u8 S,vb] w fun e w'=>e=.returned (arrV (tkF (fuN r l (l.length / r)) (lasB r s l) r))∧Below w.heap.size w w':=by
 subst hS
 obtain⟨a,cap,rfl,h3,h4,h5, -⟩:=id hr
 have hmx:=hr.len
 unfold maxLen at h4
 have HR:Hid (Rd w (.slice a l.length cap) l):=hr
 clear hr
 obtain⟨q,hq⟩:∃q:Nat,q=l.length / r:=⟨_,rfl⟩
 have hqr:q * r≤l.length:=by rw[hq];exact Nat.div_mul_le_self _ _
 have hqm:l.length - q * r<r:=by
  have e0:=Nat.div_add_mod l.length r
  have e1:=Nat.mod_lt l.length (show 0<r by omega)
  rw[Nat.mul_comm,←hq] at e0
  omega
 have hq1:q≤l.length:=Nat.le_trans (Nat.le_mul_of_pos_right q (by omega)) hqr
 have q3:((l.length:Int)).tdiv (r:Int)=(q:Int):=by rw[Int.tdiv_eq_ediv_of_nonneg (by omega),hq];rfl
 have q4:IntKind.i64.wrap (q:Int)=(q:Int):=IntWalk.i64_in _ (by omega)
 have d1:decide ((r:Int)<1)=false:=decide_eq_false (by omega)
 have d2:decide ((200:Int)<(r:Int))=false:=decide_eq_false (by omega)
 have g1:(1:Int)≤r:=by omega
 have g2:(r:Int)≤200:=by omega
 have g3:¬(r:Int)=0:=by omega
 rw[←hq]
 have HQ:Hid (q=l.length / r):=hq
 clear hq
 go_enter Tryz.func192,Tryz.ntmps192
 go_wp2
 obtain⟨W,hW,hI⟩:=absorb_start w _ zeros25 ht
 rw[hW]
 clear hW ht q3 q4 d1 d2
 go_loopw [19,2] (fun i b wr=>∃j:Nat,j≤q∧i=.int .i64 j∧Rd w b (l.drop (j * r))∧AI w (fuN r l j) wr) (fun i _ _=>q - (intOf i).toNat)
 case atStart=>exact⟨0,by omega,rfl,by rw[Nat.zero_mul,List.drop_zero];exact HR.out,hI⟩
 case round=>
  obtain⟨j,hj,rfl,hR,hI2⟩:=hrel
  clear hI HR
  obtain⟨a2,cap2,rfl,k2,k3,k4, -⟩:=id hR
  obtain⟨n,hn⟩:∃n:Nat,n=(l.drop (j * r)).length:=⟨_,rfl⟩
  have hjr:j * r≤q * r:=Nat.mul_le_mul_right r hj
  have hn':n=l.length - j * r:=by rw[hn,List.length_drop]
  rw[←hn] at hR k2 ⊢
  unfold maxLen at k3
  have HN:Hid (n=(l.drop (j * r)).length):=hn
  have HN':Hid (n=l.length - j * r):=hn'
  have hnr:n+j * r=l.length:=by omega
  have HNR:Hid (n+j * r=l.length):=hnr
  clear hn hn'
  by_cases hlt:j<q
  ·have hd:decide ((j:Int)<(q:Int))=true:=decide_eq_true (by omega)
   have hjq:(j:Int)<q:=by omega
   have hjr1:(j+1) * r≤q * r:=Nat.mul_le_mul_right r hlt
   rw[Nat.add_mul,Nat.one_mul] at hjr1
   have hrn:r≤n:=by omega
   clear hnr
   obtain⟨b,off,rfl⟩:∃b off,a2=some ⟨b,off,none⟩:=by
    obtain⟨b,off,cp,e1,_⟩:=hR.cellAt (i:=0) (by rw[←HN.out];omega)
    simp only[Value.slice.injEq] at e1
    exact⟨b,off,e1.1⟩
   have hT:=(hR.kept hI2.b).take (n:=r) hrn
   have hlen:((l.drop (j * r)).take r).length=r:=by rw[List.length_take,←HN.out];omega
   have HT:Hid (arrV (tkF (fuN r l j) (fun k=>((l.drop (j * r)).take r).getD k 0) ((l.drop (j * r)).take r).length)=arrV (fuN r l (j+1))):=by
    rw[hlen]
    exact arrV_congr (tkF_congr r (fun _ _=>rfl) fun k hk=>by simp[hk])
   have hP:=hR.rest r hrn
   rw[List.drop_drop,show j * r+r=(j+1) * r by rw[Nat.add_mul,Nat.one_mul]] at hP
   have HP:Hid _:=hP
   have hrc:(r:Int)≤cap2:=by omega
   have hrnI:(r:Int)≤n:=by omega
   have r1:=hI2.r
   clear hR hP
   go_wp2_with fail
   refine wpE_begin 5 (by kernel_rfl) ?_
   refine eU_ 0 rfl ⟨_,by intro W hW;refine Eq.trans (exec_load_row 235 _ (by rfl) (by rfl) r1 hW _ Tryz.underlying235 rfl (arrInfo _)) ?_;with_reducible rfl,?_⟩
   try simp only[Act.put,pA_,pB_,pC_]
   refine eU_ 1 rfl ⟨_,by intro W hW;go_simp<;>with_reducible rfl,?_⟩
   try simp only[Act.put,pA_,pB_,pC_]
   refine eU_ 2 rfl ⟨_,by intro W hW;go_simp<;>with_reducible rfl,?_⟩
   try simp only[Act.put,pA_,pB_,pC_]
   refine eU_ 3 rfl ⟨_,by intro W hW;go_simp<;>with_reducible rfl,?_⟩
   try simp only[Act.put,pA_,pB_,pC_]
   refine eD_ 4 fun K hK=>?_
   go_simp
   refine(take_any _ (fuN r l j) (fuN_lt r l j) rfl _ _ (by rw[hlen];omega) _ hT.drew hI2.drew.t).mono ?_
   rintro e w2 ⟨rfl,hB2⟩
   refine hK.out _ _ hB2 ?_
   clear hK K
   have hI3:=hI2.drew.kept hB2
   have r3:=hI3.r
   rw[HT.out]
   try simp only[Act.put,pA_,pB_,pC_]
   refine eL_ fun K hK=>?_
   refine wp_store_row 235 _ _ (by rfl) (stL (fuN r l (j+1))) (by rfl) (by rfl) r3 (by simp[stL_length]) (arrInfo _) ?_
   intro w4 r4 hw4
   refine hK.out _ _ ?_
   clear hK K
   try simp only[Act.put,pA_,pB_,pC_]
   have hI4:=hI3.whole r4 hw4
   clear r1 r3 r4 hw4 hI2 hI3 hB2 hT
   by_cases hcr:cap2=r
   ·have hcrI:(cap2:Int)=r:=by omega
    rw[if_pos hcr,hcr,Nat.sub_self] at HP
    go_wp2
    go_roundw
    case rel=>exact⟨j+1,by omega,by go_num,HP.out,hI4⟩
    case measure=>simp[intOf];omega
   ·rw[if_neg hcr] at HP
    go_wp2
    go_roundw
    case rel=>exact⟨j+1,by omega,by go_num,HP.out,hI4⟩
    case measure=>simp[intOf];omega
  ·have hje:j=q:=by omega
   have hd:decide ((j:Int)<(q:Int))=false:=decide_eq_false (by omega)
   have hjq:(q:Int)≤j:=by omega
   have HJ:Hid (j=q):=hje
   have hR1:=hR.kept hI2.b
   have hln:(l.drop (j * r)).length<r:=by rw[←HN.out,HN'.out,hje];exact hqm
   have r1:=hI2.r
   clear hje hR hnr
   go_wp2_with fail
   refine wpE_begin 6 (by kernel_rfl) ?_
   refine eU_ 0 rfl ⟨_,by intro W hW;refine Eq.trans (exec_load_row 235 _ (by rfl) (by rfl) r1 hW _ Tryz.underlying235 rfl (arrInfo _)) ?_;with_reducible rfl,?_⟩
   try simp only[Act.put,pA_,pB_,pC_]
   refine eU_ 1 rfl ⟨_,by intro W hW;go_simp<;>with_reducible rfl,?_⟩
   try simp only[Act.put,pA_,pB_,pC_]
   refine eU_ 2 rfl ⟨_,by intro W hW;go_simp<;>with_reducible rfl,?_⟩
   try simp only[Act.put,pA_,pB_,pC_]
   refine eU_ 3 rfl ⟨_,by intro W hW;go_simp<;>with_reducible rfl,?_⟩
   try simp only[Act.put,pA_,pB_,pC_]
   refine eD_ 4 fun K hK=>?_
   go_simp
   refine(lastBlock_any r h2 s _ rfl _ (l.drop (j * r)) hln _ hR1.drew).mono ?_
   rintro e w2 ⟨v2,rfl,hN2⟩
   refine hK.out _ _ hN2.2 ?_
   clear hK K
   have hI3:=hI2.drew.kept hN2.2
   have hR2:=hN2.rd
   try simp only[Act.put,pA_,pB_,pC_]
   refine eD_ 5 fun K hK=>?_
   go_simp
   refine(take_any _ (fuN r l j) (fuN_lt r l j) rfl _ _ (by rw[lbL_length];exact h2) _ hR2 hI3.t).mono ?_
   rintro e w3 ⟨rfl,hB3⟩
   refine hK.out _ _ hB3 ?_
   clear hK K
   have hI4:=hI3.kept hB3
   have r3:=hI4.a
   try simp only[Act.put,pA_,pB_,pC_]
   refine eL_ fun K hK=>?_
   refine wp_store_row 235 _ _ (by rfl) _ (by rfl) (by rfl) r3 (by simp[stL_length]) (arrInfo _) ?_
   intro w4 r4 hw4
   refine hK.out _ _ ?_
   clear hK K
   try simp only[Act.put,pA_,pB_,pC_]
   have hb4:=hw4.below _ _ (Nat.le_refl _) hI4.b
   go_wp2_with fail
   refine bodyPost_row (p:=6) (ty:=235) rfl rfl rfl r4 Tryz.underlying235 rfl (arrInfo _) ?_
   refine⟨?_,hb4⟩
   rw[HJ.out,lbL_length]
   refine congrArg Ending.returned (arrV_congr (tkF_congr r (fun _ _=>rfl) fun k hk=>?_))
   rw[HQ.out]
   exact lb_las r s l (by omega) k hk

theorem absorb_any (R S:Int) (s:UInt8) (hS:S=(s.toNat:Int)) (vb:Value) (l:List UInt8) (w:World) (hr:Rd w vb l) (ht:Tabs w):
  Calls Tryz.prog 192 #[.int .i64 R,.int .u8 S,vb] w fun e w'=>e=.returned (arrV (abF R s l))∧Below w.heap.size w w':=by
 by_cases h:1≤R∧R≤200
 ·obtain⟨r,rfl⟩:∃r:Nat,R=r:=⟨R.toNat,by omega⟩
  have e:arrV (abF (r:Int) s l)=arrV (tkF (fuN r l (l.length / r)) (lasB r s l) r):=by
   unfold abF
   rw[if_pos h,Int.toNat_natCast]
   exact arrV_congr fun k hk=>abs_eq r s l (by omega) k hk
  rw[e]
  exact absorb_at r (by omega) (by omega) s S hS vb l w hr ht
 ·have e:abF R s l=fun _=>0:=by unfold abF;rw[if_neg h]
  rw[e]
  exact absorb_zero R S h vb w
structure FastI (w:World) (gs caps gk capk:Nat) (l:List Int) (wr:World):Prop where
 s:RowAt .u64 39 gs caps l wr
 k:RowAt .u64 39 gk capk (kst.map fun x=>((x:Nat):Int)) wr
 b:Below w.heap.size w wr
theorem FastI.set {w:World} {gs caps gk capk:Nat} {l:List Int} {wr:World} (h:FastI w gs caps gk capk l wr) (hg:w.heap.size≤gs) (hne:gs<gk) (j:Nat) (x:Int):
  FastI w gs caps gk capk (l.set j x) (wr.setCell ⟨gs,j,none⟩ (.int .u64 x)):=⟨h.s.set j x,h.k.other (by show gs≠gk;omega) _,h.b.setCell hg _⟩
theorem FastI.other {w:World} {gs caps gk capk:Nat} {l:List Int} {wr:World} (h:FastI w gs caps gk capk l wr) {p:Addr} (h1:p.block≠gs) (h2:p.block≠gk) (h3:w.heap.size≤p.block) (u:Value):
  FastI w gs caps gk capk l (wr.setCell p u):=⟨h.s.other h1 _,h.k.other h2 _,h.b.setCell h3 _⟩
theorem FastI.kept {w:World} {gs caps gk capk:Nat} {l:List Int} {wr w':World} (h:FastI w gs caps gk capk l wr) (hb:Below wr.heap.size wr w'):FastI w gs caps gk capk l w':=
 ⟨h.s.kept hb,h.k.kept hb,h.b.trans (hb.mono h.b.size)⟩
theorem FastI.drew {w:World} {gs caps gk capk:Nat} {l:List Int} {wr:World} (h:FastI w gs caps gk capk l wr):FastI w gs caps gk capk l wr.drew:=h.kept (Below.refl _ _).drew

theorem NewI.past {k:IntKind} {e e':TypeId} {w w2 w3:World} {v o:Value} {l:List Int} {lo:List UInt8} (h:NewI k e w v l w2) (ho:New e' w o lo w2) (hne:e≠e') (hg:w2.grownBy w3 o.ownBlock) (hb:Below w.heap.size w w3):NewI k e w v l w3:=by
 refine⟨⟨h.1.1,h.1.2.imp id ?_⟩,hb⟩
 rintro⟨g,cap,cur,e1,h2,h3,h4⟩
 refine⟨g,cap,cur,e1,h2,?_,h4⟩
 rw[hg.block g (Array.getElem?_eq_some_iff.1 h3).1 ?_,h3]
 intro hc
 rcases ho.1.2 with ⟨rfl,_⟩|⟨g',cap',cur',rfl,_,h3',_⟩
 ·cases hc
 ·simp only[Value.ownBlock,Option.some.injEq] at hc
  subst hc
  rw[h3] at h3'
  simp only[Option.some.injEq,Obj.cells.injEq] at h3'
  exact hne h3'.2.1
theorem NewI.from {k:IntKind} {e:TypeId} {w wr w2:World} {v:Value} {l:List Int} (h:NewI k e wr v l w2) (hb:Below w.heap.size w wr):NewI k e w v l w2:=by
 refine⟨⟨h.1.1,h.1.2.imp id ?_⟩,hb.trans (h.2.mono hb.size)⟩
 rintro⟨g,cap,cur,e1,h2,h3⟩
 exact⟨g,cap,cur,e1,Nat.le_trans hb.size h2,h3⟩
def AtI (e:TypeId) (w:World) (va:Value) (v:Value) (f:Nat→Nat) (wr:World):Prop:=(v=va∧RdI .u64 w va (stL f)∧Below w.heap.size w wr)∨NewI .u64 e w v (stL f) wr
theorem AtI.rd {e:TypeId} {w wr:World} {va v:Value} {f:Nat→Nat} (h:AtI e w va v f wr):RdI .u64 wr v (stL f):=by
 rcases h with ⟨rfl,h,hb⟩|h
 ·exact h.kept hb
 ·exact h.rd
theorem AtI.kept {e:TypeId} {w wr w2:World} {va v:Value} {f:Nat→Nat} (h:AtI e w va v f wr) (hb:Below wr.heap.size wr w2):AtI e w va v f w2:=by
 rcases h with ⟨rfl,h,hb0⟩|h
 ·exact .inl ⟨rfl,h,stepB hb0 hb⟩
 ·exact .inr (h.kept hb)
theorem AtI.past {e e':TypeId} {w w2 w3:World} {va v o:Value} {f:Nat→Nat} {lo lo':List UInt8} {o':Value} (h:AtI e w va v f w2) (ho:New e' w o lo w2) (hne:e≠e') (hg:w2.grownBy w3 o.ownBlock) (ho':New e' w o' lo' w3):AtI e w va v f w3:=by
 rcases h with ⟨rfl,h,hb0⟩|h
 ·exact .inl ⟨rfl,h,ho'.2⟩
 ·exact .inr (h.past ho hne hg ho'.2)

theorem AtI.b {e:TypeId} {w wr:World} {va v:Value} {f:Nat→Nat} (h:AtI e w va v f wr):Below w.heap.size w wr:=by
 rcases h with ⟨rfl,_,hb⟩|h
 ·exact hb
 ·exact h.2
theorem otL_first (f:Nat→Nat) (r n:Nat) (h:n≤r):otL f r n=bsP f n:=by
 unfold otL bsP
 refine List.map_congr_left fun k hk=>?_
 have:=List.mem_range.1 hk
 unfold smF
 rw[Nat.div_eq_of_lt (by omega),Nat.mod_eq_of_lt (by omega)]
 rfl

set_option maxHeartbeats 400000 in
theorem sum256_any (vb:Value) (l:List UInt8) (w:World) (hr:Rd w vb l) (ht:Tabs w):
  Calls Tryz.prog 114 #[vb] w fun e w'=>∃v,e=.returned v∧New 5 w v (otL (abF 136 6 l) 136 32) w':=by
 go_enter Tryz.func114,Tryz.ntmps114
 go_wp2_with fail
 refine(absorb_any 136 6 6 rfl _ l _ hr ht).mono ?_
 rintro e w2 ⟨rfl,hB⟩
 go_wp2_with fail
 refine(first_any _ (abF 136 6 l) (abF_lt _ _ _) rfl 32 (by omega) _).mono ?_
 rintro e w3 ⟨v3,rfl,hN3⟩
 go_wp2
 go_ret
 rw[otL_first _ _ _ (by omega)]
 exact⟨_,rfl,hN3.from hB⟩

set_option maxHeartbeats 400000 in
theorem sum512_any (vb:Value) (l:List UInt8) (w:World) (hr:Rd w vb l) (ht:Tabs w):
  Calls Tryz.prog 183 #[vb] w fun e w'=>∃v,e=.returned v∧New 5 w v (otL (abF 72 6 l) 72 64) w':=by
 go_enter Tryz.func183,Tryz.ntmps183
 go_wp2_with fail
 refine(absorb_any 72 6 6 rfl _ l _ hr ht).mono ?_
 rintro e w2 ⟨rfl,hB⟩
 go_wp2_with fail
 refine(first_any _ (abF 72 6 l) (abF_lt _ _ _) rfl 64 (by omega) _).mono ?_
 rintro e w3 ⟨v3,rfl,hN3⟩
 go_wp2
 go_ret
 rw[otL_first _ _ _ (by omega)]
 exact⟨_,rfl,hN3.from hB⟩

def xofC (f:Nat→Nat) (r c:Nat):List Value:=(stL f).map (Value.int .u64)++[Value.int .i64 (r:Int),.int .i64 (c:Int)]
theorem build_xof (f:Nat→Nat) (r:Int) (w:World):(Instr.build 248 #[(0,arrV f),(1,.int .i64 r)]).run Tryz.prog w=.ok (.agg ((stL f).map (Value.int .u64)++[Value.int .i64 r,.int .i64 0]).toArray) w:=by kernel_rfl
theorem wpList_build {P:Program} {ops:Array Oper} {rest:List Oper} {op:Oper} {a:Act} {w:World} {Q:Exit→Act→World→Prop} (hgd:op.guard=none) (t:TypeId) (ps:Array (Nat×Operand)) (ho:op.op=.build t ps)
  (vs:Array (Nat×Value)) (hv:ps.map (fun p=>(p.1,a.eval p.2))=vs) (v:Value) (hrun:(Instr.build t vs).run P w=.ok v w) (h:wpList P ops Q rest (a.put op.dst v) w):wpList P ops Q (op :: rest) a w:=by
 refine wpList_plain hgd fun K hK=>?_
 unfold Oper.wp execOp
 have hv':Array.map (fun x=>match x with|(i,x)=>(i,a.eval x)) ps=vs:=hv
 simp only[ho,hv',Sem.run_bind,hrun,Result.andThen_ok,Sem.run_pure]
 exact hK _ _ h
def XP (g:Nat) (f:Nat→Nat) (r p:Nat) (w:World):Prop:=∃t c,c≤r∧p=t * r+c∧BlkAt g 248 (xofC (itF f t) r c) w
theorem XP.chg {S:Nat→Prop} {g:Nat} {f:Nat→Nat} {r p:Nat} {w w':World} (h:XP g f r p w) (c:Chg S w w') (hS:¬S g):XP g f r p w':=by
 obtain⟨t,k,h1,h2,h3⟩:=h
 exact⟨t,k,h1,h2,h3.chg c hS⟩
theorem XP.kept {g:Nat} {f:Nat→Nat} {r p:Nat} {w w':World} (h:XP g f r p w) (c:Below w.heap.size w w'):XP g f r p w':=h.chg (Chg.of_below (S:=fun _=>False) c) id
theorem XP.lt {g:Nat} {f:Nat→Nat} {r p:Nat} {w:World} (h:XP g f r p w):g<w.heap.size:=by
 obtain⟨t,k,h1,h2,h3⟩:=h
 exact h3.lt

set_option maxRecDepth 100000 in
set_option maxHeartbeats 400000 in
theorem shake_any (r:Nat) (h1:1≤r) (h2:r≤200) (vb:Value) (l:List UInt8) (w:World) (hr:Rd w vb l) (ht:Tabs w):
  Calls Tryz.prog 205 #[Value.int .i64 (r:Int),vb] w fun e w'=>∃g,e=.returned (.pointer (some ⟨g,0,none⟩))∧w.heap.size≤g∧XP g (abF r 31 l) r 0 w'∧Below w.heap.size w w':=by
 go_enter Tryz.func205,Tryz.ntmps205
 go_wp2_with fail
 refine(absorb_any (r:Int) 31 31 rfl _ l _ hr ht).mono ?_
 rintro e w2 ⟨rfl,hB⟩
 have hbx:BlkAt w2.heap.size 248 (xofC (abF r 31 l) r 0) (w2.alloc (.cells ((stL (abF r 31 l)).map (Value.int .u64)++[Value.int .i64 (r:Int),.int .i64 0]).toArray 248)):=BlkAt.fresh rfl rfl
 have hb2:=stepB hB (growB (.cells ((stL (abF r 31 l)).map (Value.int .u64)++[Value.int .i64 (r:Int),.int .i64 0]).toArray 248))
 have hge:=hB.size
 have HX:Hid (XP w2.heap.size (abF r 31 l) r 0 _):=⟨0,0,Nat.zero_le _,by simp,hbx⟩
 have HB:Hid _:=hb2
 have hbd:=build_xof (abF r 31 l) r w2
 clear hbx hb2 hB
 generalize hC:((stL (abF r 31 l)).map (Value.int .u64)++[Value.int .i64 (r:Int),.int .i64 0]).toArray=C at hbd HX HB
 clear hC
 go_wp2_with (refine wpList_build (by rfl) 248 _ (by rfl) #[(0,arrV (abF r 31 l)),(1,Value.int .i64 (r:Int))] (by go_simp;done) _ hbd ?_)
 go_ret
 exact⟨_,rfl,hge,HX.out,HB.out⟩
theorem convS {w:World} {v:Value} {l:List UInt8} (h:Rd w v l):(convert 26 9 v).run Tryz.prog w=.ok (.string ⟨l.toArray⟩) w:=h.conv Tryz.underlying26 Tryz.underlying5 Tryz.underlying9
theorem Chg.past {g B:Nat} {a w w':World} (h:Below B a w) (c:Chg (fun b=>b=g) w w') (hB:B≤w.heap.size) (hg:B≤g):Below B a w':=c.below h hB fun k _ e=>by omega
theorem own_past {g:Nat} {w w':World} {base:Nat} {e:TypeId} {v:Value} {n:Nat} {xs:List Value} (h:w.ownsRow base e 1 v n xs) (c:Chg (fun b=>b=g) w w') (hg:g<base):w'.ownsRow base e 1 v n xs:=
 own_chg h c fun b hb e=>by
  have:=(h.lt b hb).1
  omega
theorem New.slice {e:TypeId} {w w':World} {v:Value} {l:List UInt8} (h:New e w v l w') (hl:l≠[]):∃g cap,v=.slice (some ⟨g,0,none⟩) l.length cap∧l.length≤cap:=by
 have hpos:0<l.length:=List.length_pos_iff.2 hl
 rcases h.1.2 with ⟨h',h0⟩|⟨g,cap,cur,h',hb,hg,hn,hm,hs,ht⟩
 ·omega
 ·exact⟨g,cap,h',hn⟩
theorem RdL.lit2 {w:World} {e:TypeId} {v1 v2:Value} {l1 l2:List UInt8} (h1:Rd w v1 l1) (h2:Rd w v2 l2):RdL (w.alloc (.cells #[v1,v2] e)) (.slice (some ⟨w.heap.size,0,none⟩) 2 2) [v1,v2] [l1,l2]:=
 RdL.lit _ _ rfl rfl rfl (by simp[maxLen]) rfl (fun i hi=>by
  match i with
  |0=>exact h1
  |1=>exact h2
  |i+2=>exact absurd hi (by simp))
theorem New.two {e:TypeId} {w w':World} {v:Value} {l1 l2:List UInt8} (h:New e w v [l1,l2].flatten w'):New e w v (l1++l2) w':=by
 simpa using h

theorem RdL.lit2b {w:World} {e:TypeId} {v1 v2:Value} {l1 l2:List UInt8} {b:Nat} (hb:b=w.heap.size) (h1:Rd w v1 l1) (h2:Rd w v2 l2):RdL (w.alloc (.cells #[v1,v2] e)) (.slice (some ⟨b,0,none⟩) 2 2) [v1,v2] [l1,l2]:=by
 subst hb
 exact RdL.lit2 h1 h2

theorem wp_make_own {P:Program} {e:TypeId} {w:World} {o:Oper} {a:Act} {K:Act→World→Prop} {Q:Exit→Act→World→Prop} (l c:Operand) (t:TypeId) (ho:o.op=.makeSlice t l c) (hu:P.underlying t=some (.slice e))
  (hinfo:(P.info? e).map (fun i=>(i.zero,i.size,i.bytes))=some (some (.int .u8 0),1,1)) (n:Nat) (hl:a.eval l=.int .i64 (n:Int)) (hc:a.eval c=.int .i64 (n:Int)) (hn:n≤1000000)
  (h:∀w',New e w (.slice (some ⟨w.heap.size,0,none⟩) n n) (List.replicate n 0) w'→K (a.put o.dst (.slice (some ⟨w.heap.size,0,none⟩) n n)) w'):o.wp P a w K Q:=by
 obtain⟨i,hi,hz0,hz1,hz2⟩:=info_parts hinfo
 obtain⟨w',hrun,r1,r2⟩:=run_make_full (P:=P) w w.heap.size t e i _ 1 hu hi hz0 hz1 .i64 .i64 n (by rw[hz2];omega) (by unfold maxLen;omega) (Nat.le_refl _)
 unfold Oper.wp
 simp[execOp,ho,hl,hc,hrun,Result.andThen]
 rw[Nat.mul_one] at r1
 exact h w' (New.made r1 r2)
theorem wpList_make_new16 {P:Program} {e:TypeId} {w:World} {ops:Array Oper} {rest:List Oper} {o:Oper} {a:Act} {Q:Exit→Act→World→Prop} (hgd:o.guard=none) (l c:Operand) (t:TypeId) (ho:o.op=.makeSlice t l c) (hu:P.underlying t=some (.slice e))
  (hinfo:(P.info? e).map (fun i=>(i.zero,i.size,i.bytes))=some (some (.int .u8 0),1,1)) (n:Nat) (hl:a.eval l=.int .i64 (n:Int)) (hc:a.eval c=.int .i64 (n:Int)) (hn:n≤1000000)
  (h:∀w',New e w (.slice (some ⟨w.heap.size,0,none⟩) n n) (List.replicate n 0) w'→wpList P ops Q rest (a.put o.dst (.slice (some ⟨w.heap.size,0,none⟩) n n)) w'):wpList P ops Q (o :: rest) a w:=
 wpList_plain hgd fun _ hK=>wp_make_own l c t ho hu hinfo n hl hc hn fun w' h1=>hK _ _ (h w' h1)

theorem RdL.lit1r {w:World} {e:TypeId} {v:Value} {l:List UInt8} {b:Nat} (hb:b=w.heap.size) (h1:Rd w v l):RdL (w.alloc (.cells #[v] e)) (.slice (some ⟨b,0,none⟩) 1 1) [v] [l]:=
 RdL.lit _ _ rfl rfl hb (by simp[maxLen]) rfl (fun i hi=>by
  match i with
  |0=>exact h1
  |i+1=>exact absurd hi (by simp))
theorem New.one16 {e:TypeId} {w w':World} {v:Value} {l:List UInt8} (h:New e w v [l].flatten w'):New e w v l w':=by
 simpa using h
theorem cellT {w W:World} {p:Addr} {v:Value} (h:w.cell? p=some v) (hb:Below w.heap.size w W):W.cell? p=some v:=by
 rw[hb.cell (World.block_lt_of_cell? _ _ h)]
 exact h
theorem wpList_copy_text {P:Program} {w wr:World} {ops:Array Oper} {rest:List Oper} {o:Oper} {a:Act} {Q:Exit→Act→World→Prop} (hg:o.guard=none) (d s:Operand) (t u:TypeId)
  (ho:o.op=.call {callee:=.builtin .copy,args:=#[d,s],argTypes:=#[t,u]}) (e:TypeId) (ht:P.underlying t=some (.slice e)) (hsz:(P.info? e).map (·.size)=some 1)
  (v:Value) (l:List UInt8) (hs:a.eval d=v) (hN:New e w v l wr) (l2:List UInt8) (hx:a.eval s=.string ⟨l2.toArray⟩) (hlen:l2.length≤l.length) (hne:l≠[])
  (h:∀w',New e w v (l2++l.drop l2.length) w'→wpList P ops Q rest (a.put o.dst (goInt l2.length)) w'):wpList P ops Q (o :: rest) a wr:=by
 have hpos:0<l.length:=List.length_pos_iff.2 hne
 rcases hN.1.2 with ⟨h',h0⟩|⟨g,cap,cur,rfl,hb,hgh,hn,hm,hss,htk⟩
 ·omega
 have hsz2:cur.size=cap:=by simpa using hss
 have hs2:(⟨l2.toArray⟩:ByteArray).size=l2.length:=by simp[ByteArray.size]
 have hr:=Lib.run_copy_row_string (P:=P) wr t u o.type e g 0 l.length cap ⟨l2.toArray⟩ cur e ht hsz hgh (by rw[hs2];exact hlen) (by rw[hs2];omega)
 refine wpList_plain hg fun K hK=>?_
 unfold Oper.wp execOp
 simp only[ho,resolve,invoke,builtin,Sem.run_bind,Sem.run_pure,Result.andThen_ok,List.map_toArray,List.map_cons,List.map_nil,hs,hx,hr]
 rw[hs2] at *
 refine hK _ _ (h _ ?_)
 have e1:cur.toList.take l.length=l.map bv:=by simpa using htk
 have ec:Lib.byteCells (⟨l2.toArray⟩:ByteArray).data.toList=l2.map bv:=by simp[Lib.byteCells,bv]
 refine⟨⟨by simp,.inr ⟨g,cap,_,?_,hb,setRow_heap wr g _ _ e _ hgh,?_,hm,?_,?_⟩⟩,below_setRow hN.2 hb _⟩
 ·rw[show(l2++l.drop l2.length).length=l.length by simp;omega]
 ·simp;omega
 ·rw[ec];simp;omega
 ·rw[ec,show(l2++l.drop l2.length).length * 1=l2.length+(l.length - l2.length) by simp]
  simp only[List.take_zero,List.nil_append,Nat.zero_add]
  rw[show l2.length+(l.length - l2.length)=(l2.map bv).length+(l.length - l2.length) by simp,List.take_length_add_append,List.map_append,List.map_drop,←e1,List.drop_take]
theorem wpList_conv_text {P:Program} {w:World} {ops:Array Oper} {rest:List Oper} {o:Oper} {a:Act} {Q:Exit→Act→World→Prop} (hg:o.guard=none) (x:Operand) (src dst e:TypeId) (ho:o.op=.convert src dst x)
  (hs:P.underlying src=some .string) (hd:P.underlying dst=some (.slice e)) (he:P.underlying e=some (.int .u8)) (l:List UInt8) (hx:a.eval x=.string ⟨l.toArray⟩) (hm:l.length≤maxLen)
  (h:∀v w',Rd w' v l→Below w.heap.size w w'→wpList P ops Q rest (a.put o.dst v) w'):wpList P ops Q (o :: rest) a w:=by
 have hsz:(⟨l.toArray⟩:ByteArray).size=l.length:=by simp[ByteArray.size]
 have hr:=Lib.run_convert_string_bytes (P:=P) w src dst e ⟨l.toArray⟩ hs hd he
 refine wpList_plain hg fun K hK=>?_
 unfold Oper.wp execOp
 simp only[ho,hx,Sem.run_bind,hr,Result.andThen_ok,Sem.run_pure]
 refine hK _ _ (h _ _ ⟨_,_,by rw[hsz],grownCap_ge _ _ _ _,grownCap_le_maxLen _ _ _ _ hm,(fun h=>by cases h),.inr ⟨_,0,rfl,fun i hi=>?_⟩⟩ ?_)
 ·rw[Nat.zero_add,Lib.bytesWorld_cell w e _ i (by rw[hsz];exact hi)]
 ·exact⟨rfl,rfl,rfl,by rw[Lib.bytesWorld_size];omega,fun i hi=>Lib.bytesWorld_at_old w e _ i hi⟩
end Go.Proofs.YtpgjobpmafbigaaGreatDoor
