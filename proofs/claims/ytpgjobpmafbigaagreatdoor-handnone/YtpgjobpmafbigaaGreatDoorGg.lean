/- What functions of the program, or of the reference, answer: contracts; several texts in one. -/
import Derived.Test.YtpgjobpmafbigaaGreatDoorGe
import Derived.Test.YtpgjobpmafbigaaGreatDoorGf
import Derived.Test.YtpgjobpmafbigaaGreatDoorGb
import Derived.Test.YtpgjobpmafbigaaGreatDoorBase
import Derived.Laws.Concat
import Derived.Test.YtpgjobpmafbigaaGreatDoorGa

namespace Go.Proofs.YtpgjobpmafbigaaGreatDoor
open Go.ChangeShapes Go.WideShapes Go.ChangeAt Go.RowKit
set_option linter.unusedSimpArgs false
set_option linter.unusedVariables false

def Nt (S:Nat→Prop) (w:World):Prop:=∀b,S b→∀cs ty cur,w.heap[b]?=some (.cells cs ty cur)→ty≠74∧ty≠111
def MsQ (w:World) (v:Value) (p:Ptn):Prop:=∀(S:Nat→Prop) (W:World),Nt S w→Chg S w W→MsR W v p
theorem MsQ.rd {w:World} {v:Value} {p:Ptn} (h:MsQ w v p):MsR w v p:=h (fun _=>False) w (fun _ h=>h.elim) (Chg.refl _ _)
theorem MsQ.step {w w':World} {v:Value} {p:Ptn} {T:Nat→Prop} (h:MsQ w v p) (hT:Nt T w) (c:Chg T w w'):MsQ w' v p:=by
 intro S W hS c2
 refine h (fun b=>T b∨S b) W ?_ ((c.mono fun _ _=> .inl).trans (c2.mono fun _ _=> .inr))
 intro b hb cs ty cur e
 rcases hb with hb|hb
 ·exact hT b hb cs ty cur e
 ·by_cases hTb:T b
  ·exact hT b hTb cs ty cur e
  ·exact hS b hb cs ty cur (by rw[c.block b (Array.getElem?_eq_some_iff.1 e).1 hTb];exact e)
theorem MsQ.kept {w w':World} {v:Value} {p:Ptn} (h:MsQ w v p) (hb:Below w.heap.size w w'):MsQ w' v p:=h.step (T:=fun _=>False) (fun _ h=>h.elim) (Chg.of_below hb)
theorem MsQ.chg {w w':World} {v:Value} {p:Ptn} {g:Nat} {ty:TypeId} {cs:List Value} (h:MsQ w v p) (hB:BlkAt g ty cs w) (h1:ty≠74) (h2:ty≠111) (c:Chg (fun b=>b=g) w w'):MsQ w' v p:=
 h.step (fun b hb cs' ty' cur e=>by
  subst hb
  unfold BlkAt at hB
  rw[hB] at e
  simp at e
  rw[←e.2.1]
  exact⟨h1,h2⟩) c
theorem MsQ.of_rows {w:World} {base:Nat} {v:Value} {rest:List Rw} {vs:List Value} {p:Ptn} (h:∀q∈((⟨74,2,v,p.n,msX p.ms vs⟩:Rw) :: rest),w.ownsRow base q.ty q.sz q.v q.n q.xs) (ht:∀q∈rest,q.ty=111) (hm:MkR rest vs p.ms):MsQ w v p:=by
 intro S W hS c
 refine MsR.of_rows (base:=base) (fun q hq=>own_chgG (h q hq) c fun b h1 h2=>?_) hm
 rcases(h q hq).2 with ⟨e,h0⟩|⟨g',cap,cur,e,hb',hg,hn,hm',hs,ht'⟩
 ·rw[e] at h1
  simp[Value.ownBlock] at h1
 ·have hgb:g'=b:=by rw[e] at h1;simpa [Value.ownBlock] using h1
  subst hgb
  have h3:=hS _ h2 _ _ _ hg
  rcases List.mem_cons.1 hq with rfl|hq
  ·exact h3.1 rfl
  ·exact h3.2 (ht q hq)

theorem eq_nilT (ad:Addr) (n c:Nat) (w:World):(binOp BinOp.eql 72 (.slice (some ad) n c) (.slice none 0 0)).run Tryz.prog w=.ok (.bool false) w:=by kernel_rfl
theorem eq_nilN (w:World):(binOp BinOp.eql 72 (.slice none 0 0) (.slice none 0 0)).run Tryz.prog w=.ok (.bool true) w:=by kernel_rfl
set_option maxRecDepth 100000 in
set_option maxHeartbeats 2000000 in
theorem tclone_any (v:Value) (l:List Int) (hl:l.length≤1000) (w:World) (h:RdI .i64 w v l):
  Calls Tryz.prog 91 #[v] w fun e w'=>∃r,e=.returned r∧NewI .i64 111 w r l w':=by
 obtain⟨a,c,rfl,h2,h3,h4,h5⟩:=id h
 have HR:Hid (RdI .i64 w _ l):=h
 have HL:Hid (l.length≤1000):=hl
 clear h
 cases a with
 |none=>
  have hc:=h4 rfl
  have hl0:l=[]:=List.eq_nil_of_length_eq_zero (by omega)
  subst hl0 hc
  have q0:=eq_nilN
  go_enter Tryz.func91,Tryz.ntmps91
  go_wp2
  go_ret
  exact⟨_,rfl,NewI.start _⟩
 |some ad=>
  clear h4 h5 h2 h3 hl
  have q0:=eq_nilT ad l.length c
  go_enter Tryz.func91,Tryz.ntmps91
  go_wp2_with (at_builtin;go_must (refine wpList_append_newI rfl _ _ 72 rfl 111 Tryz.underlying72 8 infoTok _ [] rfl (NewI.lit (w:=w) [] rfl rfl rfl (by simp)) _ l rfl (HR.out.kept (growB _)) (by have:=HL.out;simp;omega) (by have:=HL.out;simp;omega) ?_))
  intro v1 w1 hN1 hg1
  have HN1:Hid (NewI .i64 111 w v1 l w1):=hN1
  clear hN1 hg1
  go_wp2
  go_ret
  exact⟨_,rfl,HN1.out⟩

set_option maxRecDepth 100000 in
set_option maxHeartbeats 2000000 in
theorem tidx_any (v:Value) (l:List Int) (x:Int) (hl:l.length≤1000) (w:World) (h:RdI .i64 w v l):
  Calls Tryz.prog 148 #[v,.int .i64 x] w fun e w'=>(∃r:Int,e=.returned (.int .i64 r)∧decide (0≤r)=l.any (fun y=>decide (y=x)))∧w'=w:=by
 obtain⟨a,c,rfl,h2,h3,h4,h5⟩:=id h
 obtain⟨n,hn⟩:∃n:Nat,n=l.length:=⟨_,rfl⟩
 have HN:Hid (n=l.length):=hn
 have HR:Hid (RdI .i64 w (.slice a l.length c) l):=h
 rw[←hn] at HR hl ⊢
 clear h h2 h3 h4 h5 hn
 go_enter Tryz.func148,Tryz.ntmps148
 go_wp2
 go_loopw [8] (fun iv wx=>∃i:Nat,i≤n∧iv=.int .i64 (i:Int)∧Hid (∀k,k<i→l.getD k 0≠x)∧wx=w) (fun iv _=>n - (intOf iv).toNat)
 case atStart=>exact⟨0,by omega,rfl,(by show ∀k,_;intro k hk;omega),rfl⟩
 case round=>
  obtain⟨i,hi,rfl,HI,rfl⟩:=hrel
  by_cases hlt:i<n
  ·have hd:decide ((i:Int)<(n:Int))=true:=decide_eq_true (by omega)
   have hiI:(i:Int)<(n:Int):=by omega
   obtain⟨b,off,cap',ev, -,g1, -⟩:=RdI.cellAt HR.out (i:=i) (by rw[←HN.out];exact hlt)
   simp only[Value.slice.injEq] at ev
   obtain⟨rfl, -,rfl⟩:=ev
   obtain⟨y,hy⟩:∃y:Int,y=l.getD i 0:=⟨_,rfl⟩
   rw[←hy] at g1
   have HY:Hid (y=l.getD i 0):=hy
   clear hy
   by_cases hxy:x=y
   ·have he:(x==y)=true:=by simp[hxy]
    have HA:Hid (l.any (fun y=>decide (y=x))=true):=by
     show _=_
     rw[List.any_eq_true]
     exact⟨y,by rw[HY.out];simp[←HN.out,hlt],by simp[hxy]⟩
    clear hxy
    go_wp2
    go_ret
    exact⟨⟨(i:Int),rfl,by rw[HA.out];exact decide_eq_true (by omega)⟩,rfl⟩
   ·have he:(x==y)=false:=by simp[hxy]
    have HI2:Hid (∀k,k<i+1→l.getD k 0≠x):=by
     show ∀k,_
     intro k hk
     rcases Nat.lt_or_ge k i with h|h
     ·exact HI.out k h
     ·rw[show k=i by omega,←HY.out]
      exact fun e=>hxy e.symm
    clear hxy
    go_wp2
    go_roundw
    case rel=>exact⟨i+1,by omega,by go_num,HI2,by first|trivial|rfl⟩
    case measure=>simp[intOf]<;>omega
  ·have hd:decide ((i:Int)<(n:Int))=false:=decide_eq_false (by omega)
   have HA:Hid (l.any (fun y=>decide (y=x))=false):=by
    show _=_
    rw[List.any_eq_false]
    intro y hy
    obtain⟨k,hk,rfl⟩:=List.getElem_of_mem hy
    have:=HI.out k (by have:=HN.out;omega)
    simp[hk] at this
    simpa using this
   go_wp2
   go_ret
   exact⟨⟨-1,rfl,by rw[HA.out];rfl⟩,rfl⟩
set_option maxHeartbeats 2000000 in
theorem tcont_any (v:Value) (l:List Int) (x:Int) (hl:l.length≤1000) (w:World) (h:RdI .i64 w v l):
  Calls Tryz.prog 92 #[v,.int .i64 x] w fun e w'=>e=.returned (.bool (l.any (fun y=>decide (y=x))))∧w'=w:=by
 go_enter Tryz.func92,Tryz.ntmps92
 go_wp2_with fail
 refine(tidx_any v l x hl w h).mono ?_
 rintro e w1 ⟨⟨r,rfl,hr⟩,rfl⟩
 have HR:Hid _:=hr
 clear hr h hl
 go_wp2
 go_ret
 exact⟨congrArg (fun b=>Ending.returned (Value.bool b)) HR.out,rfl⟩
set_option maxHeartbeats 2000000 in
theorem isKnown_any (p:Ptn) (vm:Value) (A:Array Value) (hA:A=(paC p vm).toArray) (b:Bool) (w:World):
  Calls Tryz.prog 37 #[.agg A,.bool b] w fun e w'=>e=.returned (.bool (if b then p.ki else p.kr))∧Below w.heap.size w w':=by
 subst hA
 cases b
 all_goals
  go_enter Tryz.func37,Tryz.ntmps37
  go_wp2_with (refine wpList_box_blk rfl 25 _ rfl (paC p vm) rfl ?_)
  intro w1 r1 b1 s1
  have c1:w1.cell? ⟨w.heap.size,1,none⟩=some (.bool p.ki):=r1.cell 1
  have c2:w1.cell? ⟨w.heap.size,2,none⟩=some (.bool p.kr):=r1.cell 2
  clear r1 s1
  go_wp2
  go_ret
  exact⟨rfl,b1⟩

set_option maxRecDepth 100000 in
set_option maxHeartbeats 4000000 in
theorem says_any (p:Ptn) (vm:Value) (A:Array Value) (hA:A=(paC p vm).toArray) (q:Bool) (x:Int) (h12:∀k,(p.tk k).length≤1000) (w:World) (h:MsR w vm p):
  Calls Tryz.prog 38 #[.agg A,.bool q,.int .i64 x] w fun e w'=>e=.returned (.bool (sayB p q x))∧Below w.heap.size w w':=by
 subst hA
 obtain⟨a,cap,rfl,hl,hm, -⟩:=id h.form
 obtain⟨n,hn⟩:∃n:Nat,n=p.n:=⟨_,rfl⟩
 rw[←hn] at h hl ⊢
 have HN:Hid (n=p.n):=hn
 unfold maxLen at hm
 have HM1:Hid (MsR w (.slice a n cap) p):=h
 have H12:Hid (∀k,(p.tk k).length≤1000):=h12
 clear h hn h12
 go_enter Tryz.func38,Tryz.ntmps38
 go_wp2_with (refine wpList_box_blk rfl 25 _ rfl (paC p (.slice a n cap)) rfl ?_)
 intro w1 r1 b1 s1
 have c3:w1.cell? ⟨w.heap.size,3,none⟩=some (.slice a n cap):=r1.cell 3
 have HB1:Hid (Below w.heap.size w w1):=b1
 clear r1 s1 b1
 go_wp2
 go_loopw [12] (fun iv wx=>∃i:Nat,i≤n∧iv=.int .i64 (i:Int)∧Hid (∀k,k<i→((p.ini k==q)&&(p.tk k).any fun y=>decide (y=x))=false)∧Below w.heap.size w wx) (fun iv _=>n - (intOf iv).toNat)
 case atStart=>exact⟨0,by omega,rfl,(by show ∀k,_;intro k hk;omega),HB1.out⟩
 case round=>
  obtain⟨i,hi,rfl,HI,hbx⟩:=hrel
  by_cases hlt:i<n
  ·have hd:decide ((i:Int)<(n:Int))=true:=decide_eq_true (by omega)
   have hiI:(i:Int)<(n:Int):=by omega
   obtain⟨b,off,a',c',rfl,g1,g2,g3,g4,g5⟩:=ms_at (HM1.out.kept hbx) (k:=i) (by rw[←HN.out];exact hlt)
   obtain⟨M,hM⟩:∃M:Nat,M=(p.tk i).length:=⟨_,rfl⟩
   rw[←hM] at g2 g3
   obtain⟨r,hr⟩:∃q:Bool,q=p.ini i:=⟨_,rfl⟩
   rw[←hr] at g1
   have HQ:Hid (r=p.ini i):=hr
   have hrg:=range_two g1 g2
   have HR:Hid (RdI .i64 wr (.slice a' M c') (p.tk i)):=g3
   have HNo:Hid (((r==q)&&(p.tk i).any fun y=>decide (y=x))=false→∀k,k<i+1→((p.ini k==q)&&(p.tk k).any fun y=>decide (y=x))=false):=by
    intro h0 k hk
    rcases Nat.lt_or_ge k i with h|h
    ·exact HI.out k h
    ·rw[show k=i by omega,←HQ.out]
     exact h0
   have HYes:Hid (((r==q)&&(p.tk i).any fun y=>decide (y=x))=true→sayB p q x=true):=by
    intro h0
    unfold sayB
    rw[List.any_eq_true]
    exact⟨i,by rw[List.mem_range,←HN.out];exact hlt,by rw[←HQ.out];exact h0⟩
   clear hM hr g1 g2 g3 g4 g5 HI
   go_wp2_with (first
    |refine wpList_load_mid rfl 74 _ rfl b (off+i * 2) rfl [.bool r,.slice a' M c'] _ hrg Tryz.underlying74 rfl infoMsg ?_
    |refine wpList_alloc_blk rfl 74 rfl [.bool false,.slice none 0 0] (allocMsg _) ?_)
   intro w2 r2 b2 s2
   go_wp2_with (refine wpList_store_part rfl 74 _ _ rfl rfl [.bool r,.slice a' M c'] rfl [] [.bool false,.slice none 0 0] [] [.bool r,.slice a' M c'] r2 rfl rfl rfl rfl infoMsg (oneCell2 _ _ _ _) ?_)
   intro w3 r3 hw3
   have b3:Below wr.heap.size wr w3:=hw3.below _ _ (Nat.le_refl _) b2
   have HB3:Hid (Below w.heap.size w w3):=stepB hbx b3
   have HR3:Hid (RdI .i64 w3 (.slice a' M c') (p.tk i)):=HR.out.kept b3
   have d0:w3.cell? ⟨wr.heap.size,0,none⟩=some (.bool r):=r3.cell 0
   have d1:w3.cell? ⟨wr.heap.size,1,none⟩=some (.slice a' M c'):=r3.cell 1
   clear b2 s2 r2 hw3 b3 hrg r3 HR
   by_cases hrq:r=q
   ·have he:(r==q)=true:=by simp[hrq]
    rw[he,Bool.true_and] at HNo HYes
    clear hrq
    go_wp2_with fail
    refine(tcont_any _ (p.tk i) x (H12.out i) _ HR3.out).mono ?_
    rintro e w4 ⟨rfl,rfl⟩
    generalize ((p.tk i).any fun y=>decide (y=x))=T at HNo HYes
    cases T
    ·have HI2:=HNo.out rfl
     have HI3:Hid _:=HI2
     clear HI2 HNo HYes
     go_wp2
     go_roundw
     case rel=>exact⟨i+1,by omega,by go_num,HI3,HB3.out⟩
     case measure=>simp[intOf]<;>omega
    ·have HS:=HYes.out rfl
     have HS2:Hid _:=HS
     clear HS HNo HYes
     go_wp2
     go_ret
     exact⟨congrArg (fun b=>Ending.returned (.bool b)) HS2.out.symm,HB3.out⟩
   ·have he:(r==q)=false:=by simp[hrq]
    rw[he,Bool.false_and] at HNo HYes
    have HI3:Hid _:=HNo.out rfl
    clear hrq HNo HYes
    go_wp2
    go_roundw
    case rel=>exact⟨i+1,by omega,by go_num,HI3,HB3.out⟩
    case measure=>simp[intOf]<;>omega
  ·have hd:decide ((i:Int)<(n:Int))=false:=decide_eq_false (by omega)
   have HA:Hid (sayB p q x=false):=by
    show _=_
    unfold sayB
    rw[List.any_eq_false]
    intro k hk
    rw[HI.out k (by rw[List.mem_range] at hk;have:=HN.out;omega)]
    simp
   go_wp2
   go_ret
   exact⟨congrArg (fun b=>Ending.returned (.bool b)) HA.out.symm,hbx⟩

structure Cq (g:Nat) (q:Bool) (v:Value) (W:World):Prop where
 ini:W.cell? ⟨g,0,none⟩=some (.bool q)
 tok:W.cell? ⟨g,1,none⟩=some v
theorem Cq.kept {g:Nat} {q:Bool} {v:Value} {W W':World} (h:Cq g q v W) (hb:Below W.heap.size W W'):Cq g q v W':=⟨cellKP h.ini hb,cellKP h.tok hb⟩
theorem Cq.chg {S:Nat→Prop} {g:Nat} {q:Bool} {v:Value} {W W':World} (h:Cq g q v W) (c:Chg S W W') (h1:¬S g):Cq g q v W':=⟨cell_chg c h.ini h1,cell_chg c h.tok h1⟩
set_option maxRecDepth 100000 in
set_option maxHeartbeats 8000000 in
theorem messagesOf_any (p:Ptn) (vm:Value) (A:Array Value) (hA:A=(paC p vm).toArray) (hp8:p.n≤1000) (hp12:∀k,(p.tk k).length≤1000) (w:World) (h:MsR w vm p):
  Calls Tryz.prog 36 #[.agg A] w fun e w'=>∃v,e=.returned v∧MsQ w' v p∧Below w.heap.size w w':=by
 subst hA
 obtain⟨ti,hti,hz0,hz1,hz2⟩:=info_parts infoMs
 obtain⟨a,cap,rfl,hl,hm, -⟩:=id h.form
 obtain⟨n,hn⟩:∃n:Nat,n=p.n:=⟨_,rfl⟩
 have HN:Hid (n=p.n):=hn
 rw[←hn] at h hl hp8 ⊢
 have HM:Hid (MsR w (.slice a n cap) p):=h
 have H12:Hid (∀k,(p.tk k).length≤1000):=hp12
 unfold maxLen at hm
 clear h hn hp12
 go_enter Tryz.func36,Tryz.ntmps36
 go_wp2_with (refine wpList_box_blk rfl 25 _ rfl (paC p (.slice a n cap)) rfl ?_)
 intro w1 r1 b1 s1
 have c3:w1.cell? ⟨w.heap.size,3,none⟩=some (.slice a n cap):=r1.cell 3
 have HB1:Hid (Below w.heap.size w w1):=b1
 have hO0:OwnG w1 (⟨74,2,.slice none 0 0,0,msX (p.ms.take 0) []⟩ :: []) w1:=(OwnG.start w1).nil 74 2
 clear r1 b1 s1
 go_wp2
 go_loopw [3,9] (fun ov iv wx=>∃(i:Nat) (vs:List Value) (rest:List Rw),i≤n∧iv=.int .i64 (i:Int)∧Hid (MkR rest vs (p.ms.take i)∧∀q∈rest,q.ty=111)∧OwnG w1 (⟨74,2,ov,i,msX (p.ms.take i) vs⟩ :: rest) wx) (fun _ iv _=>n - (intOf iv).toNat)
 case atStart=>exact⟨0,[],[],by omega,rfl,(by show _∧_;exact⟨⟨rfl,fun k hk=>by cases hk⟩,fun q hq=>by cases hq⟩),hO0⟩
 case round=>
  obtain⟨i,vs,rest,hi,rfl,HG,hO⟩:=hrel
  clear hO0
  by_cases hlt:i<n
  ·have hd:decide ((i:Int)<(n:Int))=true:=decide_eq_true (by omega)
   have hiI:(i:Int)<(n:Int):=by omega
   have HIn:Hid (i<p.n):=by show _<_;rw[←HN.out];exact hlt
   obtain⟨b,off,a',c',rfl,g1,g2,g3,g4,g5⟩:=ms_at (HM.out.kept HB1.out) (k:=i) HIn.out
   replace g1:=cellKP g1 hO.below
   replace g2:=cellKP g2 hO.below
   obtain⟨M,hM⟩:∃M:Nat,M=(p.tk i).length:=⟨_,rfl⟩
   rw[←hM] at g2 g3
   obtain⟨q,hq⟩:∃q:Bool,q=p.ini i:=⟨_,rfl⟩
   rw[←hq] at g1
   have hrg:=range_two g1 g2
   have HR:Hid (RdI .i64 w1 (.slice a' M c') (p.tk i)):=g3
   have HTk:Hid (p.ms.take (i+1)=p.ms.take i++[(q,p.tk i)]):=by
    show _=_
    have hi2:i<p.ms.length:=HIn.out
    have e:(q,p.tk i)=p.ms[i]:=by rw[hq];simp[Ptn.ini,Ptn.tk,hi2]
    rw[e,List.take_add_one,List.getElem?_eq_getElem hi2]
    rfl
   obtain⟨MM,hMM⟩:∃L,L=p.ms.take i:=⟨_,rfl⟩
   rw[←hMM] at hO HG HTk
   have HO:Hid (OwnG w1 (⟨74,2,u3,i,msX MM vs⟩ :: rest) wr):=hO
   obtain⟨tl,htl⟩:∃l:List Int,l=p.tk i:=⟨_,rfl⟩
   have HTl:Hid (tl.length≤1000):=by show _≤_;rw[htl];exact H12.out i
   rw[←htl] at HR HTk
   clear hM hq g1 g2 g3 g4 g5 hMM hO htl
   go_wp2_with (first
    |refine wpList_load_mid rfl 74 _ rfl b (off+i * 2) rfl [.bool q,.slice a' M c'] _ hrg Tryz.underlying74 rfl infoMsg ?_
    |refine wpList_alloc_blk rfl 74 rfl [.bool false,.slice none 0 0] (allocMsg _) ?_)
   intro w4 r4 b4 s4
   go_wp2_with (refine wpList_store_part rfl 74 _ _ rfl rfl [.bool q,.slice a' M c'] rfl [] [.bool false,.slice none 0 0] [] [.bool q,.slice a' M c'] r4 rfl rfl rfl rfl infoMsg (oneCell2 _ _ _ _) ?_)
   intro w5 r5 hw5
   have hO5:=(HO.out.kept b4).wrote hw5 HO.out.below.size (fun r hr b hb=>by have:=HO.out.lt r hr b hb;omega)
   obtain⟨gm,hgm⟩:∃g:Nat,g=wr.heap.size:=⟨_,rfl⟩
   rw[←hgm] at r5 ⊢
   have HFr:Hid (¬some gm=u3.ownBlock):=fun e=>by have:=HO.out.lt _ (List.mem_cons_self ..) gm e.symm;omega
   have hS:Cq gm q (.slice a' M c') w5.drew:=⟨r5.cell 0,r5.cell 1⟩
   have hOd:OwnG w1 (⟨74,2,u3,i,msX MM vs⟩ :: rest) w5.drew:=hO5.drew
   clear r4 b4 s4 hw5 hrg HO hO5 r5 hgm
   go_wp2_with fail
   refine wpS_begin (Cq gm q (.slice a' M c')) (by kernel_rfl) ?_
   refine sU_ hS 0 rfl ⟨_,by intro W hW;go_simp<;>with_reducible rfl,?_⟩
   try simp only[Act.put,pA_,pB_,pC_]
   refine sU_ hS 1 rfl ⟨_,by intro W hW;go_simp<;>with_reducible rfl,?_⟩
   try simp only[Act.put,pA_,pB_,pC_]
   refine sU_ hS 2 rfl ⟨_,by intro W hW;have cW:=hW.ini;go_simp<;>with_reducible rfl,?_⟩
   try simp only[Act.put,pA_,pB_,pC_]
   refine sU_ hS 3 rfl ⟨_,by intro W hW;go_simp<;>with_reducible rfl,?_⟩
   try simp only[Act.put,pA_,pB_,pC_]
   refine sU_ hS 4 rfl ⟨_,by intro W hW;have cW:=hW.tok;go_simp<;>with_reducible rfl,?_⟩
   try simp only[Act.put,pA_,pB_,pC_]
   refine sD_ 5 fun K hK=>?_
   go_simp
   refine(tclone_any _ tl HTl.out _ (HR.out.kept hOd.below)).mono ?_
   rintro e w6 ⟨vt,rfl,hNt⟩
   obtain⟨at',ct,rfl, -⟩:=id hNt.rd
   replace hS:=hS.kept hNt.2
   have hO2:=(hOd.fresh (p:=⟨111,1,.slice at' tl.length ct,tl.length,tl.map (Value.int .i64)⟩) hNt.1 hNt.2).swap
   clear hNt hOd
   refine hK.out _ _ hS ?_
   clear hK K
   try simp only[Act.put,pA_,pB_,pC_]
   refine sU_ hS 6 rfl ⟨_,by intro W hW;go_simp<;>with_reducible rfl,?_⟩
   try simp only[Act.put,pA_,pB_,pC_]
   refine sD_ 7 fun K hK=>?_
   go_simp
   replace hS:=hS.kept (growB (.cells #[.bool q,.slice at' tl.length ct] 74))
   refine hK.out _ _ hS ?_
   clear hK K
   try simp only[Act.put,pA_,pB_,pC_]
   refine sD_ 8 fun K hK=>?_
   refine wp_append_E _ _ 23 rfl 74 ti _ 2 32 Tryz.underlying23 hti hz0 hz1 hz2 rfl (by decide) _ i (msX MM vs) rfl (hO2.kept (growB _)) ⟨w6.heap.size,0,none⟩ 1 1 [.bool q,.slice at' tl.length ct] rfl rfl (news2 _ _ rfl) (by intro u hu;simp at hu;rcases hu with rfl|rfl<;>rfl) (by unfold maxLen;omega) (by omega) ?_
   intro v8 w8 hO8 hC8
   replace hS:=hS.chg hC8 HFr.out
   refine hK.out _ _ hS ?_
   clear hK K
   try simp only[Act.put,pA_,pB_,pC_]
   refine sU_ hS 9 rfl ⟨_,by intro W hW;go_simp<;>with_reducible rfl,?_⟩
   try simp only[Act.put,pA_,pB_,pC_]
   refine wpS_done (by kernel_rfl) ?_
   have HG2:Hid (MkR (⟨111,1,.slice at' tl.length ct,tl.length,tl.map (Value.int .i64)⟩ :: rest) (vs++[.slice at' tl.length ct]) (p.ms.take (i+1))∧∀r∈(⟨111,1,.slice at' tl.length ct,tl.length,tl.map (Value.int .i64)⟩ :: rest:List Rw),r.ty=111):=by
    refine⟨?_,?_⟩
    ·rw[HTk.out]
     exact HG.out.1.next (q,tl) (.slice at' tl.length ct)
    ·intro r hr
     rcases List.mem_cons.1 hr with rfl|hr
     ·rfl
     ·exact HG.out.2 r hr
   have HXn:Hid (msX MM vs++[.bool q,.slice at' tl.length ct]=msX (p.ms.take (i+1)) (vs++[.slice at' tl.length ct])):=by show _=_;rw[HTk.out];exact msX_next MM vs (q,tl) _ HG.out.1.len
   rw[HXn.out] at hO8
   clear hS hC8
   go_wp2
   go_roundw
   case rel=>exact⟨i+1,_,_,by omega,by go_num,HG2,hO8⟩
   case measure=>simp[intOf]<;>omega
  ·have hd:decide ((i:Int)<(n:Int))=false:=decide_eq_false (by omega)
   have hie:i=p.n:=by have:=HN.out;omega
   have HQ:Hid (MsQ wr u3 p):=by
    have hG:=HG.out
    have ht:p.ms.take i=p.ms:=by rw[hie];exact List.take_length
    rw[ht] at hG hO
    rw[hie] at hO
    exact MsQ.of_rows (base:=w1.heap.size) hO.rows hG.2 hG.1
   have HB:Hid (Below w.heap.size w wr):=stepB HB1.out hO.below
   clear hie hO
   go_wp2
   go_ret
   exact⟨_,rfl,HQ.out,HB.out⟩
theorem addP (x y z:List UInt8) (X Y Z:ByteArray) (hX:X=⟨x.toArray⟩) (hY:Y=⟨y.toArray⟩) (hZ:Z=⟨z.toArray⟩) (hz:z=x++y) (hx:x.length≤100000) (hy:y.length≤100000) (W:World):(Op.stringOp .add X Y).run Tryz.prog W=.ok (.string Z) W:=by
 subst hX hY hZ hz
 exact run_string_add_lists W x y (by omega) (by omega)
theorem ne_shm:(101:TypeId)≠74:=by decide
theorem ne_sht:(101:TypeId)≠111:=by decide
def tuP (p:Ptn) (i:Bool):Bool:=decide (0<p.n)&&(p.ini 0==i)
set_option maxRecDepth 100000 in
set_option maxHeartbeats 4000000 in
theorem hturn_any (g:Nat) (cs:List Value) (i:Bool) (vm:Value) (p:Ptn) (w:World) (hB:BlkAt g 101 cs w) (h0:cs[0]?=some (.bool i)) (h1:cs[1]?=some vm) (hM:MsR w vm p):
  Calls Tryz.prog 14 #[.pointer (some ⟨g,0,none⟩)] w fun e w'=>e=.returned (.bool (tuP p i))∧Below w.heap.size w w':=by
 obtain⟨a,cap,rfl,hl,hm, -⟩:=id hM.form
 obtain⟨n,hn⟩:∃n:Nat,n=p.n:=⟨_,rfl⟩
 have c0:w.cell? ⟨g,0,none⟩=some (.bool i):=by rw[hB.cell];exact h0
 have c1:w.cell? ⟨g,1,none⟩=some (.slice a n cap):=by rw[hB.cell,hn];exact h1
 rw[←hn] at hM
 have HN:Hid (n=p.n):=hn
 have HM:Hid (MsR w (.slice a n cap) p):=hM
 clear hB h0 h1 hM hl hn
 unfold maxLen at hm
 by_cases hlt:0<n
 ·have hd:decide ((0:Int)<(n:Int))=true:=decide_eq_true (by omega)
  have hnI:(0:Int)<(n:Int):=by omega
  obtain⟨b,off,a',c',rfl,g1, -⟩:=ms_at HM.out (k:=0) (by rw[←HN.out];exact hlt)
  obtain⟨q,hq⟩:∃q:Bool,q=p.ini 0:=⟨_,rfl⟩
  rw[←hq] at g1
  have g2:w.cell? ⟨b,off,none⟩=some (.bool q):=by simpa using g1
  have HT:Hid (tuP p i=(q==i)):=by
   show _=_
   unfold tuP
   rw[←HN.out,decide_eq_true hlt,Bool.true_and,hq]
  rw[HT.out]
  clear g1 hq
  go_enter Tryz.func14,Tryz.ntmps14
  go_wp2_with fail
  refine wpG_begin (by kernel_rfl) ?_
  refine gU_ 0 rfl ⟨_,by intro W hW;go_simp<;>with_reducible rfl,?_⟩
  try simp only[Act.put,pA_,pB_,pC_]
  refine gU_ 1 rfl ⟨_,by intro W hW;go_simp<;>with_reducible rfl,?_⟩
  try simp only[Act.put,pA_,pB_,pC_]
  refine gU_ 2 rfl ⟨_,by intro W hW;go_simp<;>with_reducible rfl,?_⟩
  try simp only[Act.put,pA_,pB_,pC_]
  refine gU_ 3 rfl ⟨_,by intro W hW;go_simp<;>with_reducible rfl,?_⟩
  try simp only[Act.put,pA_,pB_,pC_]
  refine gU_ 4 rfl ⟨_,by intro W hW;go_simp<;>with_reducible rfl,?_⟩
  try simp only[Act.put,pA_,pB_,pC_]
  refine gU_ 5 rfl ⟨_,by intro W hW;go_simp<;>with_reducible rfl,?_⟩
  try simp only[Act.put,pA_,pB_,pC_]
  refine gU_ 6 rfl ⟨_,by intro W hW;have hcW:=cellT (show w.drew.cell? _=_ from c1) hW;go_simp<;>with_reducible rfl,?_⟩
  try simp only[Act.put,pA_,pB_,pC_]
  refine gU_ 7 rfl ⟨_,by intro W hW;go_simp<;>with_reducible rfl,?_⟩
  try simp only[Act.put,pA_,pB_,pC_]
  refine gU_ 8 rfl ⟨_,by intro W hW;go_simp<;>with_reducible rfl,?_⟩
  try simp only[Act.put,pA_,pB_,pC_]
  refine gU_ 9 rfl ⟨_,by intro W hW;go_simp<;>with_reducible rfl,?_⟩
  try simp only[Act.put,pA_,pB_,pC_]
  refine gU_ 10 rfl ⟨_,by intro W hW;go_simp<;>with_reducible rfl,?_⟩
  try simp only[Act.put,pA_,pB_,pC_]
  refine gU_ 11 rfl ⟨_,by intro W hW;go_simp<;>with_reducible rfl,?_⟩
  try simp only[Act.put,pA_,pB_,pC_]
  refine gU_ 12 rfl ⟨_,by intro W hW;go_simp<;>with_reducible rfl,?_⟩
  try simp only[Act.put,pA_,pB_,pC_]
  refine gU_ 13 rfl ⟨_,by intro W hW;go_simp<;>with_reducible rfl,?_⟩
  try simp only[Act.put,pA_,pB_,pC_]
  refine gU_ 14 rfl ⟨_,by intro W hW;have hcW:=cellT (show w.drew.cell? _=_ from c1) hW;go_simp<;>with_reducible rfl,?_⟩
  try simp only[Act.put,pA_,pB_,pC_]
  refine gU_ 15 rfl ⟨_,by intro W hW;go_simp<;>with_reducible rfl,?_⟩
  try simp only[Act.put,pA_,pB_,pC_]
  refine gU_ 16 rfl ⟨_,by intro W hW;go_simp<;>with_reducible rfl,?_⟩
  try simp only[Act.put,pA_,pB_,pC_]
  refine gU_ 17 rfl ⟨_,by intro W hW;have hcW:=cellT (show w.drew.cell? _=_ from g2) hW;go_simp<;>with_reducible rfl,?_⟩
  try simp only[Act.put,pA_,pB_,pC_]
  refine gU_ 18 rfl ⟨_,by intro W hW;go_simp<;>with_reducible rfl,?_⟩
  try simp only[Act.put,pA_,pB_,pC_]
  refine gU_ 19 rfl ⟨_,by intro W hW;go_simp<;>with_reducible rfl,?_⟩
  try simp only[Act.put,pA_,pB_,pC_]
  refine gU_ 20 rfl ⟨_,by intro W hW;go_simp<;>with_reducible rfl,?_⟩
  try simp only[Act.put,pA_,pB_,pC_]
  refine gU_ 21 rfl ⟨_,by intro W hW;have hcW:=cellT (show w.drew.cell? _=_ from c0) hW;go_simp<;>with_reducible rfl,?_⟩
  try simp only[Act.put,pA_,pB_,pC_]
  refine gU_ 22 rfl ⟨_,by intro W hW;go_simp<;>with_reducible rfl,?_⟩
  try simp only[Act.put,pA_,pB_,pC_]
  refine gU_ 23 rfl ⟨_,by intro W hW;go_simp<;>with_reducible rfl,?_⟩
  try simp only[Act.put,pA_,pB_,pC_]
  refine gU_ 24 rfl ⟨_,by intro W hW;go_simp<;>with_reducible rfl,?_⟩
  try simp only[Act.put,pA_,pB_,pC_]
  refine wpG_done (by kernel_rfl) ?_
  go_wp2
  go_ret
  exact⟨rfl,(Below.refl _ _).drew⟩
 ·have hd:decide ((0:Int)<(n:Int))=false:=decide_eq_false (by omega)
  have HT:Hid (tuP p i=false):=by
   show _=_
   unfold tuP
   rw[←HN.out,decide_eq_false hlt,Bool.false_and]
  rw[HT.out]
  go_enter Tryz.func14,Tryz.ntmps14
  go_wp2_with fail
  refine wpG_begin (by kernel_rfl) ?_
  refine gU_ 0 rfl ⟨_,by intro W hW;go_simp<;>with_reducible rfl,?_⟩
  try simp only[Act.put,pA_,pB_,pC_]
  refine gU_ 1 rfl ⟨_,by intro W hW;go_simp<;>with_reducible rfl,?_⟩
  try simp only[Act.put,pA_,pB_,pC_]
  refine gU_ 2 rfl ⟨_,by intro W hW;go_simp<;>with_reducible rfl,?_⟩
  try simp only[Act.put,pA_,pB_,pC_]
  refine gU_ 3 rfl ⟨_,by intro W hW;go_simp<;>with_reducible rfl,?_⟩
  try simp only[Act.put,pA_,pB_,pC_]
  refine gU_ 4 rfl ⟨_,by intro W hW;go_simp<;>with_reducible rfl,?_⟩
  try simp only[Act.put,pA_,pB_,pC_]
  refine gU_ 5 rfl ⟨_,by intro W hW;go_simp<;>with_reducible rfl,?_⟩
  try simp only[Act.put,pA_,pB_,pC_]
  refine gU_ 6 rfl ⟨_,by intro W hW;have hcW:=cellT (show w.drew.cell? _=_ from c1) hW;go_simp<;>with_reducible rfl,?_⟩
  try simp only[Act.put,pA_,pB_,pC_]
  refine gU_ 7 rfl ⟨_,by intro W hW;go_simp<;>with_reducible rfl,?_⟩
  try simp only[Act.put,pA_,pB_,pC_]
  refine gU_ 8 rfl ⟨_,by intro W hW;go_simp<;>with_reducible rfl,?_⟩
  try simp only[Act.put,pA_,pB_,pC_]
  refine gU_ 9 rfl ⟨_,by intro W hW;go_simp<;>with_reducible rfl,?_⟩
  try simp only[Act.put,pA_,pB_,pC_]
  refine gU_ 10 rfl ⟨_,by intro W hW;go_simp<;>with_reducible rfl,?_⟩
  try simp only[Act.put,pA_,pB_,pC_]
  refine wpG_skip (i:=11) (nA rfl) (by kernel_rfl) (by kernel_rfl) (by kernel_rfl) (by rfl) ?_
  try simp only[Act.put,pA_,pB_,pC_]
  refine wpG_skip (i:=12) (nA rfl) (by kernel_rfl) (by kernel_rfl) (by kernel_rfl) (by rfl) ?_
  try simp only[Act.put,pA_,pB_,pC_]
  refine wpG_skip (i:=13) (nA rfl) (by kernel_rfl) (by kernel_rfl) (by kernel_rfl) (by rfl) ?_
  try simp only[Act.put,pA_,pB_,pC_]
  refine wpG_skip (i:=14) (nA rfl) (by kernel_rfl) (by kernel_rfl) (by kernel_rfl) (by rfl) ?_
  try simp only[Act.put,pA_,pB_,pC_]
  refine wpG_skip (i:=15) (nA rfl) (by kernel_rfl) (by kernel_rfl) (by kernel_rfl) (by rfl) ?_
  try simp only[Act.put,pA_,pB_,pC_]
  refine wpG_skip (i:=16) (nA rfl) (by kernel_rfl) (by kernel_rfl) (by kernel_rfl) (by rfl) ?_
  try simp only[Act.put,pA_,pB_,pC_]
  refine wpG_skip (i:=17) (nA rfl) (by kernel_rfl) (by kernel_rfl) (by kernel_rfl) (by rfl) ?_
  try simp only[Act.put,pA_,pB_,pC_]
  refine wpG_skip (i:=18) (nA rfl) (by kernel_rfl) (by kernel_rfl) (by kernel_rfl) (by rfl) ?_
  try simp only[Act.put,pA_,pB_,pC_]
  refine wpG_skip (i:=19) (nA rfl) (by kernel_rfl) (by kernel_rfl) (by kernel_rfl) (by rfl) ?_
  try simp only[Act.put,pA_,pB_,pC_]
  refine wpG_skip (i:=20) (nA rfl) (by kernel_rfl) (by kernel_rfl) (by kernel_rfl) (by rfl) ?_
  try simp only[Act.put,pA_,pB_,pC_]
  refine wpG_skip (i:=21) (nA rfl) (by kernel_rfl) (by kernel_rfl) (by kernel_rfl) (by rfl) ?_
  try simp only[Act.put,pA_,pB_,pC_]
  refine wpG_skip (i:=22) (nA rfl) (by kernel_rfl) (by kernel_rfl) (by kernel_rfl) (by rfl) ?_
  try simp only[Act.put,pA_,pB_,pC_]
  refine gU_ 23 rfl ⟨_,by intro W hW;go_simp<;>with_reducible rfl,?_⟩
  try simp only[Act.put,pA_,pB_,pC_]
  refine gU_ 24 rfl ⟨_,by intro W hW;go_simp<;>with_reducible rfl,?_⟩
  try simp only[Act.put,pA_,pB_,pC_]
  refine wpG_done (by kernel_rfl) ?_
  go_wp2
  go_ret
  exact⟨rfl,(Below.refl _ _).drew⟩
set_option maxRecDepth 100000 in
set_option maxHeartbeats 4000000 in
theorem hturn_nil (w:World):Calls Tryz.prog 14 #[.pointer none] w fun e w'=>e=.returned (.bool false)∧Below w.heap.size w w':=by
 go_enter Tryz.func14,Tryz.ntmps14
 go_wp2_with fail
 refine wpG_begin (by kernel_rfl) ?_
 refine gU_ 0 rfl ⟨_,by intro W hW;go_simp<;>with_reducible rfl,?_⟩
 try simp only[Act.put,pA_,pB_,pC_]
 refine gU_ 1 rfl ⟨_,by intro W hW;go_simp<;>with_reducible rfl,?_⟩
 try simp only[Act.put,pA_,pB_,pC_]
 refine gU_ 2 rfl ⟨_,by intro W hW;go_simp<;>with_reducible rfl,?_⟩
 try simp only[Act.put,pA_,pB_,pC_]
 refine wpG_skip (i:=3) (nA rfl) (by kernel_rfl) (by kernel_rfl) (by kernel_rfl) (by rfl) ?_
 try simp only[Act.put,pA_,pB_,pC_]
 refine wpG_skip (i:=4) (nA rfl) (by kernel_rfl) (by kernel_rfl) (by kernel_rfl) (by rfl) ?_
 try simp only[Act.put,pA_,pB_,pC_]
 refine wpG_skip (i:=5) (nA rfl) (by kernel_rfl) (by kernel_rfl) (by kernel_rfl) (by rfl) ?_
 try simp only[Act.put,pA_,pB_,pC_]
 refine wpG_skip (i:=6) (nA rfl) (by kernel_rfl) (by kernel_rfl) (by kernel_rfl) (by rfl) ?_
 try simp only[Act.put,pA_,pB_,pC_]
 refine wpG_skip (i:=7) (nA rfl) (by kernel_rfl) (by kernel_rfl) (by kernel_rfl) (by rfl) ?_
 try simp only[Act.put,pA_,pB_,pC_]
 refine wpG_skip (i:=8) (nA rfl) (by kernel_rfl) (by kernel_rfl) (by kernel_rfl) (by rfl) ?_
 try simp only[Act.put,pA_,pB_,pC_]
 refine gU_ 9 rfl ⟨_,by intro W hW;go_simp<;>with_reducible rfl,?_⟩
 try simp only[Act.put,pA_,pB_,pC_]
 refine gU_ 10 rfl ⟨_,by intro W hW;go_simp<;>with_reducible rfl,?_⟩
 try simp only[Act.put,pA_,pB_,pC_]
 refine wpG_skip (i:=11) (nA rfl) (by kernel_rfl) (by kernel_rfl) (by kernel_rfl) (by rfl) ?_
 try simp only[Act.put,pA_,pB_,pC_]
 refine wpG_skip (i:=12) (nA rfl) (by kernel_rfl) (by kernel_rfl) (by kernel_rfl) (by rfl) ?_
 try simp only[Act.put,pA_,pB_,pC_]
 refine wpG_skip (i:=13) (nA rfl) (by kernel_rfl) (by kernel_rfl) (by kernel_rfl) (by rfl) ?_
 try simp only[Act.put,pA_,pB_,pC_]
 refine wpG_skip (i:=14) (nA rfl) (by kernel_rfl) (by kernel_rfl) (by kernel_rfl) (by rfl) ?_
 try simp only[Act.put,pA_,pB_,pC_]
 refine wpG_skip (i:=15) (nA rfl) (by kernel_rfl) (by kernel_rfl) (by kernel_rfl) (by rfl) ?_
 try simp only[Act.put,pA_,pB_,pC_]
 refine wpG_skip (i:=16) (nA rfl) (by kernel_rfl) (by kernel_rfl) (by kernel_rfl) (by rfl) ?_
 try simp only[Act.put,pA_,pB_,pC_]
 refine wpG_skip (i:=17) (nA rfl) (by kernel_rfl) (by kernel_rfl) (by kernel_rfl) (by rfl) ?_
 try simp only[Act.put,pA_,pB_,pC_]
 refine wpG_skip (i:=18) (nA rfl) (by kernel_rfl) (by kernel_rfl) (by kernel_rfl) (by rfl) ?_
 try simp only[Act.put,pA_,pB_,pC_]
 refine wpG_skip (i:=19) (nA rfl) (by kernel_rfl) (by kernel_rfl) (by kernel_rfl) (by rfl) ?_
 try simp only[Act.put,pA_,pB_,pC_]
 refine wpG_skip (i:=20) (nA rfl) (by kernel_rfl) (by kernel_rfl) (by kernel_rfl) (by rfl) ?_
 try simp only[Act.put,pA_,pB_,pC_]
 refine wpG_skip (i:=21) (nA rfl) (by kernel_rfl) (by kernel_rfl) (by kernel_rfl) (by rfl) ?_
 try simp only[Act.put,pA_,pB_,pC_]
 refine wpG_skip (i:=22) (nA rfl) (by kernel_rfl) (by kernel_rfl) (by kernel_rfl) (by rfl) ?_
 try simp only[Act.put,pA_,pB_,pC_]
 refine gU_ 23 rfl ⟨_,by intro W hW;go_simp<;>with_reducible rfl,?_⟩
 try simp only[Act.put,pA_,pB_,pC_]
 refine gU_ 24 rfl ⟨_,by intro W hW;go_simp<;>with_reducible rfl,?_⟩
 try simp only[Act.put,pA_,pB_,pC_]
 refine wpG_done (by kernel_rfl) ?_
 go_wp2
 go_ret
 exact⟨rfl,(Below.refl _ _).drew⟩
set_option maxHeartbeats 2000000 in
theorem hdone_any (g:Nat) (cs:List Value) (vm:Value) (p:Ptn) (w:World) (hB:BlkAt g 101 cs w) (h1:cs[1]?=some vm) (hM:MsR w vm p):
  Calls Tryz.prog 15 #[.pointer (some ⟨g,0,none⟩)] w fun e w'=>e=.returned (.bool (decide (p.n=0)))∧w'=w:=by
 obtain⟨a,cap,rfl,hl,hm, -⟩:=id hM.form
 obtain⟨n,hn⟩:∃n:Nat,n=p.n:=⟨_,rfl⟩
 have c1:w.cell? ⟨g,1,none⟩=some (.slice a n cap):=by rw[hB.cell,hn];exact h1
 rw[←hn]
 have HE:Hid (((n:Int)==0)=decide (n=0)):=by
  show _=_
  by_cases h:n=0<;>simp[h]
 clear hB h1 hM hl hn
 go_enter Tryz.func15,Tryz.ntmps15
 go_wp2
 go_ret
 exact⟨congrArg (fun b=>Ending.returned (.bool b)) HE.out,rfl⟩
theorem hdone_nil (w:World):Calls Tryz.prog 15 #[.pointer none] w fun e w'=>e=.returned (.bool false)∧w'=w:=by
 go_enter Tryz.func15,Tryz.ntmps15
 go_wp2
 go_ret
 exact⟨rfl,rfl⟩
theorem hchance_any (x:Int) (hx:x≤10) (w:World):Calls Tryz.prog 45 #[.int .i64 x] w fun e w'=>e=.returned (.int .i64 (ne1 x:Int))∧w'=w:=by
 by_cases h1:x=1
 ·subst h1
  go_enter Tryz.func45,Tryz.ntmps45
  go_wp2
  go_ret
  exact⟨rfl,rfl⟩
 by_cases h9:x=9
 ·subst h9
  go_enter Tryz.func45,Tryz.ntmps45
  go_wp2
  go_ret
  exact⟨rfl,rfl⟩
 by_cases h10:x=10
 ·subst h10
  go_enter Tryz.func45,Tryz.ntmps45
  go_wp2
  go_ret
  exact⟨rfl,rfl⟩
 by_cases h8:x=8
 ·subst h8
  go_enter Tryz.func45,Tryz.ntmps45
  go_wp2
  go_ret
  exact⟨rfl,rfl⟩
 have e1:(x==1)=false:=by simpa using h1
 have e2:(x==9)=false:=by simpa using h9
 have e3:(x==10)=false:=by simpa using h10
 have e4:(x==8)=false:=by simpa using h8
 have HE:Hid (ne1 x=0):=by
  show _=_
  unfold ne1
  rw[if_neg (by omega),if_neg h8]
 rw[HE.out]
 clear h1 h9 h10 h8 hx
 go_enter Tryz.func45,Tryz.ntmps45
 go_wp2
 go_ret
 exact⟨rfl,rfl⟩
theorem ne1_le (x:Int):ne1 x≤96:=by
 unfold ne1
 split<;>split<;>omega
theorem sum_ne1 (l:List Int):(l.map ne1).sum≤96 * l.length:=by
 induction l with
 |nil=>simp
 |cons x l ih=>have:=ne1_le x;simp;omega
theorem sum_take (l:List Int) (i:Nat) (h:i<l.length):((l.take (i+1)).map ne1).sum=((l.take i).map ne1).sum+ne1 (l.getD i 0):=by
 rw[List.take_add_one,List.getElem?_eq_getElem h,List.map_append,List.sum_append]
 have e:l.getD i 0=l[i]:=by simp[h]
 rw[e]
 simp
def neP (p:Ptn) (i:Bool):Nat:=if tuP p i then ((p.tk 0).map ne1).sum else 0
set_option maxRecDepth 100000 in
set_option maxHeartbeats 4000000 in
theorem hneed_any (g:Nat) (cs:List Value) (ib:Bool) (vm:Value) (p:Ptn) (ht:∀x∈p.tk 0,x≤10) (h12:(p.tk 0).length≤1000) (w:World) (hB:BlkAt g 101 cs w) (h0:cs[0]?=some (.bool ib)) (h1:cs[1]?=some vm) (hM:MsR w vm p):
  Calls Tryz.prog 16 #[.pointer (some ⟨g,0,none⟩)] w fun e w'=>e=.returned (.int .i64 (neP p ib:Int))∧Below w.heap.size w w':=by
 have HTu:Hid _:=hturn_any g cs ib vm p w hB h0 h1 hM
 obtain⟨a,cap,rfl,hl,hm, -⟩:=id hM.form
 obtain⟨n,hn⟩:∃n:Nat,n=p.n:=⟨_,rfl⟩
 have c1:w.cell? ⟨g,1,none⟩=some (.slice a n cap):=by rw[hB.cell,hn];exact h1
 rw[←hn] at hM
 have HN:Hid (n=p.n):=hn
 have HM:Hid (MsR w (.slice a n cap) p):=hM
 have HTk:Hid (∀x∈p.tk 0,x≤10):=ht
 have H12:Hid ((p.tk 0).length≤1000):=h12
 clear hB h0 h1 hM hl hn ht h12
 unfold maxLen at hm
 go_enter Tryz.func16,Tryz.ntmps16
 go_wp2_with fail
 refine Calls.mono HTu.out ?_
 rintro e w1 ⟨rfl,b1⟩
 have HE:Hid (neP p ib=if tuP p ib then ((p.tk 0).map ne1).sum else 0):=rfl
 have HP:Hid (tuP p ib=true→0<n):=by
  intro h
  unfold tuP at h
  rw[←HN.out] at h
  simp at h
  exact h.1
 generalize tuP p ib=T at HE HP
 cases T
 ·rw[if_neg (by simp)] at HE
  have HB1:Hid _:=b1
  clear b1 c1 hm
  go_wp2
  go_ret
  exact⟨congrArg (fun m:Nat=>Ending.returned (.int .i64 (m:Int))) HE.out.symm,HB1.out⟩
 ·rw[if_pos rfl] at HE
  have hlt:0<n:=HP.out rfl
  have hnI:(0:Int)<(n:Int):=by omega
  obtain⟨b,off,a',c',rfl, -,g1,g3, -,g5⟩:=ms_at (HM.out.kept b1) (k:=0) (by rw[←HN.out];exact hlt)
  replace c1:=cellT c1 b1
  obtain⟨tl,htl⟩:∃l:List Int,l=p.tk 0:=⟨_,rfl⟩
  rw[←htl] at g1 g3 HE HTk H12
  obtain⟨M,hM⟩:∃M:Nat,M=tl.length:=⟨_,rfl⟩
  rw[←hM] at g1 g3
  have HMl:Hid (M=tl.length):=hM
  have HR:Hid (RdI .i64 w1 (.slice a' M c') tl):=g3
  have g2:w1.cell? ⟨b,off+1,none⟩=some (.slice a' M c'):=by simpa using g1
  have HM1k:M≤1000:=by rw[hM];exact H12.out
  have HB1:Hid (Below w.heap.size w w1):=b1
  unfold maxLen at g5
  clear g1 g3 htl hM b1
  go_wp2
  go_loopw [3,17] (fun sv iv wx=>∃i:Nat,i≤M∧iv=.int .i64 (i:Int)∧sv=.int .i64 ((((tl.take i).map ne1).sum:Nat):Int)∧wx=w1) (fun _ iv _=>M - (intOf iv).toNat)
  case atStart=>exact⟨0,by omega,rfl,rfl,rfl⟩
  case round=>
   obtain⟨i,hi,rfl,rfl,rfl⟩:=hrel
   by_cases hlt2:i<M
   ·have hd:decide ((i:Int)<(M:Int))=true:=decide_eq_true (by omega)
    have hiI:(i:Int)<(M:Int):=by omega
    obtain⟨b2,off2,cap2,ev, -,k1, -⟩:=RdI.cellAt HR.out (i:=i) (by rw[←HMl.out];exact hlt2)
    simp only[Value.slice.injEq] at ev
    obtain⟨rfl, -,rfl⟩:=ev
    obtain⟨y,hy⟩:∃y:Int,y=tl.getD i 0:=⟨_,rfl⟩
    rw[←hy] at k1
    have HY10:Hid (y≤10):=by
     show _≤_
     rw[hy]
     refine HTk.out _ ?_
     have h9:i<tl.length:=by rw[←HMl.out];exact hlt2
     simp[h9]
    have hs1:=sum_take tl i (by rw[←HMl.out];exact hlt2)
    rw[←hy] at hs1
    have hs2:((tl.take i).map ne1).sum≤96 * 1000:=Nat.le_trans (sum_ne1 _) (by have:=List.length_take_le i tl;have:=HMl.out;omega)
    have hs3:=ne1_le y
    have HS1:Hid _:=hs1
    obtain⟨S0,hS0⟩:∃s:Nat,s=((tl.take i).map ne1).sum:=⟨_,rfl⟩
    obtain⟨S1,hS1⟩:∃s:Nat,s=((tl.take (i+1)).map ne1).sum:=⟨_,rfl⟩
    obtain⟨c,hc⟩:∃c:Nat,c=ne1 y:=⟨_,rfl⟩
    have hw:IntKind.i64.wrap ((S0:Int)+(c:Int))=(S1:Int):=by rw[IntWalk.i64_in _ (by omega)];omega
    rw[←hS0] at *
    have HS2:Hid (S1=((tl.take (i+1)).map ne1).sum):=hS1
    have HC:Hid (c=ne1 y):=hc
    clear hs1 hs2 hs3 hS0 hS1 hc hy
    go_wp2_with fail
    refine(hchance_any y HY10.out _).mono ?_
    rintro e w2 ⟨rfl,rfl⟩
    rw[←HC.out]
    go_wp2
    go_roundw
    case rel=>exact⟨i+1,by omega,by go_num,by rw[HS2.out],by first|trivial|rfl⟩
    case measure=>simp[intOf]<;>omega
   ·have hd:decide ((i:Int)<(M:Int))=false:=decide_eq_false (by omega)
    have hie:i=tl.length:=by have:=HMl.out;omega
    have HE2:Hid (((tl.take i).map ne1).sum=neP p ib):=by show _=_;rw[HE.out,hie,List.take_length]
    clear hie
    go_wp2
    go_ret
    exact⟨congrArg (fun m:Nat=>Ending.returned (.int .i64 (m:Int))) HE2.out,HB1.out⟩
def hdA:List UInt8:=[80,81,78,111,105,115,101,95]
def hdB:List UInt8:=[95,88,50,53,53,49,57,77,76,75,69,77,55,54,56,95,67,104,97,67,104,97,80,111,108,121,95,83,72,65,51,45,50,53,54]
theorem infoSta (vc vh vk:Value) (n:Nat):(Tryz.prog.info? 97).map (·.size)=some (stD vc vh vk n).length:=by
 show _=some 4
 kernel_rfl
theorem stD_one (a1 a2 a3:Option Addr) (l1 c1 l2 c2 l3 c3 n:Nat):(stD (.slice a1 l1 c1) (.slice a2 l2 c2) (.slice a3 l3 c3) n).toArray.all (·.oneCell')=true:=by kernel_rfl
theorem hdN_cut (p:Ptn):hdN p=hdA++p.name++hdB:=rfl
theorem StP.isSl {base g:Nat} {s:Sta} {w:World} (h:StP base g s w):∃a1 l1 c1 a2 l2 c2 a3 l3 c3,BlkAt g 97 (stD (.slice a1 l1 c1) (.slice a2 l2 c2) (.slice a3 l3 c3) s.c.n) w∧Ow 5 base (.slice a1 l1 c1) s.ck w∧Ow 5 base (.slice a2 l2 c2) s.h w∧Ow 5 base (.slice a3 l3 c3) s.c.key w:=by
 obtain⟨vc,vh,vk,h1,h2,h3,h4⟩:=h
 obtain⟨a1,c1,rfl, -⟩:=id h2.rd
 obtain⟨a2,c2,rfl, -⟩:=id h3.rd
 obtain⟨a3,c3,rfl, -⟩:=id h4.rd
 exact⟨_,_,_,_,_,_,_,_,_,h1,h2,h3,h4⟩
theorem idx_b0 (w:World):(Instr.index 22 (.agg #[.bool true,.bool false]) (.int .i64 0)).run Tryz.prog w=.ok (.bool true) w:=by kernel_rfl
theorem idx_b1 (w:World):(Instr.index 22 (.agg #[.bool true,.bool false]) (.int .i64 1)).run Tryz.prog w=.ok (.bool false) w:=by kernel_rfl

set_option maxRecDepth 100000 in
set_option maxHeartbeats 4000000 in
theorem begin_plain (p:Ptn) (vm:Value) (A:Array Value) (hA:A=(paC p vm).toArray) (hki:p.ki=false) (hkr:p.kr=false) (hnm:p.name.length≤1000) (vq:Value) (prol:List UInt8) (hlq:prol.length≤100000) (g:Nat) (x0 x1:Value) (post:List Value) (s0:Sta) (w w0:World) (hbg:w0.heap.size≤g) (hbw:Below w0.heap.size w0 w)
  (hS:StH w0.heap.size g x0 x1 post s0 w) (hq:Rd w vq prol) (hT:Tabs w0) (hH:(nwS (hdN p)).h.length≤1000):
  Calls Tryz.prog 44 #[.pointer (some ⟨g,0,none⟩),.agg A,vq] w fun e w'=>e=.returned (.tuple #[])∧StH w0.heap.size g x0 x1 post (mhS (nwS (hdN p)) prol) w'∧Chg (fun i=>i=g) w w':=by
 subst hA
 have HX1:Hid _:=addP hdA p.name (hdA++p.name) ⟨#[80,81,78,111,105,115,101,95]⟩ ⟨p.name.toArray⟩ ⟨(hdA++p.name).toArray⟩ rfl rfl rfl rfl (by decide) (by omega)
 have HX2:Hid _:=addP (hdA++p.name) hdB (hdN p) ⟨(hdA++p.name).toArray⟩ ⟨#[95,88,50,53,53,49,57,77,76,75,69,77,55,54,56,95,67,104,97,67,104,97,80,111,108,121,95,83,72,65,51,45,50,53,54]⟩ ⟨(hdN p).toArray⟩ rfl rfl rfl (hdN_cut p) (by simp[hdA];omega) (by decide)
 have HKn:Hid (∀(b:Bool) (W:World),Calls Tryz.prog 37 #[.agg (paC p vm).toArray,.bool b] W fun e w'=>e=.returned (.bool false)∧Below W.heap.size W w'):=by
  intro b W
  refine(isKnown_any p vm _ rfl b W).mono ?_
  rintro e w' ⟨rfl,h⟩
  exact⟨by cases b<;>simp[hki,hkr],h⟩
 have HL:Hid ((hdN p).length≤1000000):=by show _≤_;rw[hdN_cut];simp[hdA,hdB];omega
 have HH:Hid ((nwS (hdN p)).h.length+prol.length≤100000000):=by show _≤_;omega
 have HS:Hid (StH w0.heap.size g x0 x1 post s0 w):=hS
 have HQ:Hid (Rd w vq prol):=hq
 have HT:Hid (Tabs w0):=hT
 have HBW:Hid (Below w0.heap.size w0 w):=hbw
 have HBG:Hid (w0.heap.size≤g):=hbg
 obtain⟨N1,hN1⟩:∃b:ByteArray,b=⟨p.name.toArray⟩:=⟨_,rfl⟩
 obtain⟨N2,hN2⟩:∃b:ByteArray,b=⟨(hdA++p.name).toArray⟩:=⟨_,rfl⟩
 have a1:=HX1.out
 have a2:=HX2.out
 rw[←hN1,←hN2] at a1
 rw[←hN2] at a2
 have HCs:Hid ((paC p vm)=[.string N1,.bool p.ki,.bool p.kr,vm]):=by show _=_;rw[hN1];rfl
 obtain⟨nl,hnl⟩:∃l,l=hdN p:=⟨_,rfl⟩
 rw[←hnl] at a2 HL HH ⊢
 obtain⟨SS,hSS⟩:∃s,s=nwS nl:=⟨_,rfl⟩
 rw[←hSS] at HH ⊢
 have HSS:Hid (SS=nwS nl):=hSS
 clear hS hq hT hbw hbg hH hki hkr hnm hlq hN1 hN2 HX1 HX2 hnl hSS
 go_enter Tryz.func44,Tryz.ntmps44
 go_wp2_with (refine wpList_box_blk rfl 25 _ rfl (paC p vm) rfl ?_)
 intro w1 r1 b1 s1
 have c0:w1.cell? ⟨w.heap.size,0,none⟩=some (.string N1):=by rw[r1.cell,HCs.out];rfl
 have HR1:Hid (BlkAt w.heap.size 25 (paC p vm) w1):=r1
 have HB1:Hid (Below w.heap.size w w1):=b1
 clear r1 b1 s1
 go_wp2_with fail
 refine(snew_any nl HL.out _ (HT.out.kept (stepB HBW.out HB1.out))).mono ?_
 rintro e w2 ⟨gs,rfl,hgs,hP2,b2⟩
 rw[←HSS.out] at hP2
 have HP2:Hid (StP w1.heap.size gs SS w2):=hP2
 have HB2:Hid (Below w.heap.size w w2):=stepB HB1.out b2
 have HGS:Hid (w1.heap.size≤gs):=hgs
 have HR2:Hid (BlkAt w.heap.size 25 (paC p vm) w2):=HR1.out.kept b2
 clear hP2 b2 hgs c0 a1 a2
 go_wp2_with fail
 refine(smixhash_any w1.heap.size gs SS _ prol HH.out _ (by have:=HP2.out.lt;have:=HGS.out;omega) HP2.out (HQ.out.kept HB2.out) (HT.out.kept (stepB HBW.out HB2.out))).mono ?_
 rintro e w3 ⟨rfl,hP3,c3⟩
 have hw1:w.heap.size<w1.heap.size:=by have:=HR1.out.lt;exact this
 have HB3:Hid (Below w.heap.size w w3):=Chg.gone HB2.out c3 HB2.out.size (by have:=HGS.out;omega)
 have HR3:Hid (BlkAt w.heap.size 25 (paC p vm) w3):=HR2.out.chg c3 (by have:=HGS.out;omega)
 have HP3:Hid (StP w1.heap.size gs (mhS SS prol) w3):=hP3
 clear hP3 c3 HP2 HR2 HB2
 go_wp2
 go_loopw [18] (fun iv wx=>∃i:Nat,i≤2∧iv=.int .i64 (i:Int)∧Below w3.heap.size w3 wx) (fun iv _=>2 - (intOf iv).toNat)
 case atStart=>exact⟨0,by omega,rfl,Below.refl _ _⟩
 case round=>
  obtain⟨i,hi,rfl,hbx⟩:=hrel
  by_cases hlt:i<2
  ·have hd:decide ((i:Int)<2)=true:=decide_eq_true (by omega)
   have hR4:=HR3.out.kept hbx
   have HBx:Hid (Below w3.heap.size w3 wr):=hbx
   clear hbx
   have i0:=idx_b0
   have i1:=idx_b1
   obtain rfl|rfl:i=0∨i=1:=by omega
   all_goals
    go_wp2_with (refine wpList_load_part rfl 25 _ rfl rfl [] (paC p vm) [] hR4 (by simp) rfl Tryz.underlying25 rfl (by kernel_rfl) ?_)
    refine(HKn.out _ _).mono ?_
    rintro e w4 ⟨rfl,b4⟩
    have HB4:Hid (Below w3.heap.size w3 w4):=stepB HBx.out b4
    clear b4 hR4
    go_wp2
    go_roundw
    case rel=>first|exact⟨1,by omega,by go_num,HB4.out⟩|exact⟨2,by omega,by go_num,HB4.out⟩
    case measure=>simp[intOf]<;>omega
  ·have hd:decide ((i:Int)<2)=false:=decide_eq_false (by omega)
   have b5:Below w.heap.size w wr:=stepB HB3.out hbx
   obtain⟨a1,l1,d1,a2,l2,d2,a3,l3,d3,q1,q2,q3,q4⟩:=(HP3.out.kept hbx).isSl
   obtain⟨vc,vh,vk,hB, -, -, -⟩:=StH.kept HS.out b5
   have HB5:Hid (Below w.heap.size w wr):=b5
   have HQ2:Hid (Ow 5 w1.heap.size _ _ wr):=q2
   have HQ3:Hid (Ow 5 w1.heap.size _ _ wr):=q3
   have HQ4:Hid (Ow 5 w1.heap.size _ _ wr):=q4
   obtain⟨M,hM⟩:∃m:Nat,m=(mhS SS prol).c.n:=⟨_,rfl⟩
   rw[←hM] at q1
   have HMn:Hid (M=(mhS SS prol).c.n):=hM
   clear b5 hbx q2 q3 q4 hM
   go_wp2_with (first
    |refine wpList_load_part rfl 97 _ rfl rfl [] (stD (.slice a1 l1 d1) (.slice a2 l2 d2) (.slice a3 l3 d3) M) [] q1 (by simp) rfl Tryz.underlying97 rfl (infoSta _ _ _ _) ?_
    |(refine wpList_store_part rfl 97 _ _ rfl rfl (stD (.slice a1 l1 d1) (.slice a2 l2 d2) (.slice a3 l3 d3) M) rfl [x0,x1] (stD vc vh vk s0.c.n) post (shD x0 x1 post (.slice a1 l1 d1) (.slice a2 l2 d2) (.slice a3 l3 d3) M) hB rfl rfl rfl rfl (infoSta _ _ _ _) (stD_one _ _ _ _ _ _ _ _ _ _) ?_;intro w6 r6 hw6))
   go_end0
   have c6:=Chg.of_wrote hw6
   refine⟨rfl,⟨_,_,_,by rw[←HMn.out];exact r6,?_,?_,?_⟩,(Chg.of_below HB5.out).trans c6⟩
   ·exact(HQ2.out.mono (by have:=HBW.out.size;have:=hw1;omega)).chg hB ne_shake c6
   ·exact(HQ3.out.mono (by have:=HBW.out.size;have:=hw1;omega)).chg hB ne_shake c6
   ·exact(HQ4.out.mono (by have:=HBW.out.size;have:=hw1;omega)).chg hB ne_shake c6
structure Sls (n:Nat) (post:List Value):Prop where
 len:post.length=n
 sl:∀v∈post,∃a l c,v=.slice a l c
theorem Sls.no8 {n:Nat} {post:List Value} (h:Sls n post):No8 post:=No8.of_slices fun v hv x e=>by
 obtain⟨a,l,c,rfl⟩:=h.sl v hv
 cases e
theorem Sls.set {n:Nat} {post:List Value} (h:Sls n post) (j:Nat) (a:Option Addr) (l c:Nat):Sls n (post.set j (.slice a l c)):=
 ⟨by rw[List.length_set];exact h.len,fun v hv=>by
  rcases List.mem_or_eq_of_mem_set hv with h1|h1
  ·exact h.sl v h1
  ·exact⟨a,l,c,h1⟩⟩
def no17:List Value:=List.replicate 17 (.slice none 0 0)
theorem no17_sl:Sls 17 no17:=⟨rfl,fun v hv=>⟨none,0,0,(List.mem_replicate.1 hv).2⟩⟩
structure ShP (w0:World) (g:Nat) (i:Bool) (p:Ptn) (s:Sta) (w:World):Prop where
 ge:w0.heap.size≤g
 it:∃vm post,StH w0.heap.size g (.bool i) vm post s w∧MsQ w vm p∧Sls 17 post
theorem ShP.kept {w0 w w':World} {g:Nat} {i:Bool} {p:Ptn} {s:Sta} (h:ShP w0 g i p s w) (hb:Below w.heap.size w w'):ShP w0 g i p s w':=by
 obtain⟨h0,vm,post,h1,h2,h3⟩:=h
 exact⟨h0,vm,post,h1.kept hb,h2.kept hb,h3⟩
theorem MsR.sl {w:World} {v:Value} {p:Ptn} (h:MsR w v p):∃a l c,v=.slice a l c:=by
 obtain⟨a,c,e, -⟩:=h.form
 exact⟨a,p.n,c,e⟩
theorem ShP.other {w0 w w':World} {g g2:Nat} {i:Bool} {p:Ptn} {s:Sta} {cs:List Value} (h:ShP w0 g i p s w) (hB:BlkAt g2 101 cs w) (c:Chg (fun b=>b=g2) w w') (hne:g≠g2):ShP w0 g i p s w':=by
 obtain⟨h0,vm,post,⟨vc,vh,vk,q1,q2,q3,q4⟩,h2,h3⟩:=h
 exact⟨h0,vm,post,⟨vc,vh,vk,q1.chg c hne,q2.chg hB ne_shake c,q3.chg hB ne_shake c,q4.chg hB ne_shake c⟩,h2.chg hB ne_shm ne_sht c,h3⟩
theorem ShP.blk {w0 w:World} {g:Nat} {i:Bool} {p:Ptn} {s:Sta} (h:ShP w0 g i p s w):∃vm cs,BlkAt g 101 cs w∧cs[0]?=some (.bool i)∧cs[1]?=some vm∧MsR w vm p:=by
 obtain⟨h0,vm,post,⟨vc,vh,vk,q1,q2,q3,q4⟩,h2,h3⟩:=h
 exact⟨vm,_,q1,rfl,rfl,h2.rd⟩
def prZ:List Value:=[.slice none 0 0,.slice none 0 0,.slice none 0 0,.slice none 0 0]
theorem build_sh (i:Bool) (a:Option Addr) (n c:Nat) (w:World):(Instr.build 101 #[(0,.bool i),(1,.slice a n c)]).run Tryz.prog w=.ok (.agg (shD (.bool i) (.slice a n c) no17 (.slice none 0 0) (.slice none 0 0) (.slice none 0 0) 0).toArray) w:=by kernel_rfl
theorem infoPat (p:Ptn) (vm:Value):(Tryz.prog.info? 25).map (·.size)=some (paC p vm).length:=by
 show _=some 4
 kernel_rfl

set_option maxRecDepth 100000 in
set_option maxHeartbeats 8000000 in
theorem new_plain (p:Ptn) (vm:Value) (A O T:Array Value) (hA:A=(paC p vm).toArray) (hO:O=prZ.toArray) (hT':T=prZ.toArray) (i:Bool) (hck:ckA p=0) (hki:p.ki=false) (hkr:p.kr=false) (h2:sayB p i 2=false) (h7a:sayB p true 7=false) (h7b:sayB p false 7=false) (hnm:p.name.length≤1000) (hn8:p.n≤1000) (h12:∀k,(p.tk k).length≤1000)
  (vq vk:Value) (prol:List UInt8) (hlq:prol.length≤100000) (hH:(nwS (hdN p)).h.length≤1000) (w w0:World) (hbw:Below w0.heap.size w0 w) (hM:MsR w vm p) (hq:Rd w vq prol) (hT:Tabs w0):
  Calls Tryz.prog 13 #[.agg A,.bool i,vq,.agg O,.agg T,vk] w fun e w'=>∃g,e=.returned (.tuple #[.pointer (some ⟨g,0,none⟩),.int .i64 0])∧w.heap.size≤g∧ShP w0 g i p (mhS (nwS (hdN p)) prol) w'∧Below w.heap.size w w':=by
 subst hA hO hT'
 have HCk:Hid (∀W,Below w.heap.size w W→Calls Tryz.prog 35 #[.agg (paC p vm).toArray] W fun e w'=>e=.returned (.int .i64 0)∧Below W.heap.size W w'):=fun W hW=>by
  have:=check_any p vm _ rfl (by unfold maxLen;omega) W (hM.kept hW)
  rw[hck] at this
  exact this
 have HKn:Hid (∀(b:Bool) (W:World),Calls Tryz.prog 37 #[.agg (paC p vm).toArray,.bool b] W fun e w'=>e=.returned (.bool false)∧Below W.heap.size W w'):=by
  intro b W
  refine(isKnown_any p vm _ rfl b W).mono ?_
  rintro e w' ⟨rfl,h⟩
  exact⟨by cases b<;>simp[hki,hkr],h⟩
 have HSy:Hid (∀(b:Bool) (x:Int) (W:World),Below w.heap.size w W→sayB p b x=false→Calls Tryz.prog 38 #[.agg (paC p vm).toArray,.bool b,.int .i64 x] W fun e w'=>e=.returned (.bool false)∧Below W.heap.size W w'):=fun b x W hW h0=>by
  have:=says_any p vm _ rfl b x h12 W (hM.kept hW)
  rw[h0] at this
  exact this
 have HMo:Hid (∀W,Below w.heap.size w W→_):=fun W (hW:Below w.heap.size w W)=>messagesOf_any p vm _ rfl hn8 h12 W (hM.kept hW)
 have HBe:Hid (∀g x1 post s0 W,w0.heap.size≤g→Below w0.heap.size w0 W→StH w0.heap.size g (.bool i) x1 post s0 W→Rd W vq prol→_):=fun g x1 post s0 W h1 h2 h3 h4=>begin_plain p vm _ rfl hki hkr hnm vq prol hlq g (.bool i) x1 post s0 W w0 h1 h2 h3 h4 hT hH
 have HQ:Hid (Rd w vq prol):=hq
 have HBW:Hid (Below w0.heap.size w0 w):=hbw
 have H2:Hid _:=h2
 have H7a:Hid _:=h7a
 have H7b:Hid _:=h7b
 obtain⟨SS,hSS⟩:∃s,s=mhS (nwS (hdN p)) prol:=⟨_,rfl⟩
 rw[←hSS] at HBe ⊢
 obtain⟨PC,hPC⟩:∃l:List Value,l=paC p vm:=⟨_,rfl⟩
 have hinf:(Tryz.prog.info? 25).map (·.size)=some PC.length:=by rw[hPC];exact infoPat p vm
 have HPl:Hid (PC.length=4):=by show _=_;rw[hPC];rfl
 rw[←hPC] at HCk HKn HSy HMo HBe ⊢
 clear hM hq hbw hT hH hck hki hkr h2 h7a h7b hnm hn8 h12 hlq hSS hPC
 go_enter Tryz.func13,Tryz.ntmps13
 go_wp2_with (refine wpList_box_blk rfl 25 _ rfl PC rfl ?_)
 intro w1 r1 b1 s1
 go_wp2_with (refine wpList_box_blk rfl 45 _ rfl prZ rfl ?_)
 intro w2 r2 b2 s2
 go_wp2_with (refine wpList_box_blk rfl 45 _ rfl prZ rfl ?_)
 intro w3 r3 b3 s3
 have hr:BlkAt w.heap.size 25 PC w3:=(r1.kept b2).kept b3
 have hb:Below w.heap.size w w3:=stepB (stepB b1 b2) b3
 clear r1 r2 r3 b1 b2 b3 s1 s2 s3
 go_wp2_with (refine wpList_load_part rfl 25 _ rfl rfl [] PC [] hr (by simp) rfl Tryz.underlying25 rfl hinf ?_)
 refine(HCk.out _ hb).mono ?_
 rintro e w4 ⟨rfl,b4⟩
 replace hr:=hr.kept b4
 replace hb:=stepB hb b4
 clear b4
 go_wp2_with (refine wpList_load_part rfl 25 _ rfl rfl [] PC [] hr (by simp) rfl Tryz.underlying25 rfl hinf ?_)
 refine(HMo.out _ hb).mono ?_
 rintro e w5 ⟨v5,rfl,hQ5,b5⟩
 replace hr:=hr.kept b5
 replace hb:=stepB hb b5
 obtain⟨am,lm,cm,rfl⟩:=hQ5.rd.sl
 have HQ5:Hid (MsQ w5 _ p):=hQ5
 clear b5 hQ5
 go_wp2_with (first
  |refine wpList_buildB rfl 101 _ rfl #[(0,.bool i),(1,.slice am lm cm)] (by go_simp) (.agg (shD (.bool i) (.slice am lm cm) no17 (.slice none 0 0) (.slice none 0 0) (.slice none 0 0) 0).toArray) (build_sh _ _ _ _ _) ?_
  |refine wpList_box_blk rfl 101 _ rfl (shD (.bool i) (.slice am lm cm) no17 (.slice none 0 0) (.slice none 0 0) (.slice none 0 0) 0) rfl ?_)
 intro w6 r6 b6 s6
 obtain⟨g,hg⟩:∃g:Nat,g=w5.heap.size:=⟨_,rfl⟩
 rw[←hg] at r6 ⊢
 have HG:Hid (w.heap.size≤g):=by show _≤_;rw[hg];exact hb.size
 have HS6:Hid (StH w0.heap.size g (.bool i) (.slice am lm cm) no17 ⟨[],[],⟨[],0⟩⟩ w6):=⟨_,_,_,r6,Ow.nil _ _ _,Ow.nil _ _ _,Ow.nil _ _ _⟩
 have HM6:Hid (MsQ w6 (.slice am lm cm) p):=MsQ.kept HQ5.out b6
 replace hr:=hr.kept b6
 replace hb:=stepB hb b6
 clear r6 b6 s6 hg HQ5
 go_wp2_with (refine wpList_load_part rfl 25 _ rfl rfl [] PC [] hr (by simp) rfl Tryz.underlying25 rfl hinf ?_)
 refine(HKn.out _ _).mono ?_
 rintro e w7 ⟨rfl,b7⟩
 have HS7:Hid (StH w0.heap.size g (.bool i) (.slice am lm cm) no17 ⟨[],[],⟨[],0⟩⟩ w7):=StH.kept HS6.out b7
 have HM7:Hid (MsQ w7 (.slice am lm cm) p):=MsQ.kept HM6.out b7
 replace hr:=hr.kept b7
 replace hb:=stepB hb b7
 clear b7 HS6 HM6
 go_wp2_with (refine wpList_loadG 25 _ rfl rfl PC hr Tryz.underlying25 rfl hinf (by go_simp;done) ?_)
 refine(HSy.out _ _ _ hb H2.out).mono ?_
 rintro e w8 ⟨rfl,b8⟩
 have HS8:Hid (StH w0.heap.size g (.bool i) (.slice am lm cm) no17 ⟨[],[],⟨[],0⟩⟩ w8):=StH.kept HS7.out b8
 have HM8:Hid (MsQ w8 (.slice am lm cm) p):=MsQ.kept HM7.out b8
 replace hr:=hr.kept b8
 replace hb:=stepB hb b8
 clear b8 HS7 HM7
 go_wp2_with (refine wpList_load_part rfl 25 _ rfl rfl [] PC [] hr (by simp) rfl Tryz.underlying25 rfl hinf ?_)
 refine(HKn.out _ _).mono ?_
 rintro e w9 ⟨rfl,b9⟩
 have HS9:Hid (StH w0.heap.size g (.bool i) (.slice am lm cm) no17 ⟨[],[],⟨[],0⟩⟩ w9):=StH.kept HS8.out b9
 have HM9:Hid (MsQ w9 (.slice am lm cm) p):=MsQ.kept HM8.out b9
 replace hr:=hr.kept b9
 replace hb:=stepB hb b9
 clear b9 HS8 HM8
 go_wp2_with (refine wpList_load_part rfl 25 _ rfl rfl [] PC [] hr (by simp) rfl Tryz.underlying25 rfl hinf ?_)
 refine(HSy.out _ _ _ hb H7a.out).mono ?_
 rintro e wa ⟨rfl,ba⟩
 have HSa:Hid (StH w0.heap.size g (.bool i) (.slice am lm cm) no17 ⟨[],[],⟨[],0⟩⟩ wa):=StH.kept HS9.out ba
 have HMa:Hid (MsQ wa (.slice am lm cm) p):=MsQ.kept HM9.out ba
 replace hr:=hr.kept ba
 replace hb:=stepB hb ba
 clear ba HS9 HM9
 go_wp2_with (refine wpList_loadG 25 _ rfl rfl PC hr Tryz.underlying25 rfl hinf (by go_simp;done) ?_)
 refine(HSy.out _ _ _ hb H7b.out).mono ?_
 rintro e wb ⟨rfl,bb⟩
 have HSb:Hid (StH w0.heap.size g (.bool i) (.slice am lm cm) no17 ⟨[],[],⟨[],0⟩⟩ wb):=StH.kept HSa.out bb
 have HMb:Hid (MsQ wb (.slice am lm cm) p):=MsQ.kept HMa.out bb
 replace hr:=hr.kept bb
 replace hb:=stepB hb bb
 clear bb HSa HMa
 go_wp2_with (refine wpList_load_part rfl 25 _ rfl rfl [] PC [] hr (by simp) rfl Tryz.underlying25 rfl hinf ?_)
 refine(HBe.out g _ _ _ _ (by have:=HG.out;have:=HBW.out.size;omega) (stepB HBW.out hb) HSb.out (HQ.out.kept hb)).mono ?_
 rintro e wc ⟨rfl,hSc,cc⟩
 obtain⟨u1,u2,u3,hBb, -⟩:=HSb.out
 have HSc:Hid (ShP w0 g i p SS wc):=⟨by have:=HG.out;have:=HBW.out.size;omega,_,_,hSc,HMb.out.chg hBb ne_shm ne_sht cc,no17_sl⟩
 have HB:Hid (Below w.heap.size w wc):=Chg.gone hb cc hb.size HG.out
 clear hSc cc hBb hr hb
 go_wp2
 go_ret2
 exact⟨g,rfl,HG.out,HSc.out,HB.out⟩
theorem wp_lit1 {P:Program} {w0:World} {op:Oper} {a:Act} {w:World} {K:Act→World→Prop} {Q:Exit→Act→World→Prop} (hB:Below w0.heap.size w0 w) (t:TypeId) (x:Operand) (ho:op.op=.buildSlice t 1 #[(0,x)]) (V:Value) (hx:a.eval x=V) {e:TypeId}
  (hrun:(Instr.buildSlice t 1 #[(0,V)]).run P w=.ok (.slice (some ⟨w.heap.size,0,none⟩) 1 1) (w.alloc (.cells #[V] e))) {l:List UInt8} (hR:Rd w V l)
  (h:∀b w',RdL w' (.slice (some ⟨b,0,none⟩) 1 1) [V] [l]→Below w.heap.size w w'→Below w0.heap.size w0 w'→K (a.put op.dst (.slice (some ⟨b,0,none⟩) 1 1)) w'):op.wp P a w K Q:=by
 unfold Oper.wp execOp
 simp only[ho,List.map_toArray,List.map_cons,List.map_nil,hx,Sem.run_bind,hrun,Result.andThen_ok,Sem.run_pure]
 exact h _ _ (RdL.lit1r rfl hR) (growB _) (stepB hB (growB _))
theorem bsl8 (a:Option Addr) (n c:Nat) (w:World):(Instr.buildSlice 144 1 #[(0,.slice a n c)]).run Tryz.prog w=.ok (.slice (some ⟨w.heap.size,0,none⟩) 1 1) (w.alloc (.cells #[.slice a n c] 26)):=by kernel_rfl
theorem infoSh (x0 x1:Value) {post:List Value} (hp:Sls 17 post) (vc vh vk:Value) (n:Nat):(Tryz.prog.info? 101).map (·.size)=some (shD x0 x1 post vc vh vk n).length:=by
 have e:(shD x0 x1 post vc vh vk n).length=23:=by simp[shD,hp.len]
 have h:(Tryz.prog.info? 101).map (·.size)=some 23:=by kernel_rfl
 rw[e]
 exact h
theorem shD_one (i:Bool) {post:List Value} (hp:Sls 17 post) (a0 a1 a2 a3:Option Addr) (l0 c0 l1 c1 l2 c2 l3 c3 n:Nat):(shD (.bool i) (.slice a0 l0 c0) post (.slice a1 l1 c1) (.slice a2 l2 c2) (.slice a3 l3 c3) n).toArray.all (·.oneCell')=true:=by
 rw[List.all_toArray,List.all_eq_true]
 intro v hv
 simp only[shD,List.mem_cons] at hv
 rcases hv with rfl|rfl|rfl|rfl|rfl|rfl|hv
 ·rfl
 ·rfl
 ·rfl
 ·rfl
 ·rfl
 ·rfl
 ·obtain⟨a,l,c,rfl⟩:=hp.sl v hv
  rfl
def zsh:List Value:=shD (.bool false) (.slice none 0 0) no17 (.slice none 0 0) (.slice none 0 0) (.slice none 0 0) 0
theorem alloc_sh (w:World):(Instr.alloc 101 true (.tuple #[])).run Tryz.prog w=.ok (.pointer (some ⟨w.heap.size,0,none⟩)) (w.alloc (.cells zsh.toArray 101)):=by kernel_rfl
theorem info_kc2:(Tryz.prog.info? 97).map (·.size)=some 4:=by kernel_rfl
theorem build_st3 (a1 a2 a3:Option Addr) (l1 c1 l2 c2 l3 c3 n:Nat) (w:World):(Instr.build 97 #[(0,.slice a1 l1 c1),(1,.slice a2 l2 c2),(2,.agg #[.slice a3 l3 c3,.int .u64 (n:Int)])]).run Tryz.prog w=.ok (.agg (stD (.slice a1 l1 c1) (.slice a2 l2 c2) (.slice a3 l3 c3) n).toArray) w:=by kernel_rfl
theorem build_kn (a3:Option Addr) (l3 c3 n:Nat) (w:World):(Instr.build 61 #[(0,.slice a3 l3 c3),(1,.int .u64 (n:Int))]).run Tryz.prog w=.ok (.agg #[.slice a3 l3 c3,.int .u64 (n:Int)]) w:=by kernel_rfl

set_option maxRecDepth 100000 in
set_option maxHeartbeats 8000000 in
theorem branch_any (g:Nat) (i:Bool) (vm:Value) (post:List Value) (s:Sta) (p:Ptn) (hck:s.ck.length≤100000) (hh':s.h.length≤100000) (hky:s.c.key.length≤100000) (w w0:World) (hS:StH w0.heap.size g (.bool i) vm post s w) (hM:MsR w vm p) (hp:Sls 17 post):
  Calls Tryz.prog 27 #[.pointer (some ⟨g,0,none⟩)] w fun e w'=>∃g2,e=.returned (.pointer (some ⟨g2,0,none⟩))∧w.heap.size≤g2∧StH w.heap.size g2 (.bool i) vm post s w'∧Below w.heap.size w w':=by
 obtain⟨ck,h,⟨key,n⟩⟩:=s
 obtain⟨am,lm,cm,rfl⟩:=hM.sl
 obtain⟨vc,vh,vk,hB0,hc,hh,hk⟩:=hS
 replace hc:Ow 5 w0.heap.size vc ck w:=hc
 replace hh:Ow 5 w0.heap.size vh h w:=hh
 replace hk:Ow 5 w0.heap.size vk key w:=hk
 obtain⟨ac,cc,rfl, -⟩:=id hc.rd
 obtain⟨ah,ch,rfl, -⟩:=id hh.rd
 obtain⟨ak,ck',rfl, -⟩:=id hk.rd
 replace hB0:BlkAt g 101 (shD (.bool i) (.slice am lm cm) post (.slice ac ck.length cc) (.slice ah h.length ch) (.slice ak key.length ck') n) w:=hB0
 have c2:w.cell? ⟨g,2,none⟩=some (.slice ac ck.length cc):=hB0.cell 2
 have c3:w.cell? ⟨g,3,none⟩=some (.slice ah h.length ch):=hB0.cell 3
 have c4:w.cell? ⟨g,4,none⟩=some (.slice ak key.length ck'):=hB0.cell 4
 have c5:w.cell? ⟨g,5,none⟩=some (.int .u64 (n:Int)):=hB0.cell 5
 have HC:Hid (Rd w (.slice ac ck.length cc) ck):=hc.rd
 have HH:Hid (Rd w (.slice ah h.length ch) h):=hh.rd
 have HK:Hid (Rd w (.slice ak key.length ck') key):=hk.rd
 have HT1:Hid (totL [ck]≤1000000000):=(by have:ck.length≤100000:=hck;simp[totL];omega:totL [ck]≤1000000000)
 have HT2:Hid (totL [h]≤1000000000):=(by have:h.length≤100000:=hh';simp[totL];omega:totL [h]≤1000000000)
 have HT3:Hid (totL [key]≤1000000000):=(by have:key.length≤100000:=hky;simp[totL];omega:totL [key]≤1000000000)
 have HP:Hid (Sls 17 post):=hp
 clear hc hh hk hck hh' hky hM hp
 go_enter Tryz.func27,Tryz.ntmps27
 go_wp2_with (first
  |refine wpList_load_part rfl 101 _ rfl rfl [] (shD (.bool i) (.slice am lm cm) post (.slice ac ck.length cc) (.slice ah h.length ch) (.slice ak key.length ck') n) [] hB0 (by simp) rfl Tryz.underlying101 rfl (infoSh _ _ HP.out _ _ _ _) ?_
  |refine wpList_alloc_blk rfl 101 rfl zsh (alloc_sh _) ?_)
 intro w1 r1 b1 s1
 go_wp2_with (refine wpList_store_part rfl 101 _ _ rfl rfl (shD (.bool i) (.slice am lm cm) post (.slice ac ck.length cc) (.slice ah h.length ch) (.slice ak key.length ck') n) rfl [] zsh [] (shD (.bool i) (.slice am lm cm) post (.slice ac ck.length cc) (.slice ah h.length ch) (.slice ak key.length ck') n) r1 (by simp) (by simp) rfl (by simp[shD,zsh,no17,HP.out.len]) (infoSh _ _ no17_sl _ _ _ _) (shD_one _ HP.out _ _ _ _ _ _ _ _ _ _ _ _ _) ?_)
 intro w2 r2 hw2
 have b2:Below w.heap.size w w2:=hw2.below _ _ (Nat.le_refl _) b1
 obtain⟨g2,hg2⟩:∃g2:Nat,g2=w.heap.size:=⟨_,rfl⟩
 rw[←hg2] at r2 ⊢
 have HG2:Hid (w.heap.size≤g2):=by show _≤_;omega
 have hG2:BlkAt g2 101 (shD (.bool i) (.slice am lm cm) post (.slice ac ck.length cc) (.slice ah h.length ch) (.slice ak key.length ck') n) w2.drew:=r2
 clear r1 b1 s1 hw2 hB0 hg2 r2
 go_wp2_with fail
 have hB:=Below.drew b2
 refine wpB_begin b2 (by kernel_rfl) ?_
 refine bU_ hB 0 rfl ⟨_,by intro W hW;go_simp<;>with_reducible rfl,?_⟩
 try simp only[Act.put,pA_,pB_,pC_]
 refine bU_ hB 1 rfl ⟨_,by intro W hW;go_simp<;>with_reducible rfl,?_⟩
 try simp only[Act.put,pA_,pB_,pC_]
 refine bU_ hB 2 rfl ⟨_,by intro W hW;go_simp<;>with_reducible rfl,?_⟩
 try simp only[Act.put,pA_,pB_,pC_]
 refine bU_ hB 3 rfl ⟨_,by intro W hW;go_simp<;>with_reducible rfl,?_⟩
 try simp only[Act.put,pA_,pB_,pC_]
 refine bU_ hB 4 rfl ⟨_,by intro W hW;have hcW:=cellT c2 hW;go_simp<;>with_reducible rfl,?_⟩
 try simp only[Act.put,pA_,pB_,pC_]
 refine bU_ hB 7 rfl ⟨_,by intro W hW;go_simp<;>with_reducible rfl,?_⟩
 try simp only[Act.put,pA_,pB_,pC_]
 refine bU_ hB 8 rfl ⟨_,by intro W hW;go_simp<;>with_reducible rfl,?_⟩
 try simp only[Act.put,pA_,pB_,pC_]
 refine bU_ hB 9 rfl ⟨_,by intro W hW;go_simp<;>with_reducible rfl,?_⟩
 try simp only[Act.put,pA_,pB_,pC_]
 refine bU_ hB 10 rfl ⟨_,by intro W hW;go_simp<;>with_reducible rfl,?_⟩
 try simp only[Act.put,pA_,pB_,pC_]
 refine bU_ hB 11 rfl ⟨_,by intro W hW;have hcW:=cellT c3 hW;go_simp<;>with_reducible rfl,?_⟩
 try simp only[Act.put,pA_,pB_,pC_]
 refine bU_ hB 14 rfl ⟨_,by intro W hW;go_simp<;>with_reducible rfl,?_⟩
 try simp only[Act.put,pA_,pB_,pC_]
 refine bU_ hB 15 rfl ⟨_,by intro W hW;go_simp<;>with_reducible rfl,?_⟩
 try simp only[Act.put,pA_,pB_,pC_]
 refine bU_ hB 16 rfl ⟨_,by intro W hW;go_simp<;>with_reducible rfl,?_⟩
 try simp only[Act.put,pA_,pB_,pC_]
 refine bU_ hB 17 rfl ⟨_,by intro W hW;go_simp<;>with_reducible rfl,?_⟩
 try simp only[Act.put,pA_,pB_,pC_]
 refine bU_ hB 18 rfl ⟨_,by intro W hW;go_simp<;>with_reducible rfl,?_⟩
 try simp only[Act.put,pA_,pB_,pC_]
 refine bU_ hB 19 rfl ⟨_,by intro W hW;have hcW:=cellT c4 hW;go_simp<;>with_reducible rfl,?_⟩
 try simp only[Act.put,pA_,pB_,pC_]
 refine bU_ hB 22 rfl ⟨_,by intro W hW;go_simp<;>with_reducible rfl,?_⟩
 try simp only[Act.put,pA_,pB_,pC_]
 refine bU_ hB 23 rfl ⟨_,by intro W hW;go_simp<;>with_reducible rfl,?_⟩
 try simp only[Act.put,pA_,pB_,pC_]
 refine bU_ hB 24 rfl ⟨_,by intro W hW;go_simp<;>with_reducible rfl,?_⟩
 try simp only[Act.put,pA_,pB_,pC_]
 refine bU_ hB 25 rfl ⟨_,by intro W hW;go_simp<;>with_reducible rfl,?_⟩
 try simp only[Act.put,pA_,pB_,pC_]
 refine bU_ hB 26 rfl ⟨_,by intro W hW;go_simp<;>with_reducible rfl,?_⟩
 try simp only[Act.put,pA_,pB_,pC_]
 refine bU_ hB 27 rfl ⟨_,by intro W hW;have hcW:=cellT c5 hW;go_simp<;>with_reducible rfl,?_⟩
 try simp only[Act.put,pA_,pB_,pC_]
 refine bF3_ 5 12 20 (fun K hK=>?_) (fun K hK=>?_) (fun K hK=>?_)
 ·refine wp_lit1 hB 144 _ rfl _ rfl (bsl8 _ _ _ _) (HC.out.kept hB) ?_
  intro x1 wA hL1 hbA hBA
  replace hB:=hBA
  replace hG2:=hG2.kept hbA
  try replace hL2:=hL2.kept hbA
  try replace hL3:=hL3.kept hbA
  refine hK.out _ _ hB ?_
  clear hK K
  try simp only[Act.put,pA_,pB_,pC_]
  refine bF3_ 6 12 20 (fun K hK=>?_) (fun K hK=>?_) (fun K hK=>?_)
  ·go_simp
   refine(join_any _ _ _ _ hL1 HT1.out).mono ?_
   rintro e wq ⟨v1,rfl,hN1⟩
   have hO1:Ow 5 w.heap.size v1 ck wq:=(Ow.of_new hN1.one16).mono hB.size
   obtain⟨a1,d1,rfl, -⟩:=id hO1.rd
   replace hB:=stepB hB hN1.2
   replace hG2:=hG2.kept hN1.2
   try replace hL2:=hL2.kept hN1.2
   try replace hL3:=hL3.kept hN1.2
   clear hN1 hL1
   refine hK.out _ _ hB ?_
   clear hK K
   try simp only[Act.put,pA_,pB_,pC_]
   refine bF_ 12 20 (fun K hK=>?_) (fun K hK=>?_)
   ·refine wp_lit1 hB 144 _ rfl _ rfl (bsl8 _ _ _ _) (HH.out.kept hB) ?_
    intro x2 wA hL2 hbA hBA
    replace hB:=hBA
    replace hG2:=hG2.kept hbA
    try replace hL1:=hL1.kept hbA
    try replace hL3:=hL3.kept hbA
    try replace hO1:=hO1.kept hbA
    refine hK.out _ _ hB ?_
    clear hK K
    try simp only[Act.put,pA_,pB_,pC_]
    refine bF_ 13 20 (fun K hK=>?_) (fun K hK=>?_)
    ·go_simp
     refine(join_any _ _ _ _ hL2 HT2.out).mono ?_
     rintro e wq ⟨v2,rfl,hN1⟩
     have hO2:Ow 5 w.heap.size v2 h wq:=(Ow.of_new hN1.one16).mono hB.size
     obtain⟨a2,d2,rfl, -⟩:=id hO2.rd
     replace hB:=stepB hB hN1.2
     replace hG2:=hG2.kept hN1.2
     replace hO1:=hO1.kept hN1.2
     try replace hL3:=hL3.kept hN1.2
     clear hN1 hL2
     refine hK.out _ _ hB ?_
     clear hK K
     try simp only[Act.put,pA_,pB_,pC_]
     refine bD_ 20 fun K hK=>?_
     refine wp_lit1 hB 144 _ rfl _ rfl (bsl8 _ _ _ _) (HK.out.kept hB) ?_
     intro x3 wA hL3 hbA hBA
     replace hB:=hBA
     replace hG2:=hG2.kept hbA
     try replace hL1:=hL1.kept hbA
     try replace hL2:=hL2.kept hbA
     try replace hO1:=hO1.kept hbA
     try replace hO2:=hO2.kept hbA
     refine hK.out _ _ hB ?_
     clear hK K
     try simp only[Act.put,pA_,pB_,pC_]
     refine bD_ 21 fun K hK=>?_
     go_simp
     refine(join_any _ _ _ _ hL3 HT3.out).mono ?_
     rintro e wq ⟨v3,rfl,hN1⟩
     have hO3:Ow 5 w.heap.size v3 key wq:=(Ow.of_new hN1.one16).mono hB.size
     obtain⟨a3,d3,rfl, -⟩:=id hO3.rd
     replace hB:=stepB hB hN1.2
     replace hG2:=hG2.kept hN1.2
     replace hO1:=hO1.kept hN1.2
     replace hO2:=hO2.kept hN1.2
     clear hN1 hL3
     refine hK.out _ _ hB ?_
     clear hK K
     try simp only[Act.put,pA_,pB_,pC_]
     refine bU_ hB 28 rfl ⟨_,by intro W hW;exact exec_build 61 _ rfl #[(0,.slice a3 key.length d3),(1,.int .u64 (n:Int))] (by go_simp) _ (build_kn _ _ _ _ _),?_⟩
     try simp only[Act.put,pA_,pB_,pC_]
     refine bU_ hB 29 rfl ⟨_,by intro W hW;exact exec_build 97 _ rfl #[(0,.slice a1 ck.length d1),(1,.slice a2 h.length d2),(2,.agg #[.slice a3 key.length d3,.int .u64 (n:Int)])] (by go_simp) _ (build_st3 _ _ _ _ _ _ _ _ _ _ _),?_⟩
     try simp only[Act.put,pA_,pB_,pC_]
     refine bU_ hB 30 rfl ⟨_,by intro W hW;go_simp<;>with_reducible rfl,?_⟩
     try simp only[Act.put,pA_,pB_,pC_]
     refine bD_ 31 fun K hK=>?_
     refine wp_store_part 97 _ _ rfl rfl (stD (.slice a1 ck.length d1) (.slice a2 h.length d2) (.slice a3 key.length d3) n) rfl [.bool i,.slice am lm cm] (stD (.slice ac ck.length cc) (.slice ah h.length ch) (.slice ak key.length ck') n) post (shD (.bool i) (.slice am lm cm) post (.slice a1 ck.length d1) (.slice a2 h.length d2) (.slice a3 key.length d3) n) hG2 rfl rfl rfl rfl info_kc2 (stD_one _ _ _ _ _ _ _ _ _ _) ?_
     intro w6 r6 hw6
     have c6:=Chg.of_wrote hw6
     replace hB:=Chg.gone hB c6 hB.size HG2.out
     refine hK.out _ _ hB ?_
     clear hK K
     try simp only[Act.put,pA_,pB_,pC_]
     refine wpB_done (by kernel_rfl) ?_
     go_wp2
     go_ret
     exact⟨g2,rfl,HG2.out,⟨_,_,_,r6,hO1.chg hG2 ne_shake c6,hO2.chg hG2 ne_shake c6,hO3.chg hG2 ne_shake c6⟩,hB⟩
    ·refine wp_lit1 hB 144 _ rfl _ rfl (bsl8 _ _ _ _) (HK.out.kept hB) ?_
     intro x3 wA hL3 hbA hBA
     replace hB:=hBA
     replace hG2:=hG2.kept hbA
     try replace hL1:=hL1.kept hbA
     try replace hL2:=hL2.kept hbA
     try replace hO1:=hO1.kept hbA
     try replace hO2:=hO2.kept hbA
     refine hK.out _ _ hB ?_
     clear hK K
     try simp only[Act.put,pA_,pB_,pC_]
     refine bD_ 13 fun K hK=>?_
     go_simp
     refine(join_any _ _ _ _ hL2 HT2.out).mono ?_
     rintro e wq ⟨v2,rfl,hN1⟩
     have hO2:Ow 5 w.heap.size v2 h wq:=(Ow.of_new hN1.one16).mono hB.size
     obtain⟨a2,d2,rfl, -⟩:=id hO2.rd
     replace hB:=stepB hB hN1.2
     replace hG2:=hG2.kept hN1.2
     replace hO1:=hO1.kept hN1.2
     try replace hL3:=hL3.kept hN1.2
     clear hN1 hL2
     refine hK.out _ _ hB ?_
     clear hK K
     try simp only[Act.put,pA_,pB_,pC_]
     refine bD_ 21 fun K hK=>?_
     go_simp
     refine(join_any _ _ _ _ hL3 HT3.out).mono ?_
     rintro e wq ⟨v3,rfl,hN1⟩
     have hO3:Ow 5 w.heap.size v3 key wq:=(Ow.of_new hN1.one16).mono hB.size
     obtain⟨a3,d3,rfl, -⟩:=id hO3.rd
     replace hB:=stepB hB hN1.2
     replace hG2:=hG2.kept hN1.2
     replace hO1:=hO1.kept hN1.2
     replace hO2:=hO2.kept hN1.2
     clear hN1 hL3
     refine hK.out _ _ hB ?_
     clear hK K
     try simp only[Act.put,pA_,pB_,pC_]
     refine bU_ hB 28 rfl ⟨_,by intro W hW;exact exec_build 61 _ rfl #[(0,.slice a3 key.length d3),(1,.int .u64 (n:Int))] (by go_simp) _ (build_kn _ _ _ _ _),?_⟩
     try simp only[Act.put,pA_,pB_,pC_]
     refine bU_ hB 29 rfl ⟨_,by intro W hW;exact exec_build 97 _ rfl #[(0,.slice a1 ck.length d1),(1,.slice a2 h.length d2),(2,.agg #[.slice a3 key.length d3,.int .u64 (n:Int)])] (by go_simp) _ (build_st3 _ _ _ _ _ _ _ _ _ _ _),?_⟩
     try simp only[Act.put,pA_,pB_,pC_]
     refine bU_ hB 30 rfl ⟨_,by intro W hW;go_simp<;>with_reducible rfl,?_⟩
     try simp only[Act.put,pA_,pB_,pC_]
     refine bD_ 31 fun K hK=>?_
     refine wp_store_part 97 _ _ rfl rfl (stD (.slice a1 ck.length d1) (.slice a2 h.length d2) (.slice a3 key.length d3) n) rfl [.bool i,.slice am lm cm] (stD (.slice ac ck.length cc) (.slice ah h.length ch) (.slice ak key.length ck') n) post (shD (.bool i) (.slice am lm cm) post (.slice a1 ck.length d1) (.slice a2 h.length d2) (.slice a3 key.length d3) n) hG2 rfl rfl rfl rfl info_kc2 (stD_one _ _ _ _ _ _ _ _ _ _) ?_
     intro w6 r6 hw6
     have c6:=Chg.of_wrote hw6
     replace hB:=Chg.gone hB c6 hB.size HG2.out
     refine hK.out _ _ hB ?_
     clear hK K
     try simp only[Act.put,pA_,pB_,pC_]
     refine wpB_done (by kernel_rfl) ?_
     go_wp2
     go_ret
     exact⟨g2,rfl,HG2.out,⟨_,_,_,r6,hO1.chg hG2 ne_shake c6,hO2.chg hG2 ne_shake c6,hO3.chg hG2 ne_shake c6⟩,hB⟩
   ·refine wp_lit1 hB 144 _ rfl _ rfl (bsl8 _ _ _ _) (HK.out.kept hB) ?_
    intro x3 wA hL3 hbA hBA
    replace hB:=hBA
    replace hG2:=hG2.kept hbA
    try replace hL1:=hL1.kept hbA
    try replace hL2:=hL2.kept hbA
    try replace hO1:=hO1.kept hbA
    try replace hO2:=hO2.kept hbA
    refine hK.out _ _ hB ?_
    clear hK K
    try simp only[Act.put,pA_,pB_,pC_]
    refine bD_ 12 fun K hK=>?_
    refine wp_lit1 hB 144 _ rfl _ rfl (bsl8 _ _ _ _) (HH.out.kept hB) ?_
    intro x2 wA hL2 hbA hBA
    replace hB:=hBA
    replace hG2:=hG2.kept hbA
    try replace hL1:=hL1.kept hbA
    try replace hL3:=hL3.kept hbA
    try replace hO1:=hO1.kept hbA
    refine hK.out _ _ hB ?_
    clear hK K
    try simp only[Act.put,pA_,pB_,pC_]
    refine bD_ 13 fun K hK=>?_
    go_simp
    refine(join_any _ _ _ _ hL2 HT2.out).mono ?_
    rintro e wq ⟨v2,rfl,hN1⟩
    have hO2:Ow 5 w.heap.size v2 h wq:=(Ow.of_new hN1.one16).mono hB.size
    obtain⟨a2,d2,rfl, -⟩:=id hO2.rd
    replace hB:=stepB hB hN1.2
    replace hG2:=hG2.kept hN1.2
    replace hO1:=hO1.kept hN1.2
    try replace hL3:=hL3.kept hN1.2
    clear hN1 hL2
    refine hK.out _ _ hB ?_
    clear hK K
    try simp only[Act.put,pA_,pB_,pC_]
    refine bD_ 21 fun K hK=>?_
    go_simp
    refine(join_any _ _ _ _ hL3 HT3.out).mono ?_
    rintro e wq ⟨v3,rfl,hN1⟩
    have hO3:Ow 5 w.heap.size v3 key wq:=(Ow.of_new hN1.one16).mono hB.size
    obtain⟨a3,d3,rfl, -⟩:=id hO3.rd
    replace hB:=stepB hB hN1.2
    replace hG2:=hG2.kept hN1.2
    replace hO1:=hO1.kept hN1.2
    replace hO2:=hO2.kept hN1.2
    clear hN1 hL3
    refine hK.out _ _ hB ?_
    clear hK K
    try simp only[Act.put,pA_,pB_,pC_]
    refine bU_ hB 28 rfl ⟨_,by intro W hW;exact exec_build 61 _ rfl #[(0,.slice a3 key.length d3),(1,.int .u64 (n:Int))] (by go_simp) _ (build_kn _ _ _ _ _),?_⟩
    try simp only[Act.put,pA_,pB_,pC_]
    refine bU_ hB 29 rfl ⟨_,by intro W hW;exact exec_build 97 _ rfl #[(0,.slice a1 ck.length d1),(1,.slice a2 h.length d2),(2,.agg #[.slice a3 key.length d3,.int .u64 (n:Int)])] (by go_simp) _ (build_st3 _ _ _ _ _ _ _ _ _ _ _),?_⟩
    try simp only[Act.put,pA_,pB_,pC_]
    refine bU_ hB 30 rfl ⟨_,by intro W hW;go_simp<;>with_reducible rfl,?_⟩
    try simp only[Act.put,pA_,pB_,pC_]
    refine bD_ 31 fun K hK=>?_
    refine wp_store_part 97 _ _ rfl rfl (stD (.slice a1 ck.length d1) (.slice a2 h.length d2) (.slice a3 key.length d3) n) rfl [.bool i,.slice am lm cm] (stD (.slice ac ck.length cc) (.slice ah h.length ch) (.slice ak key.length ck') n) post (shD (.bool i) (.slice am lm cm) post (.slice a1 ck.length d1) (.slice a2 h.length d2) (.slice a3 key.length d3) n) hG2 rfl rfl rfl rfl info_kc2 (stD_one _ _ _ _ _ _ _ _ _ _) ?_
    intro w6 r6 hw6
    have c6:=Chg.of_wrote hw6
    replace hB:=Chg.gone hB c6 hB.size HG2.out
    refine hK.out _ _ hB ?_
    clear hK K
    try simp only[Act.put,pA_,pB_,pC_]
    refine wpB_done (by kernel_rfl) ?_
    go_wp2
    go_ret
    exact⟨g2,rfl,HG2.out,⟨_,_,_,r6,hO1.chg hG2 ne_shake c6,hO2.chg hG2 ne_shake c6,hO3.chg hG2 ne_shake c6⟩,hB⟩
  ·refine wp_lit1 hB 144 _ rfl _ rfl (bsl8 _ _ _ _) (HH.out.kept hB) ?_
   intro x2 wA hL2 hbA hBA
   replace hB:=hBA
   replace hG2:=hG2.kept hbA
   try replace hL1:=hL1.kept hbA
   try replace hL3:=hL3.kept hbA
   try replace hO1:=hO1.kept hbA
   refine hK.out _ _ hB ?_
   clear hK K
   try simp only[Act.put,pA_,pB_,pC_]
   refine bF_ 6 20 (fun K hK=>?_) (fun K hK=>?_)
   ·go_simp
    refine(join_any _ _ _ _ hL1 HT1.out).mono ?_
    rintro e wq ⟨v1,rfl,hN1⟩
    have hO1:Ow 5 w.heap.size v1 ck wq:=(Ow.of_new hN1.one16).mono hB.size
    obtain⟨a1,d1,rfl, -⟩:=id hO1.rd
    replace hB:=stepB hB hN1.2
    replace hG2:=hG2.kept hN1.2
    try replace hL2:=hL2.kept hN1.2
    try replace hL3:=hL3.kept hN1.2
    clear hN1 hL1
    refine hK.out _ _ hB ?_
    clear hK K
    try simp only[Act.put,pA_,pB_,pC_]
    refine bF_ 13 20 (fun K hK=>?_) (fun K hK=>?_)
    ·go_simp
     refine(join_any _ _ _ _ hL2 HT2.out).mono ?_
     rintro e wq ⟨v2,rfl,hN1⟩
     have hO2:Ow 5 w.heap.size v2 h wq:=(Ow.of_new hN1.one16).mono hB.size
     obtain⟨a2,d2,rfl, -⟩:=id hO2.rd
     replace hB:=stepB hB hN1.2
     replace hG2:=hG2.kept hN1.2
     replace hO1:=hO1.kept hN1.2
     try replace hL3:=hL3.kept hN1.2
     clear hN1 hL2
     refine hK.out _ _ hB ?_
     clear hK K
     try simp only[Act.put,pA_,pB_,pC_]
     refine bD_ 20 fun K hK=>?_
     refine wp_lit1 hB 144 _ rfl _ rfl (bsl8 _ _ _ _) (HK.out.kept hB) ?_
     intro x3 wA hL3 hbA hBA
     replace hB:=hBA
     replace hG2:=hG2.kept hbA
     try replace hL1:=hL1.kept hbA
     try replace hL2:=hL2.kept hbA
     try replace hO1:=hO1.kept hbA
     try replace hO2:=hO2.kept hbA
     refine hK.out _ _ hB ?_
     clear hK K
     try simp only[Act.put,pA_,pB_,pC_]
     refine bD_ 21 fun K hK=>?_
     go_simp
     refine(join_any _ _ _ _ hL3 HT3.out).mono ?_
     rintro e wq ⟨v3,rfl,hN1⟩
     have hO3:Ow 5 w.heap.size v3 key wq:=(Ow.of_new hN1.one16).mono hB.size
     obtain⟨a3,d3,rfl, -⟩:=id hO3.rd
     replace hB:=stepB hB hN1.2
     replace hG2:=hG2.kept hN1.2
     replace hO1:=hO1.kept hN1.2
     replace hO2:=hO2.kept hN1.2
     clear hN1 hL3
     refine hK.out _ _ hB ?_
     clear hK K
     try simp only[Act.put,pA_,pB_,pC_]
     refine bU_ hB 28 rfl ⟨_,by intro W hW;exact exec_build 61 _ rfl #[(0,.slice a3 key.length d3),(1,.int .u64 (n:Int))] (by go_simp) _ (build_kn _ _ _ _ _),?_⟩
     try simp only[Act.put,pA_,pB_,pC_]
     refine bU_ hB 29 rfl ⟨_,by intro W hW;exact exec_build 97 _ rfl #[(0,.slice a1 ck.length d1),(1,.slice a2 h.length d2),(2,.agg #[.slice a3 key.length d3,.int .u64 (n:Int)])] (by go_simp) _ (build_st3 _ _ _ _ _ _ _ _ _ _ _),?_⟩
     try simp only[Act.put,pA_,pB_,pC_]
     refine bU_ hB 30 rfl ⟨_,by intro W hW;go_simp<;>with_reducible rfl,?_⟩
     try simp only[Act.put,pA_,pB_,pC_]
     refine bD_ 31 fun K hK=>?_
     refine wp_store_part 97 _ _ rfl rfl (stD (.slice a1 ck.length d1) (.slice a2 h.length d2) (.slice a3 key.length d3) n) rfl [.bool i,.slice am lm cm] (stD (.slice ac ck.length cc) (.slice ah h.length ch) (.slice ak key.length ck') n) post (shD (.bool i) (.slice am lm cm) post (.slice a1 ck.length d1) (.slice a2 h.length d2) (.slice a3 key.length d3) n) hG2 rfl rfl rfl rfl info_kc2 (stD_one _ _ _ _ _ _ _ _ _ _) ?_
     intro w6 r6 hw6
     have c6:=Chg.of_wrote hw6
     replace hB:=Chg.gone hB c6 hB.size HG2.out
     refine hK.out _ _ hB ?_
     clear hK K
     try simp only[Act.put,pA_,pB_,pC_]
     refine wpB_done (by kernel_rfl) ?_
     go_wp2
     go_ret
     exact⟨g2,rfl,HG2.out,⟨_,_,_,r6,hO1.chg hG2 ne_shake c6,hO2.chg hG2 ne_shake c6,hO3.chg hG2 ne_shake c6⟩,hB⟩
    ·refine wp_lit1 hB 144 _ rfl _ rfl (bsl8 _ _ _ _) (HK.out.kept hB) ?_
     intro x3 wA hL3 hbA hBA
     replace hB:=hBA
     replace hG2:=hG2.kept hbA
     try replace hL1:=hL1.kept hbA
     try replace hL2:=hL2.kept hbA
     try replace hO1:=hO1.kept hbA
     try replace hO2:=hO2.kept hbA
     refine hK.out _ _ hB ?_
     clear hK K
     try simp only[Act.put,pA_,pB_,pC_]
     refine bD_ 13 fun K hK=>?_
     go_simp
     refine(join_any _ _ _ _ hL2 HT2.out).mono ?_
     rintro e wq ⟨v2,rfl,hN1⟩
     have hO2:Ow 5 w.heap.size v2 h wq:=(Ow.of_new hN1.one16).mono hB.size
     obtain⟨a2,d2,rfl, -⟩:=id hO2.rd
     replace hB:=stepB hB hN1.2
     replace hG2:=hG2.kept hN1.2
     replace hO1:=hO1.kept hN1.2
     try replace hL3:=hL3.kept hN1.2
     clear hN1 hL2
     refine hK.out _ _ hB ?_
     clear hK K
     try simp only[Act.put,pA_,pB_,pC_]
     refine bD_ 21 fun K hK=>?_
     go_simp
     refine(join_any _ _ _ _ hL3 HT3.out).mono ?_
     rintro e wq ⟨v3,rfl,hN1⟩
     have hO3:Ow 5 w.heap.size v3 key wq:=(Ow.of_new hN1.one16).mono hB.size
     obtain⟨a3,d3,rfl, -⟩:=id hO3.rd
     replace hB:=stepB hB hN1.2
     replace hG2:=hG2.kept hN1.2
     replace hO1:=hO1.kept hN1.2
     replace hO2:=hO2.kept hN1.2
     clear hN1 hL3
     refine hK.out _ _ hB ?_
     clear hK K
     try simp only[Act.put,pA_,pB_,pC_]
     refine bU_ hB 28 rfl ⟨_,by intro W hW;exact exec_build 61 _ rfl #[(0,.slice a3 key.length d3),(1,.int .u64 (n:Int))] (by go_simp) _ (build_kn _ _ _ _ _),?_⟩
     try simp only[Act.put,pA_,pB_,pC_]
     refine bU_ hB 29 rfl ⟨_,by intro W hW;exact exec_build 97 _ rfl #[(0,.slice a1 ck.length d1),(1,.slice a2 h.length d2),(2,.agg #[.slice a3 key.length d3,.int .u64 (n:Int)])] (by go_simp) _ (build_st3 _ _ _ _ _ _ _ _ _ _ _),?_⟩
     try simp only[Act.put,pA_,pB_,pC_]
     refine bU_ hB 30 rfl ⟨_,by intro W hW;go_simp<;>with_reducible rfl,?_⟩
     try simp only[Act.put,pA_,pB_,pC_]
     refine bD_ 31 fun K hK=>?_
     refine wp_store_part 97 _ _ rfl rfl (stD (.slice a1 ck.length d1) (.slice a2 h.length d2) (.slice a3 key.length d3) n) rfl [.bool i,.slice am lm cm] (stD (.slice ac ck.length cc) (.slice ah h.length ch) (.slice ak key.length ck') n) post (shD (.bool i) (.slice am lm cm) post (.slice a1 ck.length d1) (.slice a2 h.length d2) (.slice a3 key.length d3) n) hG2 rfl rfl rfl rfl info_kc2 (stD_one _ _ _ _ _ _ _ _ _ _) ?_
     intro w6 r6 hw6
     have c6:=Chg.of_wrote hw6
     replace hB:=Chg.gone hB c6 hB.size HG2.out
     refine hK.out _ _ hB ?_
     clear hK K
     try simp only[Act.put,pA_,pB_,pC_]
     refine wpB_done (by kernel_rfl) ?_
     go_wp2
     go_ret
     exact⟨g2,rfl,HG2.out,⟨_,_,_,r6,hO1.chg hG2 ne_shake c6,hO2.chg hG2 ne_shake c6,hO3.chg hG2 ne_shake c6⟩,hB⟩
   ·refine wp_lit1 hB 144 _ rfl _ rfl (bsl8 _ _ _ _) (HK.out.kept hB) ?_
    intro x3 wA hL3 hbA hBA
    replace hB:=hBA
    replace hG2:=hG2.kept hbA
    try replace hL1:=hL1.kept hbA
    try replace hL2:=hL2.kept hbA
    try replace hO1:=hO1.kept hbA
    try replace hO2:=hO2.kept hbA
    refine hK.out _ _ hB ?_
    clear hK K
    try simp only[Act.put,pA_,pB_,pC_]
    refine bD_ 6 fun K hK=>?_
    go_simp
    refine(join_any _ _ _ _ hL1 HT1.out).mono ?_
    rintro e wq ⟨v1,rfl,hN1⟩
    have hO1:Ow 5 w.heap.size v1 ck wq:=(Ow.of_new hN1.one16).mono hB.size
    obtain⟨a1,d1,rfl, -⟩:=id hO1.rd
    replace hB:=stepB hB hN1.2
    replace hG2:=hG2.kept hN1.2
    try replace hL2:=hL2.kept hN1.2
    try replace hL3:=hL3.kept hN1.2
    clear hN1 hL1
    refine hK.out _ _ hB ?_
    clear hK K
    try simp only[Act.put,pA_,pB_,pC_]
    refine bD_ 13 fun K hK=>?_
    go_simp
    refine(join_any _ _ _ _ hL2 HT2.out).mono ?_
    rintro e wq ⟨v2,rfl,hN1⟩
    have hO2:Ow 5 w.heap.size v2 h wq:=(Ow.of_new hN1.one16).mono hB.size
    obtain⟨a2,d2,rfl, -⟩:=id hO2.rd
    replace hB:=stepB hB hN1.2
    replace hG2:=hG2.kept hN1.2
    replace hO1:=hO1.kept hN1.2
    try replace hL3:=hL3.kept hN1.2
    clear hN1 hL2
    refine hK.out _ _ hB ?_
    clear hK K
    try simp only[Act.put,pA_,pB_,pC_]
    refine bD_ 21 fun K hK=>?_
    go_simp
    refine(join_any _ _ _ _ hL3 HT3.out).mono ?_
    rintro e wq ⟨v3,rfl,hN1⟩
    have hO3:Ow 5 w.heap.size v3 key wq:=(Ow.of_new hN1.one16).mono hB.size
    obtain⟨a3,d3,rfl, -⟩:=id hO3.rd
    replace hB:=stepB hB hN1.2
    replace hG2:=hG2.kept hN1.2
    replace hO1:=hO1.kept hN1.2
    replace hO2:=hO2.kept hN1.2
    clear hN1 hL3
    refine hK.out _ _ hB ?_
    clear hK K
    try simp only[Act.put,pA_,pB_,pC_]
    refine bU_ hB 28 rfl ⟨_,by intro W hW;exact exec_build 61 _ rfl #[(0,.slice a3 key.length d3),(1,.int .u64 (n:Int))] (by go_simp) _ (build_kn _ _ _ _ _),?_⟩
    try simp only[Act.put,pA_,pB_,pC_]
    refine bU_ hB 29 rfl ⟨_,by intro W hW;exact exec_build 97 _ rfl #[(0,.slice a1 ck.length d1),(1,.slice a2 h.length d2),(2,.agg #[.slice a3 key.length d3,.int .u64 (n:Int)])] (by go_simp) _ (build_st3 _ _ _ _ _ _ _ _ _ _ _),?_⟩
    try simp only[Act.put,pA_,pB_,pC_]
    refine bU_ hB 30 rfl ⟨_,by intro W hW;go_simp<;>with_reducible rfl,?_⟩
    try simp only[Act.put,pA_,pB_,pC_]
    refine bD_ 31 fun K hK=>?_
    refine wp_store_part 97 _ _ rfl rfl (stD (.slice a1 ck.length d1) (.slice a2 h.length d2) (.slice a3 key.length d3) n) rfl [.bool i,.slice am lm cm] (stD (.slice ac ck.length cc) (.slice ah h.length ch) (.slice ak key.length ck') n) post (shD (.bool i) (.slice am lm cm) post (.slice a1 ck.length d1) (.slice a2 h.length d2) (.slice a3 key.length d3) n) hG2 rfl rfl rfl rfl info_kc2 (stD_one _ _ _ _ _ _ _ _ _ _) ?_
    intro w6 r6 hw6
    have c6:=Chg.of_wrote hw6
    replace hB:=Chg.gone hB c6 hB.size HG2.out
    refine hK.out _ _ hB ?_
    clear hK K
    try simp only[Act.put,pA_,pB_,pC_]
    refine wpB_done (by kernel_rfl) ?_
    go_wp2
    go_ret
    exact⟨g2,rfl,HG2.out,⟨_,_,_,r6,hO1.chg hG2 ne_shake c6,hO2.chg hG2 ne_shake c6,hO3.chg hG2 ne_shake c6⟩,hB⟩
  ·refine wp_lit1 hB 144 _ rfl _ rfl (bsl8 _ _ _ _) (HK.out.kept hB) ?_
   intro x3 wA hL3 hbA hBA
   replace hB:=hBA
   replace hG2:=hG2.kept hbA
   try replace hL1:=hL1.kept hbA
   try replace hL2:=hL2.kept hbA
   try replace hO1:=hO1.kept hbA
   try replace hO2:=hO2.kept hbA
   refine hK.out _ _ hB ?_
   clear hK K
   try simp only[Act.put,pA_,pB_,pC_]
   refine bF_ 6 12 (fun K hK=>?_) (fun K hK=>?_)
   ·go_simp
    refine(join_any _ _ _ _ hL1 HT1.out).mono ?_
    rintro e wq ⟨v1,rfl,hN1⟩
    have hO1:Ow 5 w.heap.size v1 ck wq:=(Ow.of_new hN1.one16).mono hB.size
    obtain⟨a1,d1,rfl, -⟩:=id hO1.rd
    replace hB:=stepB hB hN1.2
    replace hG2:=hG2.kept hN1.2
    try replace hL2:=hL2.kept hN1.2
    try replace hL3:=hL3.kept hN1.2
    clear hN1 hL1
    refine hK.out _ _ hB ?_
    clear hK K
    try simp only[Act.put,pA_,pB_,pC_]
    refine bD_ 12 fun K hK=>?_
    refine wp_lit1 hB 144 _ rfl _ rfl (bsl8 _ _ _ _) (HH.out.kept hB) ?_
    intro x2 wA hL2 hbA hBA
    replace hB:=hBA
    replace hG2:=hG2.kept hbA
    try replace hL1:=hL1.kept hbA
    try replace hL3:=hL3.kept hbA
    try replace hO1:=hO1.kept hbA
    refine hK.out _ _ hB ?_
    clear hK K
    try simp only[Act.put,pA_,pB_,pC_]
    refine bD_ 13 fun K hK=>?_
    go_simp
    refine(join_any _ _ _ _ hL2 HT2.out).mono ?_
    rintro e wq ⟨v2,rfl,hN1⟩
    have hO2:Ow 5 w.heap.size v2 h wq:=(Ow.of_new hN1.one16).mono hB.size
    obtain⟨a2,d2,rfl, -⟩:=id hO2.rd
    replace hB:=stepB hB hN1.2
    replace hG2:=hG2.kept hN1.2
    replace hO1:=hO1.kept hN1.2
    try replace hL3:=hL3.kept hN1.2
    clear hN1 hL2
    refine hK.out _ _ hB ?_
    clear hK K
    try simp only[Act.put,pA_,pB_,pC_]
    refine bD_ 21 fun K hK=>?_
    go_simp
    refine(join_any _ _ _ _ hL3 HT3.out).mono ?_
    rintro e wq ⟨v3,rfl,hN1⟩
    have hO3:Ow 5 w.heap.size v3 key wq:=(Ow.of_new hN1.one16).mono hB.size
    obtain⟨a3,d3,rfl, -⟩:=id hO3.rd
    replace hB:=stepB hB hN1.2
    replace hG2:=hG2.kept hN1.2
    replace hO1:=hO1.kept hN1.2
    replace hO2:=hO2.kept hN1.2
    clear hN1 hL3
    refine hK.out _ _ hB ?_
    clear hK K
    try simp only[Act.put,pA_,pB_,pC_]
    refine bU_ hB 28 rfl ⟨_,by intro W hW;exact exec_build 61 _ rfl #[(0,.slice a3 key.length d3),(1,.int .u64 (n:Int))] (by go_simp) _ (build_kn _ _ _ _ _),?_⟩
    try simp only[Act.put,pA_,pB_,pC_]
    refine bU_ hB 29 rfl ⟨_,by intro W hW;exact exec_build 97 _ rfl #[(0,.slice a1 ck.length d1),(1,.slice a2 h.length d2),(2,.agg #[.slice a3 key.length d3,.int .u64 (n:Int)])] (by go_simp) _ (build_st3 _ _ _ _ _ _ _ _ _ _ _),?_⟩
    try simp only[Act.put,pA_,pB_,pC_]
    refine bU_ hB 30 rfl ⟨_,by intro W hW;go_simp<;>with_reducible rfl,?_⟩
    try simp only[Act.put,pA_,pB_,pC_]
    refine bD_ 31 fun K hK=>?_
    refine wp_store_part 97 _ _ rfl rfl (stD (.slice a1 ck.length d1) (.slice a2 h.length d2) (.slice a3 key.length d3) n) rfl [.bool i,.slice am lm cm] (stD (.slice ac ck.length cc) (.slice ah h.length ch) (.slice ak key.length ck') n) post (shD (.bool i) (.slice am lm cm) post (.slice a1 ck.length d1) (.slice a2 h.length d2) (.slice a3 key.length d3) n) hG2 rfl rfl rfl rfl info_kc2 (stD_one _ _ _ _ _ _ _ _ _ _) ?_
    intro w6 r6 hw6
    have c6:=Chg.of_wrote hw6
    replace hB:=Chg.gone hB c6 hB.size HG2.out
    refine hK.out _ _ hB ?_
    clear hK K
    try simp only[Act.put,pA_,pB_,pC_]
    refine wpB_done (by kernel_rfl) ?_
    go_wp2
    go_ret
    exact⟨g2,rfl,HG2.out,⟨_,_,_,r6,hO1.chg hG2 ne_shake c6,hO2.chg hG2 ne_shake c6,hO3.chg hG2 ne_shake c6⟩,hB⟩
   ·refine wp_lit1 hB 144 _ rfl _ rfl (bsl8 _ _ _ _) (HH.out.kept hB) ?_
    intro x2 wA hL2 hbA hBA
    replace hB:=hBA
    replace hG2:=hG2.kept hbA
    try replace hL1:=hL1.kept hbA
    try replace hL3:=hL3.kept hbA
    try replace hO1:=hO1.kept hbA
    refine hK.out _ _ hB ?_
    clear hK K
    try simp only[Act.put,pA_,pB_,pC_]
    refine bD_ 6 fun K hK=>?_
    go_simp
    refine(join_any _ _ _ _ hL1 HT1.out).mono ?_
    rintro e wq ⟨v1,rfl,hN1⟩
    have hO1:Ow 5 w.heap.size v1 ck wq:=(Ow.of_new hN1.one16).mono hB.size
    obtain⟨a1,d1,rfl, -⟩:=id hO1.rd
    replace hB:=stepB hB hN1.2
    replace hG2:=hG2.kept hN1.2
    try replace hL2:=hL2.kept hN1.2
    try replace hL3:=hL3.kept hN1.2
    clear hN1 hL1
    refine hK.out _ _ hB ?_
    clear hK K
    try simp only[Act.put,pA_,pB_,pC_]
    refine bD_ 13 fun K hK=>?_
    go_simp
    refine(join_any _ _ _ _ hL2 HT2.out).mono ?_
    rintro e wq ⟨v2,rfl,hN1⟩
    have hO2:Ow 5 w.heap.size v2 h wq:=(Ow.of_new hN1.one16).mono hB.size
    obtain⟨a2,d2,rfl, -⟩:=id hO2.rd
    replace hB:=stepB hB hN1.2
    replace hG2:=hG2.kept hN1.2
    replace hO1:=hO1.kept hN1.2
    try replace hL3:=hL3.kept hN1.2
    clear hN1 hL2
    refine hK.out _ _ hB ?_
    clear hK K
    try simp only[Act.put,pA_,pB_,pC_]
    refine bD_ 21 fun K hK=>?_
    go_simp
    refine(join_any _ _ _ _ hL3 HT3.out).mono ?_
    rintro e wq ⟨v3,rfl,hN1⟩
    have hO3:Ow 5 w.heap.size v3 key wq:=(Ow.of_new hN1.one16).mono hB.size
    obtain⟨a3,d3,rfl, -⟩:=id hO3.rd
    replace hB:=stepB hB hN1.2
    replace hG2:=hG2.kept hN1.2
    replace hO1:=hO1.kept hN1.2
    replace hO2:=hO2.kept hN1.2
    clear hN1 hL3
    refine hK.out _ _ hB ?_
    clear hK K
    try simp only[Act.put,pA_,pB_,pC_]
    refine bU_ hB 28 rfl ⟨_,by intro W hW;exact exec_build 61 _ rfl #[(0,.slice a3 key.length d3),(1,.int .u64 (n:Int))] (by go_simp) _ (build_kn _ _ _ _ _),?_⟩
    try simp only[Act.put,pA_,pB_,pC_]
    refine bU_ hB 29 rfl ⟨_,by intro W hW;exact exec_build 97 _ rfl #[(0,.slice a1 ck.length d1),(1,.slice a2 h.length d2),(2,.agg #[.slice a3 key.length d3,.int .u64 (n:Int)])] (by go_simp) _ (build_st3 _ _ _ _ _ _ _ _ _ _ _),?_⟩
    try simp only[Act.put,pA_,pB_,pC_]
    refine bU_ hB 30 rfl ⟨_,by intro W hW;go_simp<;>with_reducible rfl,?_⟩
    try simp only[Act.put,pA_,pB_,pC_]
    refine bD_ 31 fun K hK=>?_
    refine wp_store_part 97 _ _ rfl rfl (stD (.slice a1 ck.length d1) (.slice a2 h.length d2) (.slice a3 key.length d3) n) rfl [.bool i,.slice am lm cm] (stD (.slice ac ck.length cc) (.slice ah h.length ch) (.slice ak key.length ck') n) post (shD (.bool i) (.slice am lm cm) post (.slice a1 ck.length d1) (.slice a2 h.length d2) (.slice a3 key.length d3) n) hG2 rfl rfl rfl rfl info_kc2 (stD_one _ _ _ _ _ _ _ _ _ _) ?_
    intro w6 r6 hw6
    have c6:=Chg.of_wrote hw6
    replace hB:=Chg.gone hB c6 hB.size HG2.out
    refine hK.out _ _ hB ?_
    clear hK K
    try simp only[Act.put,pA_,pB_,pC_]
    refine wpB_done (by kernel_rfl) ?_
    go_wp2
    go_ret
    exact⟨g2,rfl,HG2.out,⟨_,_,_,r6,hO1.chg hG2 ne_shake c6,hO2.chg hG2 ne_shake c6,hO3.chg hG2 ne_shake c6⟩,hB⟩
 ·refine wp_lit1 hB 144 _ rfl _ rfl (bsl8 _ _ _ _) (HH.out.kept hB) ?_
  intro x2 wA hL2 hbA hBA
  replace hB:=hBA
  replace hG2:=hG2.kept hbA
  try replace hL1:=hL1.kept hbA
  try replace hL3:=hL3.kept hbA
  try replace hO1:=hO1.kept hbA
  refine hK.out _ _ hB ?_
  clear hK K
  try simp only[Act.put,pA_,pB_,pC_]
  refine bF_ 5 20 (fun K hK=>?_) (fun K hK=>?_)
  ·refine wp_lit1 hB 144 _ rfl _ rfl (bsl8 _ _ _ _) (HC.out.kept hB) ?_
   intro x1 wA hL1 hbA hBA
   replace hB:=hBA
   replace hG2:=hG2.kept hbA
   try replace hL2:=hL2.kept hbA
   try replace hL3:=hL3.kept hbA
   refine hK.out _ _ hB ?_
   clear hK K
   try simp only[Act.put,pA_,pB_,pC_]
   refine bF_ 6 20 (fun K hK=>?_) (fun K hK=>?_)
   ·go_simp
    refine(join_any _ _ _ _ hL1 HT1.out).mono ?_
    rintro e wq ⟨v1,rfl,hN1⟩
    have hO1:Ow 5 w.heap.size v1 ck wq:=(Ow.of_new hN1.one16).mono hB.size
    obtain⟨a1,d1,rfl, -⟩:=id hO1.rd
    replace hB:=stepB hB hN1.2
    replace hG2:=hG2.kept hN1.2
    try replace hL2:=hL2.kept hN1.2
    try replace hL3:=hL3.kept hN1.2
    clear hN1 hL1
    refine hK.out _ _ hB ?_
    clear hK K
    try simp only[Act.put,pA_,pB_,pC_]
    refine bF_ 13 20 (fun K hK=>?_) (fun K hK=>?_)
    ·go_simp
     refine(join_any _ _ _ _ hL2 HT2.out).mono ?_
     rintro e wq ⟨v2,rfl,hN1⟩
     have hO2:Ow 5 w.heap.size v2 h wq:=(Ow.of_new hN1.one16).mono hB.size
     obtain⟨a2,d2,rfl, -⟩:=id hO2.rd
     replace hB:=stepB hB hN1.2
     replace hG2:=hG2.kept hN1.2
     replace hO1:=hO1.kept hN1.2
     try replace hL3:=hL3.kept hN1.2
     clear hN1 hL2
     refine hK.out _ _ hB ?_
     clear hK K
     try simp only[Act.put,pA_,pB_,pC_]
     refine bD_ 20 fun K hK=>?_
     refine wp_lit1 hB 144 _ rfl _ rfl (bsl8 _ _ _ _) (HK.out.kept hB) ?_
     intro x3 wA hL3 hbA hBA
     replace hB:=hBA
     replace hG2:=hG2.kept hbA
     try replace hL1:=hL1.kept hbA
     try replace hL2:=hL2.kept hbA
     try replace hO1:=hO1.kept hbA
     try replace hO2:=hO2.kept hbA
     refine hK.out _ _ hB ?_
     clear hK K
     try simp only[Act.put,pA_,pB_,pC_]
     refine bD_ 21 fun K hK=>?_
     go_simp
     refine(join_any _ _ _ _ hL3 HT3.out).mono ?_
     rintro e wq ⟨v3,rfl,hN1⟩
     have hO3:Ow 5 w.heap.size v3 key wq:=(Ow.of_new hN1.one16).mono hB.size
     obtain⟨a3,d3,rfl, -⟩:=id hO3.rd
     replace hB:=stepB hB hN1.2
     replace hG2:=hG2.kept hN1.2
     replace hO1:=hO1.kept hN1.2
     replace hO2:=hO2.kept hN1.2
     clear hN1 hL3
     refine hK.out _ _ hB ?_
     clear hK K
     try simp only[Act.put,pA_,pB_,pC_]
     refine bU_ hB 28 rfl ⟨_,by intro W hW;exact exec_build 61 _ rfl #[(0,.slice a3 key.length d3),(1,.int .u64 (n:Int))] (by go_simp) _ (build_kn _ _ _ _ _),?_⟩
     try simp only[Act.put,pA_,pB_,pC_]
     refine bU_ hB 29 rfl ⟨_,by intro W hW;exact exec_build 97 _ rfl #[(0,.slice a1 ck.length d1),(1,.slice a2 h.length d2),(2,.agg #[.slice a3 key.length d3,.int .u64 (n:Int)])] (by go_simp) _ (build_st3 _ _ _ _ _ _ _ _ _ _ _),?_⟩
     try simp only[Act.put,pA_,pB_,pC_]
     refine bU_ hB 30 rfl ⟨_,by intro W hW;go_simp<;>with_reducible rfl,?_⟩
     try simp only[Act.put,pA_,pB_,pC_]
     refine bD_ 31 fun K hK=>?_
     refine wp_store_part 97 _ _ rfl rfl (stD (.slice a1 ck.length d1) (.slice a2 h.length d2) (.slice a3 key.length d3) n) rfl [.bool i,.slice am lm cm] (stD (.slice ac ck.length cc) (.slice ah h.length ch) (.slice ak key.length ck') n) post (shD (.bool i) (.slice am lm cm) post (.slice a1 ck.length d1) (.slice a2 h.length d2) (.slice a3 key.length d3) n) hG2 rfl rfl rfl rfl info_kc2 (stD_one _ _ _ _ _ _ _ _ _ _) ?_
     intro w6 r6 hw6
     have c6:=Chg.of_wrote hw6
     replace hB:=Chg.gone hB c6 hB.size HG2.out
     refine hK.out _ _ hB ?_
     clear hK K
     try simp only[Act.put,pA_,pB_,pC_]
     refine wpB_done (by kernel_rfl) ?_
     go_wp2
     go_ret
     exact⟨g2,rfl,HG2.out,⟨_,_,_,r6,hO1.chg hG2 ne_shake c6,hO2.chg hG2 ne_shake c6,hO3.chg hG2 ne_shake c6⟩,hB⟩
    ·refine wp_lit1 hB 144 _ rfl _ rfl (bsl8 _ _ _ _) (HK.out.kept hB) ?_
     intro x3 wA hL3 hbA hBA
     replace hB:=hBA
     replace hG2:=hG2.kept hbA
     try replace hL1:=hL1.kept hbA
     try replace hL2:=hL2.kept hbA
     try replace hO1:=hO1.kept hbA
     try replace hO2:=hO2.kept hbA
     refine hK.out _ _ hB ?_
     clear hK K
     try simp only[Act.put,pA_,pB_,pC_]
     refine bD_ 13 fun K hK=>?_
     go_simp
     refine(join_any _ _ _ _ hL2 HT2.out).mono ?_
     rintro e wq ⟨v2,rfl,hN1⟩
     have hO2:Ow 5 w.heap.size v2 h wq:=(Ow.of_new hN1.one16).mono hB.size
     obtain⟨a2,d2,rfl, -⟩:=id hO2.rd
     replace hB:=stepB hB hN1.2
     replace hG2:=hG2.kept hN1.2
     replace hO1:=hO1.kept hN1.2
     try replace hL3:=hL3.kept hN1.2
     clear hN1 hL2
     refine hK.out _ _ hB ?_
     clear hK K
     try simp only[Act.put,pA_,pB_,pC_]
     refine bD_ 21 fun K hK=>?_
     go_simp
     refine(join_any _ _ _ _ hL3 HT3.out).mono ?_
     rintro e wq ⟨v3,rfl,hN1⟩
     have hO3:Ow 5 w.heap.size v3 key wq:=(Ow.of_new hN1.one16).mono hB.size
     obtain⟨a3,d3,rfl, -⟩:=id hO3.rd
     replace hB:=stepB hB hN1.2
     replace hG2:=hG2.kept hN1.2
     replace hO1:=hO1.kept hN1.2
     replace hO2:=hO2.kept hN1.2
     clear hN1 hL3
     refine hK.out _ _ hB ?_
     clear hK K
     try simp only[Act.put,pA_,pB_,pC_]
     refine bU_ hB 28 rfl ⟨_,by intro W hW;exact exec_build 61 _ rfl #[(0,.slice a3 key.length d3),(1,.int .u64 (n:Int))] (by go_simp) _ (build_kn _ _ _ _ _),?_⟩
     try simp only[Act.put,pA_,pB_,pC_]
     refine bU_ hB 29 rfl ⟨_,by intro W hW;exact exec_build 97 _ rfl #[(0,.slice a1 ck.length d1),(1,.slice a2 h.length d2),(2,.agg #[.slice a3 key.length d3,.int .u64 (n:Int)])] (by go_simp) _ (build_st3 _ _ _ _ _ _ _ _ _ _ _),?_⟩
     try simp only[Act.put,pA_,pB_,pC_]
     refine bU_ hB 30 rfl ⟨_,by intro W hW;go_simp<;>with_reducible rfl,?_⟩
     try simp only[Act.put,pA_,pB_,pC_]
     refine bD_ 31 fun K hK=>?_
     refine wp_store_part 97 _ _ rfl rfl (stD (.slice a1 ck.length d1) (.slice a2 h.length d2) (.slice a3 key.length d3) n) rfl [.bool i,.slice am lm cm] (stD (.slice ac ck.length cc) (.slice ah h.length ch) (.slice ak key.length ck') n) post (shD (.bool i) (.slice am lm cm) post (.slice a1 ck.length d1) (.slice a2 h.length d2) (.slice a3 key.length d3) n) hG2 rfl rfl rfl rfl info_kc2 (stD_one _ _ _ _ _ _ _ _ _ _) ?_
     intro w6 r6 hw6
     have c6:=Chg.of_wrote hw6
     replace hB:=Chg.gone hB c6 hB.size HG2.out
     refine hK.out _ _ hB ?_
     clear hK K
     try simp only[Act.put,pA_,pB_,pC_]
     refine wpB_done (by kernel_rfl) ?_
     go_wp2
     go_ret
     exact⟨g2,rfl,HG2.out,⟨_,_,_,r6,hO1.chg hG2 ne_shake c6,hO2.chg hG2 ne_shake c6,hO3.chg hG2 ne_shake c6⟩,hB⟩
   ·refine wp_lit1 hB 144 _ rfl _ rfl (bsl8 _ _ _ _) (HK.out.kept hB) ?_
    intro x3 wA hL3 hbA hBA
    replace hB:=hBA
    replace hG2:=hG2.kept hbA
    try replace hL1:=hL1.kept hbA
    try replace hL2:=hL2.kept hbA
    try replace hO1:=hO1.kept hbA
    try replace hO2:=hO2.kept hbA
    refine hK.out _ _ hB ?_
    clear hK K
    try simp only[Act.put,pA_,pB_,pC_]
    refine bD_ 6 fun K hK=>?_
    go_simp
    refine(join_any _ _ _ _ hL1 HT1.out).mono ?_
    rintro e wq ⟨v1,rfl,hN1⟩
    have hO1:Ow 5 w.heap.size v1 ck wq:=(Ow.of_new hN1.one16).mono hB.size
    obtain⟨a1,d1,rfl, -⟩:=id hO1.rd
    replace hB:=stepB hB hN1.2
    replace hG2:=hG2.kept hN1.2
    try replace hL2:=hL2.kept hN1.2
    try replace hL3:=hL3.kept hN1.2
    clear hN1 hL1
    refine hK.out _ _ hB ?_
    clear hK K
    try simp only[Act.put,pA_,pB_,pC_]
    refine bD_ 13 fun K hK=>?_
    go_simp
    refine(join_any _ _ _ _ hL2 HT2.out).mono ?_
    rintro e wq ⟨v2,rfl,hN1⟩
    have hO2:Ow 5 w.heap.size v2 h wq:=(Ow.of_new hN1.one16).mono hB.size
    obtain⟨a2,d2,rfl, -⟩:=id hO2.rd
    replace hB:=stepB hB hN1.2
    replace hG2:=hG2.kept hN1.2
    replace hO1:=hO1.kept hN1.2
    try replace hL3:=hL3.kept hN1.2
    clear hN1 hL2
    refine hK.out _ _ hB ?_
    clear hK K
    try simp only[Act.put,pA_,pB_,pC_]
    refine bD_ 21 fun K hK=>?_
    go_simp
    refine(join_any _ _ _ _ hL3 HT3.out).mono ?_
    rintro e wq ⟨v3,rfl,hN1⟩
    have hO3:Ow 5 w.heap.size v3 key wq:=(Ow.of_new hN1.one16).mono hB.size
    obtain⟨a3,d3,rfl, -⟩:=id hO3.rd
    replace hB:=stepB hB hN1.2
    replace hG2:=hG2.kept hN1.2
    replace hO1:=hO1.kept hN1.2
    replace hO2:=hO2.kept hN1.2
    clear hN1 hL3
    refine hK.out _ _ hB ?_
    clear hK K
    try simp only[Act.put,pA_,pB_,pC_]
    refine bU_ hB 28 rfl ⟨_,by intro W hW;exact exec_build 61 _ rfl #[(0,.slice a3 key.length d3),(1,.int .u64 (n:Int))] (by go_simp) _ (build_kn _ _ _ _ _),?_⟩
    try simp only[Act.put,pA_,pB_,pC_]
    refine bU_ hB 29 rfl ⟨_,by intro W hW;exact exec_build 97 _ rfl #[(0,.slice a1 ck.length d1),(1,.slice a2 h.length d2),(2,.agg #[.slice a3 key.length d3,.int .u64 (n:Int)])] (by go_simp) _ (build_st3 _ _ _ _ _ _ _ _ _ _ _),?_⟩
    try simp only[Act.put,pA_,pB_,pC_]
    refine bU_ hB 30 rfl ⟨_,by intro W hW;go_simp<;>with_reducible rfl,?_⟩
    try simp only[Act.put,pA_,pB_,pC_]
    refine bD_ 31 fun K hK=>?_
    refine wp_store_part 97 _ _ rfl rfl (stD (.slice a1 ck.length d1) (.slice a2 h.length d2) (.slice a3 key.length d3) n) rfl [.bool i,.slice am lm cm] (stD (.slice ac ck.length cc) (.slice ah h.length ch) (.slice ak key.length ck') n) post (shD (.bool i) (.slice am lm cm) post (.slice a1 ck.length d1) (.slice a2 h.length d2) (.slice a3 key.length d3) n) hG2 rfl rfl rfl rfl info_kc2 (stD_one _ _ _ _ _ _ _ _ _ _) ?_
    intro w6 r6 hw6
    have c6:=Chg.of_wrote hw6
    replace hB:=Chg.gone hB c6 hB.size HG2.out
    refine hK.out _ _ hB ?_
    clear hK K
    try simp only[Act.put,pA_,pB_,pC_]
    refine wpB_done (by kernel_rfl) ?_
    go_wp2
    go_ret
    exact⟨g2,rfl,HG2.out,⟨_,_,_,r6,hO1.chg hG2 ne_shake c6,hO2.chg hG2 ne_shake c6,hO3.chg hG2 ne_shake c6⟩,hB⟩
  ·refine wp_lit1 hB 144 _ rfl _ rfl (bsl8 _ _ _ _) (HK.out.kept hB) ?_
   intro x3 wA hL3 hbA hBA
   replace hB:=hBA
   replace hG2:=hG2.kept hbA
   try replace hL1:=hL1.kept hbA
   try replace hL2:=hL2.kept hbA
   try replace hO1:=hO1.kept hbA
   try replace hO2:=hO2.kept hbA
   refine hK.out _ _ hB ?_
   clear hK K
   try simp only[Act.put,pA_,pB_,pC_]
   refine bD_ 5 fun K hK=>?_
   refine wp_lit1 hB 144 _ rfl _ rfl (bsl8 _ _ _ _) (HC.out.kept hB) ?_
   intro x1 wA hL1 hbA hBA
   replace hB:=hBA
   replace hG2:=hG2.kept hbA
   try replace hL2:=hL2.kept hbA
   try replace hL3:=hL3.kept hbA
   refine hK.out _ _ hB ?_
   clear hK K
   try simp only[Act.put,pA_,pB_,pC_]
   refine bD_ 6 fun K hK=>?_
   go_simp
   refine(join_any _ _ _ _ hL1 HT1.out).mono ?_
   rintro e wq ⟨v1,rfl,hN1⟩
   have hO1:Ow 5 w.heap.size v1 ck wq:=(Ow.of_new hN1.one16).mono hB.size
   obtain⟨a1,d1,rfl, -⟩:=id hO1.rd
   replace hB:=stepB hB hN1.2
   replace hG2:=hG2.kept hN1.2
   try replace hL2:=hL2.kept hN1.2
   try replace hL3:=hL3.kept hN1.2
   clear hN1 hL1
   refine hK.out _ _ hB ?_
   clear hK K
   try simp only[Act.put,pA_,pB_,pC_]
   refine bD_ 13 fun K hK=>?_
   go_simp
   refine(join_any _ _ _ _ hL2 HT2.out).mono ?_
   rintro e wq ⟨v2,rfl,hN1⟩
   have hO2:Ow 5 w.heap.size v2 h wq:=(Ow.of_new hN1.one16).mono hB.size
   obtain⟨a2,d2,rfl, -⟩:=id hO2.rd
   replace hB:=stepB hB hN1.2
   replace hG2:=hG2.kept hN1.2
   replace hO1:=hO1.kept hN1.2
   try replace hL3:=hL3.kept hN1.2
   clear hN1 hL2
   refine hK.out _ _ hB ?_
   clear hK K
   try simp only[Act.put,pA_,pB_,pC_]
   refine bD_ 21 fun K hK=>?_
   go_simp
   refine(join_any _ _ _ _ hL3 HT3.out).mono ?_
   rintro e wq ⟨v3,rfl,hN1⟩
   have hO3:Ow 5 w.heap.size v3 key wq:=(Ow.of_new hN1.one16).mono hB.size
   obtain⟨a3,d3,rfl, -⟩:=id hO3.rd
   replace hB:=stepB hB hN1.2
   replace hG2:=hG2.kept hN1.2
   replace hO1:=hO1.kept hN1.2
   replace hO2:=hO2.kept hN1.2
   clear hN1 hL3
   refine hK.out _ _ hB ?_
   clear hK K
   try simp only[Act.put,pA_,pB_,pC_]
   refine bU_ hB 28 rfl ⟨_,by intro W hW;exact exec_build 61 _ rfl #[(0,.slice a3 key.length d3),(1,.int .u64 (n:Int))] (by go_simp) _ (build_kn _ _ _ _ _),?_⟩
   try simp only[Act.put,pA_,pB_,pC_]
   refine bU_ hB 29 rfl ⟨_,by intro W hW;exact exec_build 97 _ rfl #[(0,.slice a1 ck.length d1),(1,.slice a2 h.length d2),(2,.agg #[.slice a3 key.length d3,.int .u64 (n:Int)])] (by go_simp) _ (build_st3 _ _ _ _ _ _ _ _ _ _ _),?_⟩
   try simp only[Act.put,pA_,pB_,pC_]
   refine bU_ hB 30 rfl ⟨_,by intro W hW;go_simp<;>with_reducible rfl,?_⟩
   try simp only[Act.put,pA_,pB_,pC_]
   refine bD_ 31 fun K hK=>?_
   refine wp_store_part 97 _ _ rfl rfl (stD (.slice a1 ck.length d1) (.slice a2 h.length d2) (.slice a3 key.length d3) n) rfl [.bool i,.slice am lm cm] (stD (.slice ac ck.length cc) (.slice ah h.length ch) (.slice ak key.length ck') n) post (shD (.bool i) (.slice am lm cm) post (.slice a1 ck.length d1) (.slice a2 h.length d2) (.slice a3 key.length d3) n) hG2 rfl rfl rfl rfl info_kc2 (stD_one _ _ _ _ _ _ _ _ _ _) ?_
   intro w6 r6 hw6
   have c6:=Chg.of_wrote hw6
   replace hB:=Chg.gone hB c6 hB.size HG2.out
   refine hK.out _ _ hB ?_
   clear hK K
   try simp only[Act.put,pA_,pB_,pC_]
   refine wpB_done (by kernel_rfl) ?_
   go_wp2
   go_ret
   exact⟨g2,rfl,HG2.out,⟨_,_,_,r6,hO1.chg hG2 ne_shake c6,hO2.chg hG2 ne_shake c6,hO3.chg hG2 ne_shake c6⟩,hB⟩
 ·refine wp_lit1 hB 144 _ rfl _ rfl (bsl8 _ _ _ _) (HK.out.kept hB) ?_
  intro x3 wA hL3 hbA hBA
  replace hB:=hBA
  replace hG2:=hG2.kept hbA
  try replace hL1:=hL1.kept hbA
  try replace hL2:=hL2.kept hbA
  try replace hO1:=hO1.kept hbA
  try replace hO2:=hO2.kept hbA
  refine hK.out _ _ hB ?_
  clear hK K
  try simp only[Act.put,pA_,pB_,pC_]
  refine bF_ 5 12 (fun K hK=>?_) (fun K hK=>?_)
  ·refine wp_lit1 hB 144 _ rfl _ rfl (bsl8 _ _ _ _) (HC.out.kept hB) ?_
   intro x1 wA hL1 hbA hBA
   replace hB:=hBA
   replace hG2:=hG2.kept hbA
   try replace hL2:=hL2.kept hbA
   try replace hL3:=hL3.kept hbA
   refine hK.out _ _ hB ?_
   clear hK K
   try simp only[Act.put,pA_,pB_,pC_]
   refine bF_ 6 12 (fun K hK=>?_) (fun K hK=>?_)
   ·go_simp
    refine(join_any _ _ _ _ hL1 HT1.out).mono ?_
    rintro e wq ⟨v1,rfl,hN1⟩
    have hO1:Ow 5 w.heap.size v1 ck wq:=(Ow.of_new hN1.one16).mono hB.size
    obtain⟨a1,d1,rfl, -⟩:=id hO1.rd
    replace hB:=stepB hB hN1.2
    replace hG2:=hG2.kept hN1.2
    try replace hL2:=hL2.kept hN1.2
    try replace hL3:=hL3.kept hN1.2
    clear hN1 hL1
    refine hK.out _ _ hB ?_
    clear hK K
    try simp only[Act.put,pA_,pB_,pC_]
    refine bD_ 12 fun K hK=>?_
    refine wp_lit1 hB 144 _ rfl _ rfl (bsl8 _ _ _ _) (HH.out.kept hB) ?_
    intro x2 wA hL2 hbA hBA
    replace hB:=hBA
    replace hG2:=hG2.kept hbA
    try replace hL1:=hL1.kept hbA
    try replace hL3:=hL3.kept hbA
    try replace hO1:=hO1.kept hbA
    refine hK.out _ _ hB ?_
    clear hK K
    try simp only[Act.put,pA_,pB_,pC_]
    refine bD_ 13 fun K hK=>?_
    go_simp
    refine(join_any _ _ _ _ hL2 HT2.out).mono ?_
    rintro e wq ⟨v2,rfl,hN1⟩
    have hO2:Ow 5 w.heap.size v2 h wq:=(Ow.of_new hN1.one16).mono hB.size
    obtain⟨a2,d2,rfl, -⟩:=id hO2.rd
    replace hB:=stepB hB hN1.2
    replace hG2:=hG2.kept hN1.2
    replace hO1:=hO1.kept hN1.2
    try replace hL3:=hL3.kept hN1.2
    clear hN1 hL2
    refine hK.out _ _ hB ?_
    clear hK K
    try simp only[Act.put,pA_,pB_,pC_]
    refine bD_ 21 fun K hK=>?_
    go_simp
    refine(join_any _ _ _ _ hL3 HT3.out).mono ?_
    rintro e wq ⟨v3,rfl,hN1⟩
    have hO3:Ow 5 w.heap.size v3 key wq:=(Ow.of_new hN1.one16).mono hB.size
    obtain⟨a3,d3,rfl, -⟩:=id hO3.rd
    replace hB:=stepB hB hN1.2
    replace hG2:=hG2.kept hN1.2
    replace hO1:=hO1.kept hN1.2
    replace hO2:=hO2.kept hN1.2
    clear hN1 hL3
    refine hK.out _ _ hB ?_
    clear hK K
    try simp only[Act.put,pA_,pB_,pC_]
    refine bU_ hB 28 rfl ⟨_,by intro W hW;exact exec_build 61 _ rfl #[(0,.slice a3 key.length d3),(1,.int .u64 (n:Int))] (by go_simp) _ (build_kn _ _ _ _ _),?_⟩
    try simp only[Act.put,pA_,pB_,pC_]
    refine bU_ hB 29 rfl ⟨_,by intro W hW;exact exec_build 97 _ rfl #[(0,.slice a1 ck.length d1),(1,.slice a2 h.length d2),(2,.agg #[.slice a3 key.length d3,.int .u64 (n:Int)])] (by go_simp) _ (build_st3 _ _ _ _ _ _ _ _ _ _ _),?_⟩
    try simp only[Act.put,pA_,pB_,pC_]
    refine bU_ hB 30 rfl ⟨_,by intro W hW;go_simp<;>with_reducible rfl,?_⟩
    try simp only[Act.put,pA_,pB_,pC_]
    refine bD_ 31 fun K hK=>?_
    refine wp_store_part 97 _ _ rfl rfl (stD (.slice a1 ck.length d1) (.slice a2 h.length d2) (.slice a3 key.length d3) n) rfl [.bool i,.slice am lm cm] (stD (.slice ac ck.length cc) (.slice ah h.length ch) (.slice ak key.length ck') n) post (shD (.bool i) (.slice am lm cm) post (.slice a1 ck.length d1) (.slice a2 h.length d2) (.slice a3 key.length d3) n) hG2 rfl rfl rfl rfl info_kc2 (stD_one _ _ _ _ _ _ _ _ _ _) ?_
    intro w6 r6 hw6
    have c6:=Chg.of_wrote hw6
    replace hB:=Chg.gone hB c6 hB.size HG2.out
    refine hK.out _ _ hB ?_
    clear hK K
    try simp only[Act.put,pA_,pB_,pC_]
    refine wpB_done (by kernel_rfl) ?_
    go_wp2
    go_ret
    exact⟨g2,rfl,HG2.out,⟨_,_,_,r6,hO1.chg hG2 ne_shake c6,hO2.chg hG2 ne_shake c6,hO3.chg hG2 ne_shake c6⟩,hB⟩
   ·refine wp_lit1 hB 144 _ rfl _ rfl (bsl8 _ _ _ _) (HH.out.kept hB) ?_
    intro x2 wA hL2 hbA hBA
    replace hB:=hBA
    replace hG2:=hG2.kept hbA
    try replace hL1:=hL1.kept hbA
    try replace hL3:=hL3.kept hbA
    try replace hO1:=hO1.kept hbA
    refine hK.out _ _ hB ?_
    clear hK K
    try simp only[Act.put,pA_,pB_,pC_]
    refine bD_ 6 fun K hK=>?_
    go_simp
    refine(join_any _ _ _ _ hL1 HT1.out).mono ?_
    rintro e wq ⟨v1,rfl,hN1⟩
    have hO1:Ow 5 w.heap.size v1 ck wq:=(Ow.of_new hN1.one16).mono hB.size
    obtain⟨a1,d1,rfl, -⟩:=id hO1.rd
    replace hB:=stepB hB hN1.2
    replace hG2:=hG2.kept hN1.2
    try replace hL2:=hL2.kept hN1.2
    try replace hL3:=hL3.kept hN1.2
    clear hN1 hL1
    refine hK.out _ _ hB ?_
    clear hK K
    try simp only[Act.put,pA_,pB_,pC_]
    refine bD_ 13 fun K hK=>?_
    go_simp
    refine(join_any _ _ _ _ hL2 HT2.out).mono ?_
    rintro e wq ⟨v2,rfl,hN1⟩
    have hO2:Ow 5 w.heap.size v2 h wq:=(Ow.of_new hN1.one16).mono hB.size
    obtain⟨a2,d2,rfl, -⟩:=id hO2.rd
    replace hB:=stepB hB hN1.2
    replace hG2:=hG2.kept hN1.2
    replace hO1:=hO1.kept hN1.2
    try replace hL3:=hL3.kept hN1.2
    clear hN1 hL2
    refine hK.out _ _ hB ?_
    clear hK K
    try simp only[Act.put,pA_,pB_,pC_]
    refine bD_ 21 fun K hK=>?_
    go_simp
    refine(join_any _ _ _ _ hL3 HT3.out).mono ?_
    rintro e wq ⟨v3,rfl,hN1⟩
    have hO3:Ow 5 w.heap.size v3 key wq:=(Ow.of_new hN1.one16).mono hB.size
    obtain⟨a3,d3,rfl, -⟩:=id hO3.rd
    replace hB:=stepB hB hN1.2
    replace hG2:=hG2.kept hN1.2
    replace hO1:=hO1.kept hN1.2
    replace hO2:=hO2.kept hN1.2
    clear hN1 hL3
    refine hK.out _ _ hB ?_
    clear hK K
    try simp only[Act.put,pA_,pB_,pC_]
    refine bU_ hB 28 rfl ⟨_,by intro W hW;exact exec_build 61 _ rfl #[(0,.slice a3 key.length d3),(1,.int .u64 (n:Int))] (by go_simp) _ (build_kn _ _ _ _ _),?_⟩
    try simp only[Act.put,pA_,pB_,pC_]
    refine bU_ hB 29 rfl ⟨_,by intro W hW;exact exec_build 97 _ rfl #[(0,.slice a1 ck.length d1),(1,.slice a2 h.length d2),(2,.agg #[.slice a3 key.length d3,.int .u64 (n:Int)])] (by go_simp) _ (build_st3 _ _ _ _ _ _ _ _ _ _ _),?_⟩
    try simp only[Act.put,pA_,pB_,pC_]
    refine bU_ hB 30 rfl ⟨_,by intro W hW;go_simp<;>with_reducible rfl,?_⟩
    try simp only[Act.put,pA_,pB_,pC_]
    refine bD_ 31 fun K hK=>?_
    refine wp_store_part 97 _ _ rfl rfl (stD (.slice a1 ck.length d1) (.slice a2 h.length d2) (.slice a3 key.length d3) n) rfl [.bool i,.slice am lm cm] (stD (.slice ac ck.length cc) (.slice ah h.length ch) (.slice ak key.length ck') n) post (shD (.bool i) (.slice am lm cm) post (.slice a1 ck.length d1) (.slice a2 h.length d2) (.slice a3 key.length d3) n) hG2 rfl rfl rfl rfl info_kc2 (stD_one _ _ _ _ _ _ _ _ _ _) ?_
    intro w6 r6 hw6
    have c6:=Chg.of_wrote hw6
    replace hB:=Chg.gone hB c6 hB.size HG2.out
    refine hK.out _ _ hB ?_
    clear hK K
    try simp only[Act.put,pA_,pB_,pC_]
    refine wpB_done (by kernel_rfl) ?_
    go_wp2
    go_ret
    exact⟨g2,rfl,HG2.out,⟨_,_,_,r6,hO1.chg hG2 ne_shake c6,hO2.chg hG2 ne_shake c6,hO3.chg hG2 ne_shake c6⟩,hB⟩
  ·refine wp_lit1 hB 144 _ rfl _ rfl (bsl8 _ _ _ _) (HH.out.kept hB) ?_
   intro x2 wA hL2 hbA hBA
   replace hB:=hBA
   replace hG2:=hG2.kept hbA
   try replace hL1:=hL1.kept hbA
   try replace hL3:=hL3.kept hbA
   try replace hO1:=hO1.kept hbA
   refine hK.out _ _ hB ?_
   clear hK K
   try simp only[Act.put,pA_,pB_,pC_]
   refine bD_ 5 fun K hK=>?_
   refine wp_lit1 hB 144 _ rfl _ rfl (bsl8 _ _ _ _) (HC.out.kept hB) ?_
   intro x1 wA hL1 hbA hBA
   replace hB:=hBA
   replace hG2:=hG2.kept hbA
   try replace hL2:=hL2.kept hbA
   try replace hL3:=hL3.kept hbA
   refine hK.out _ _ hB ?_
   clear hK K
   try simp only[Act.put,pA_,pB_,pC_]
   refine bD_ 6 fun K hK=>?_
   go_simp
   refine(join_any _ _ _ _ hL1 HT1.out).mono ?_
   rintro e wq ⟨v1,rfl,hN1⟩
   have hO1:Ow 5 w.heap.size v1 ck wq:=(Ow.of_new hN1.one16).mono hB.size
   obtain⟨a1,d1,rfl, -⟩:=id hO1.rd
   replace hB:=stepB hB hN1.2
   replace hG2:=hG2.kept hN1.2
   try replace hL2:=hL2.kept hN1.2
   try replace hL3:=hL3.kept hN1.2
   clear hN1 hL1
   refine hK.out _ _ hB ?_
   clear hK K
   try simp only[Act.put,pA_,pB_,pC_]
   refine bD_ 13 fun K hK=>?_
   go_simp
   refine(join_any _ _ _ _ hL2 HT2.out).mono ?_
   rintro e wq ⟨v2,rfl,hN1⟩
   have hO2:Ow 5 w.heap.size v2 h wq:=(Ow.of_new hN1.one16).mono hB.size
   obtain⟨a2,d2,rfl, -⟩:=id hO2.rd
   replace hB:=stepB hB hN1.2
   replace hG2:=hG2.kept hN1.2
   replace hO1:=hO1.kept hN1.2
   try replace hL3:=hL3.kept hN1.2
   clear hN1 hL2
   refine hK.out _ _ hB ?_
   clear hK K
   try simp only[Act.put,pA_,pB_,pC_]
   refine bD_ 21 fun K hK=>?_
   go_simp
   refine(join_any _ _ _ _ hL3 HT3.out).mono ?_
   rintro e wq ⟨v3,rfl,hN1⟩
   have hO3:Ow 5 w.heap.size v3 key wq:=(Ow.of_new hN1.one16).mono hB.size
   obtain⟨a3,d3,rfl, -⟩:=id hO3.rd
   replace hB:=stepB hB hN1.2
   replace hG2:=hG2.kept hN1.2
   replace hO1:=hO1.kept hN1.2
   replace hO2:=hO2.kept hN1.2
   clear hN1 hL3
   refine hK.out _ _ hB ?_
   clear hK K
   try simp only[Act.put,pA_,pB_,pC_]
   refine bU_ hB 28 rfl ⟨_,by intro W hW;exact exec_build 61 _ rfl #[(0,.slice a3 key.length d3),(1,.int .u64 (n:Int))] (by go_simp) _ (build_kn _ _ _ _ _),?_⟩
   try simp only[Act.put,pA_,pB_,pC_]
   refine bU_ hB 29 rfl ⟨_,by intro W hW;exact exec_build 97 _ rfl #[(0,.slice a1 ck.length d1),(1,.slice a2 h.length d2),(2,.agg #[.slice a3 key.length d3,.int .u64 (n:Int)])] (by go_simp) _ (build_st3 _ _ _ _ _ _ _ _ _ _ _),?_⟩
   try simp only[Act.put,pA_,pB_,pC_]
   refine bU_ hB 30 rfl ⟨_,by intro W hW;go_simp<;>with_reducible rfl,?_⟩
   try simp only[Act.put,pA_,pB_,pC_]
   refine bD_ 31 fun K hK=>?_
   refine wp_store_part 97 _ _ rfl rfl (stD (.slice a1 ck.length d1) (.slice a2 h.length d2) (.slice a3 key.length d3) n) rfl [.bool i,.slice am lm cm] (stD (.slice ac ck.length cc) (.slice ah h.length ch) (.slice ak key.length ck') n) post (shD (.bool i) (.slice am lm cm) post (.slice a1 ck.length d1) (.slice a2 h.length d2) (.slice a3 key.length d3) n) hG2 rfl rfl rfl rfl info_kc2 (stD_one _ _ _ _ _ _ _ _ _ _) ?_
   intro w6 r6 hw6
   have c6:=Chg.of_wrote hw6
   replace hB:=Chg.gone hB c6 hB.size HG2.out
   refine hK.out _ _ hB ?_
   clear hK K
   try simp only[Act.put,pA_,pB_,pC_]
   refine wpB_done (by kernel_rfl) ?_
   go_wp2
   go_ret
   exact⟨g2,rfl,HG2.out,⟨_,_,_,r6,hO1.chg hG2 ne_shake c6,hO2.chg hG2 ne_shake c6,hO3.chg hG2 ne_shake c6⟩,hB⟩

set_option maxRecDepth 100000 in
set_option maxHeartbeats 4000000 in
theorem settle_any (g g2:Nat) (hne:g≠g2) (i:Bool) (vm:Value) (post:List Value) (s:Sta) (p:Ptn) (cs:List Value) (vt:Value) (w w0:World) (hB:BlkAt g 101 cs w) (hcs:cs.length=23) (hS:StH w0.heap.size g2 (.bool i) vm post s w) (hM:MsR w vm p) (hp:Sls 17 post):
  Calls Tryz.prog 30 #[.pointer (some ⟨g,0,none⟩),.pointer (some ⟨g2,0,none⟩),vt,.int .i64 0] w fun e w'=>e=.returned (.tuple #[vt,.int .i64 0])∧StH w0.heap.size g (.bool i) vm post s w'∧Chg (fun b=>b=g) w w':=by
 obtain⟨am,lm,cm,rfl⟩:=hM.sl
 obtain⟨vc,vh,vk,hB0,hc,hh,hk⟩:=hS
 obtain⟨ac,cc,rfl, -⟩:=id hc.rd
 obtain⟨ah,ch,rfl, -⟩:=id hh.rd
 obtain⟨ak,ck',rfl, -⟩:=id hk.rd
 obtain⟨X,hX⟩:∃X,X=shD (.bool i) (.slice am lm cm) post (.slice ac s.ck.length cc) (.slice ah s.h.length ch) (.slice ak s.c.key.length ck') s.c.n:=⟨_,rfl⟩
 have hXl:X.length=23:=by rw[hX];simp[shD,hp.len]
 have hXo:X.toArray.all (·.oneCell')=true:=by rw[hX];exact shD_one _ hp _ _ _ _ _ _ _ _ _ _ _ _ _
 have hXi:(Tryz.prog.info? 101).map (·.size)=some X.length:=by rw[hX];exact infoSh _ _ hp _ _ _ _
 rw[←hX] at hB0
 have HX:Hid (X=shD (.bool i) (.slice am lm cm) post (.slice ac s.ck.length cc) (.slice ah s.h.length ch) (.slice ak s.c.key.length ck') s.c.n):=hX
 have HC:Hid (Ow 5 w0.heap.size _ s.ck w):=hc
 have HH:Hid (Ow 5 w0.heap.size _ s.h w):=hh
 have HK:Hid (Ow 5 w0.heap.size _ s.c.key w):=hk
 have HCs:Hid (X.length=cs.length):=(by rw[hXl,hcs]:X.length=cs.length)
 have HI:Hid ((Tryz.prog.info? 101).map (·.size)=some cs.length):=(by rw[hXi,hXl,hcs]:(Tryz.prog.info? 101).map (·.size)=some cs.length)
 have HXo:Hid (X.toArray.all (·.oneCell')=true):=hXo
 have HXi:Hid ((Tryz.prog.info? 101).map (·.size)=some X.length):=hXi
 clear hM hc hh hk hX hXl hXo hXi hcs hp
 go_enter Tryz.func30,Tryz.ntmps30
 go_wp2_with (first
  |refine wpList_load_part rfl 101 _ rfl rfl [] X [] hB0 (by simp) rfl Tryz.underlying101 rfl HXi.out ?_
  |(refine wpList_store_part rfl 101 _ _ rfl rfl X rfl [] cs [] X hB (by simp) (by simp) rfl HCs.out HI.out HXo.out ?_;intro w2 r2 hw2))
 go_ret2
 have c6:=Chg.of_wrote hw2
 refine⟨rfl,⟨_,_,_,by rw[HX.out] at r2;exact r2,HC.out.chg hB ne_shake c6,HH.out.chg hB ne_shake c6,HK.out.chg hB ne_shake c6⟩,c6⟩
abbrev poC (f:Nat→FZ):List Value:=(gI (fzF f)).map (Value.int .i64)
theorem poC_length (f:Nat→FZ):(poC f).length=256:=by rw[List.length_map,gI_length]
def prC13 (g:Nat→Nat→FZ):Nat→List Value
 |0=>[]
 |i+1=>prC13 g i++poC (g i)
theorem prC13_length (g:Nat→Nat→FZ):∀i,(prC13 g i).length=256 * i
 |0=>rfl
 |i+1=>by
  rw[prC13,List.length_append,prC13_length g i,poC_length]
  omega
theorem prC13_split (g:Nat→Nat→FZ) (j:Nat):∀n,j<n→∃post,prC13 g n=prC13 g j++poC (g j)++post
 |0,h=>by omega
 |n+1,h=>by
  by_cases e:j=n
  ·subst e
   exact⟨[],by rw[List.append_nil];rfl⟩
  ·obtain⟨post,hp⟩:=prC13_split g j n (by omega)
   exact⟨post++poC (g n),by rw[prC13,hp,List.append_assoc]⟩
abbrev rwC (g:Nat→Nat→FZ):List Value:=prC13 g 3
abbrev rwV (g:Nat→Nat→FZ):Value:=.agg (rwC g).toArray
theorem poC_one (f:Nat→FZ):∀v∈poC f,v.oneCell'=true:=by
 intro v hv
 obtain⟨x,_,rfl⟩:=List.mem_map.1 hv
 rfl
theorem poC_all (f:Nat→FZ):(poC f).toArray.all (·.oneCell')=true:=all_oneCell_toArray (poC_one f)
theorem prC13_one (g:Nat→Nat→FZ):∀n,∀v∈prC13 g n,v.oneCell'=true
 |0,v,hv=>by cases hv
 |n+1,v,hv=>by
  rcases List.mem_append.1 hv with h|h
  ·exact prC13_one g n v h
  ·exact poC_one _ v h
theorem rwC_all (g:Nat→Nat→FZ):(rwC g).toArray.all (·.oneCell')=true:=all_oneCell_toArray (prC13_one g 3)
theorem prC13_congr {g h:Nat→Nat→FZ}:∀n,(∀i,i<n→g i=h i)→prC13 g n=prC13 h n
 |0,_=>rfl
 |n+1,e=>by rw[prC13,prC13,prC13_congr n (fun i hi=>e i (by omega)),e n (by omega)]
def ftR (g:Nat→Nat→FZ) (i j:Nat):Nat→FZ:=if j<i then g j else fun _=>0
theorem ftR_zero (g:Nat→Nat→FZ):ftR g 0=fun _ _=>0:=by
 funext j
 unfold ftR
 rw[if_neg (by omega)]
theorem ftR_end (g:Nat→Nat→FZ):rwC (ftR g 3)=rwC g:=prC13_congr 3 fun i hi=>by
 unfold ftR
 rw[if_pos hi]
theorem ftR_step (g:Nat→Nat→FZ) (i:Nat) (hi:i<3):∃post,rwC (ftR g i)=prC13 g i++poC (fun _=>0)++post∧rwC (ftR g (i+1))=prC13 g i++poC (g i)++post:=by
 have h0:prC13 (ftR g i) i=prC13 g i:=prC13_congr i fun j hj=>by unfold ftR;rw[if_pos hj]
 have h1:prC13 (ftR g (i+1)) i=prC13 g i:=prC13_congr i fun j hj=>by unfold ftR;rw[if_pos (by omega)]
 have e0:ftR g i i=fun _=>0:=by unfold ftR;rw[if_neg (by omega)]
 have e1:ftR g (i+1) i=g i:=by unfold ftR;rw[if_pos (by omega)]
 have e2:∀j,i<j→ftR g i j=ftR g (i+1) j:=fun j hj=>by unfold ftR;rw[if_neg (by omega),if_neg (by omega)]
 have key:∀n,i<n→∃post,prC13 (ftR g i) n=prC13 g i++poC (fun _=>0)++post∧prC13 (ftR g (i+1)) n=prC13 g i++poC (g i)++post:=by
  intro n
  induction n with
  |zero=>intro h;omega
  |succ n ih=>
   intro h
   by_cases e:n=i
   ·subst e
    exact⟨[],by rw[prC13,h0,e0,List.append_nil],by rw[prC13,h1,e1,List.append_nil]⟩
   ·obtain⟨post,p1,p2⟩:=ih (by omega)
    exact⟨post++poC (ftR g (i+1) n),by rw[prC13,p1,e2 n (by omega),List.append_assoc],by rw[prC13,p2,List.append_assoc]⟩
 exact key 3 hi
theorem wpList_box_val {P:Program} {ops:Array Oper} {rest:List Oper} {op:Oper} {a:Act} {w:World} {Q:Exit→Act→World→Prop} (hgd:op.guard=none) (ty:TypeId) (x:Operand) (ho:op.op=.box ty x) (v:Value)
  (hx:a.eval x=v) (hrun:(Instr.box ty v).run P w=.ok (.pointer (some ⟨w.heap.size,0,none⟩)) (w.alloc (.cells #[v] ty)))
  (h:∀w',BlkAt w.heap.size ty [v] w'→Below w.heap.size w w'→Hid (w'.heap.size=w.heap.size+1)→wpList P ops Q rest (a.put op.dst (.pointer (some ⟨w.heap.size,0,none⟩))) w'):wpList P ops Q (op :: rest) a w:=by
 refine wpList_plain hgd fun K hK=>?_
 unfold Oper.wp execOp
 simp only[ho,hx,Sem.run_bind,hrun,Result.andThen_ok,Sem.run_pure]
 exact hK _ _ (h _ (BlkAt.fresh rfl rfl) (growB _) (show _=_ by simp))
theorem BlkAt.one {g:Nat} {ty:TypeId} {v:Value} {w:World} (h:BlkAt g ty [v] w):w.cell? ⟨g,0,none⟩=some v:=by rw[h.cell];rfl
set_option maxRecDepth 100000 in
set_option maxHeartbeats 2000000 in
theorem ftake_any (A B:Array Value) (a b:List Nat) (ha:El4 a) (hb:El4 b) (hA:A=((nI a).map (Value.int .u64)).toArray) (hB:B=((nI b).map (Value.int .u64)).toArray) (w:World):
  Calls Tryz.prog 249 #[.agg A,.agg B] w fun e w'=>∃(r:List Nat) (o:Nat),e=.returned (.tuple #[elV r,.int .u64 (o:Int)])∧El4 r∧o≤1∧
   wv r+wv b=wv a+115792089237316195423570985008687907853269984665640564039457584007913129639936 * o∧Below w.heap.size w w':=by
 go_enter Tryz.func249,Tryz.ntmps249
 go_wp2_with (refine wpList_box_row (k:=.u64) rfl 157 _ rfl (nI a) (by rw[←hA];rfl) ha.ne (elMax ha) ?_)
 intro w1 r1 b1 s1
 rw[ha.len] at r1
 go_wp2_with (refine wpList_box_row (k:=.u64) rfl 157 _ rfl (nI b) (by rw[←hB];rfl) hb.ne (elMax hb) ?_)
 intro w2 r2 b2 s2
 rw[hb.len] at r2
 go_wp2_with (refine wpList_alloc_row (k:=.u64) rfl 157 rfl (nI z4) (alloc_el _) z4_el.ne (elMax z4_el) ?_)
 intro w3 r3 b3 s3
 rw[z4_el.len] at r3
 have hr1:=(r1.kept b2).kept b3
 have hr2:=r2.kept b3
 have hbw:=stepB (stepB b1 b2) b3
 have n1:w.heap.size<w1.heap.size:=by have:=s1.out;omega
 have n2:w1.heap.size<w2.heap.size:=by have:=s2.out;omega
 have HA:Hid (El4 a):=ha
 have HB:Hid (El4 b):=hb
 clear r1 r2 b1 b2 b3 s1 s2 s3 hA hB ha hb
 go_wp2
 go_loopw [8,6] (fun iv cv wx=>∃(i o:Nat) (cur:List Nat),i≤4∧iv=.int .i64 (i:Int)∧cv=.int .u64 (o:Int)∧o≤1∧Hid (El4 cur)∧Hid (wv cur+wv (b.take i)=wv a+18446744073709551616 ^ i * o)∧
  RowAt .u64 157 w.heap.size 4 (nI cur) wx∧RowAt .u64 157 w1.heap.size 4 (nI b) wx∧RowAt .u64 157 w2.heap.size 4 (nI z4) wx∧Below w.heap.size w wx) (fun iv _ _=>4 - (intOf iv).toNat)
 case atStart=>exact⟨0,0,a,by omega,rfl,rfl,by omega,HA,(by show _=_;rw[Nat.mul_zero,List.take_zero];rfl),hr1,hr2,r3,hbw⟩
 case round=>
  obtain⟨i,o,cur,hi,rfl,rfl,ho,HC,HE,ra,rb,rz,hbx⟩:=hrel
  clear hr1 hr2 r3 hbw
  by_cases hlt:i<4
  ·have hd:decide ((i:Int)<4)=true:=decide_eq_true (by omega)
   have hiI:(i:Int)<4:=by omega
   have hcb:=rb.cell (j:=i) (by rw[nI_length,HB.out.1];exact hlt)
   have hca:=ra.cell (j:=i) (by rw[nI_length,HC.out.1];exact hlt)
   have hfa:=ra.free i
   rw[nI_get] at hcb hca
   have hy:=HB.out.get i
   have hq:=HC.out.get i
   have HS:Hid (∀s o':Nat,s<18446744073709551616→s+b.getD i 0+o=cur.getD i 0+18446744073709551616 * o'→El4 (cur.set i s)∧wv (cur.set i s)+wv (b.take (i+1))=wv a+18446744073709551616 ^ (i+1) * o'):=by
    intro s o' hs he
    exact⟨HC.out.set i hs,tk_step cur b i o o' s (wv a) (by rw[HC.out.1];exact hlt) (by rw[HB.out.1];exact hlt) he HE.out⟩
   have HR:Hid (∀(W:World) (s:Nat),RowAt .u64 157 w.heap.size 4 (nI cur) W→RowAt .u64 157 w.heap.size 4 (nI (cur.set i s)) (W.setCell ⟨w.heap.size,i,none⟩ (.int .u64 (s:Int)))):=fun W s h=>by
    rw[←nI_set]
    exact h.set i _
   have HRb:Hid (∀(W:World) (u:Value),Below wr.heap.size wr W→RowAt .u64 157 w1.heap.size 4 (nI b) (W.setCell ⟨w.heap.size,i,none⟩ u)∧RowAt .u64 157 w2.heap.size 4 (nI z4) (W.setCell ⟨w.heap.size,i,none⟩ u)∧Below w.heap.size w (W.setCell ⟨w.heap.size,i,none⟩ u)):=fun W u hW=>
    ⟨(rb.kept hW).other (p:=⟨w.heap.size,i,none⟩) (by show w.heap.size≠_;omega) u,(rz.kept hW).other (p:=⟨w.heap.size,i,none⟩) (by show w.heap.size≠_;omega) u,(Wrote.set w.heap.size i W u).below _ _ (Nat.le_refl _) (stepB hbx hW)⟩
   generalize b.getD i 0=y at hcb hy HS
   generalize cur.getD i 0=q at hca hq HS
   obtain⟨s2,o2,hs2,ho2,he2,run1⟩:=sub64_run q y o hq hy ho
   obtain⟨k1,k3⟩:=HS.out s2 o2 hs2 he2
   have K1:Hid (El4 (cur.set i s2)):=k1
   have K3:Hid _:=k3
   have HRA:Hid _:=ra
   clear rb rz hbx HE k1 k3 HS he2 ra
   go_wp2_with fail
   have hB:Below wr.heap.size wr wr.drew:=(Below.refl _ _).drew
   refine wpF_begin 13 (w0:=wr) (by kernel_rfl) ?_
   refine fP_ (.inr hB) 0 rfl ⟨_,by intro W;go_simp<;>with_reducible rfl,?_⟩
   try simp only[Act.put,pA_,pB_,pC_]
   refine fP_ (.inr hB) 1 rfl ⟨_,by intro W;go_simp<;>with_reducible rfl,?_⟩
   try simp only[Act.put,pA_,pB_,pC_]
   refine fP_ (.inr hB) 2 rfl ⟨_,by intro W;go_simp<;>with_reducible rfl,?_⟩
   try simp only[Act.put,pA_,pB_,pC_]
   refine fU_ hB 3 rfl ⟨_,by intro W hW;have hcW:=cellK hca hW;go_simp<;>with_reducible rfl,?_⟩
   try simp only[Act.put,pA_,pB_,pC_]
   refine fP_ (.inr hB) 4 rfl ⟨_,by intro W;go_simp<;>with_reducible rfl,?_⟩
   try simp only[Act.put,pA_,pB_,pC_]
   refine fP_ (.inr hB) 5 rfl ⟨_,by intro W;go_simp<;>with_reducible rfl,?_⟩
   try simp only[Act.put,pA_,pB_,pC_]
   refine fU_ hB 6 rfl ⟨_,by intro W hW;have hcW:=cellK hcb hW;go_simp<;>with_reducible rfl,?_⟩
   try simp only[Act.put,pA_,pB_,pC_]
   refine fP_ (.inr hB) 7 rfl ⟨_,by intro W;go_simp<;>with_reducible rfl,?_⟩
   try simp only[Act.put,pA_,pB_,pC_]
   refine fD_ 8 fun K hK=>?_
   go_simp
   refine hK.out _ _ (.inr hB) ?_
   clear hK K
   try simp only[Act.put,pA_,pB_,pC_]
   refine fP_ (.inr hB) 9 rfl ⟨_,by intro W;go_simp<;>with_reducible rfl,?_⟩
   try simp only[Act.put,pA_,pB_,pC_]
   refine fP_ (.inr hB) 10 rfl ⟨_,by intro W;go_simp<;>with_reducible rfl,?_⟩
   try simp only[Act.put,pA_,pB_,pC_]
   refine fP_ (.inr hB) 11 rfl ⟨_,by intro W;go_simp<;>with_reducible rfl,?_⟩
   try simp only[Act.put,pA_,pB_,pC_]
   refine fP_ (.inr hB) 12 rfl ⟨_,by intro W;go_simp<;>with_reducible rfl,?_⟩
   try simp only[Act.put,pA_,pB_,pC_]
   refine fD_ 13 fun K hK=>?_
   go_simp
   refine hK.out _ _ (.inl rfl) ?_
   clear hK K
   try simp only[Act.put,pA_,pB_,pC_]
   refine fP_ (.inl (by kernel_rfl)) 14 rfl ⟨_,by intro W;go_simp<;>with_reducible rfl,?_⟩
   try simp only[Act.put,pA_,pB_,pC_]
   refine wpF_done (by kernel_rfl) ?_
   have hR:=HR.out _ s2 HRA.out.drew
   obtain⟨hRb,hRz,hbn⟩:=HRb.out _ (.int .u64 (s2:Int)) hB
   go_wp2
   go_roundw
   case rel=>exact⟨i+1,o2,cur.set i s2,by omega,by go_num,rfl,ho2,K1,K3,hR,hRb,hRz,hbn⟩
   case measure=>simp[intOf]<;>omega
  ·have hie:i=4:=by omega
   have hd:decide ((i:Int)<4)=false:=decide_eq_false (by omega)
   have hiI:(4:Int)≤(i:Int):=by omega
   have HE2:Hid (wv cur+wv b=wv a+115792089237316195423570985008687907853269984665640564039457584007913129639936 * o):=by
    have:=HE.out
    rw[hie,List.take_of_length_le (by rw[HB.out.1];exact Nat.le_refl _)] at this
    exact this
   clear HE hie
   go_wp2_with (first|refine wpList_load_row rfl 157 _ rfl rfl ra _ Tryz.underlying157 rfl (elInfo HC.out) ?_|(refine wpList_store_row rfl 157 _ _ rfl (nI cur) rfl rfl rz (by rw[z4_el.len,HC.out.len]) (elInfo z4_el) ?_;intro w6 r6 hw6))
   refine bodyPost_row2 (p:=4) (q:=5) (ty:=157) rfl rfl rfl rfl r6 Tryz.underlying157 rfl (elInfo HC.out) ?_
   exact⟨cur,o,rfl,HC.out,ho,HE2.out,hw6.below _ _ (by omega) hbx⟩

def c38:List Nat:=[38,0,0,0]
theorem c38_el:El4 c38:=El4.mk4 (by decide) (by decide) (by decide) (by decide)
theorem c38_wv:wv c38=38:=by decide
set_option maxRecDepth 100000 in
set_option maxHeartbeats 2000000 in
theorem fold_any (A:Array Value) (a:List Nat) (t:Nat) (T:Int) (ha:El4 a) (ht:t<18446744073709551616) (hA:A=((nI a).map (Value.int .u64)).toArray) (hT:T=(t:Int)) (w:World):
  Calls Tryz.prog 360 #[.agg A,.int .u64 T] w fun e w'=>∃r:List Nat,e=.returned (elV r)∧El4 r∧wv r % pN=(wv a+115792089237316195423570985008687907853269984665640564039457584007913129639936 * t) % pN∧Below w.heap.size w w':=by
 subst hT
 go_enter Tryz.func360,Tryz.ntmps360
 go_wp2_with (refine wpList_box_row (k:=.u64) rfl 157 _ rfl (nI a) (by rw[←hA];rfl) ha.ne (elMax ha) ?_)
 intro w1 r1 b1 s1
 rw[ha.len] at r1
 go_wp2_with (refine wpList_alloc_row (k:=.u64) rfl 157 rfl (nI z4) (alloc_el _) z4_el.ne (elMax z4_el) ?_)
 intro w2 r2 b2 s2
 rw[z4_el.len] at r2
 have ra:=r1.kept b2
 have hbw:=stepB b1 b2
 have n1:w.heap.size<w1.heap.size:=by have:=s1.out;omega
 clear r1 b1 b2 s1 s2
 go_wp2_with (refine wpList_load_row rfl 157 _ rfl rfl ra _ Tryz.underlying157 rfl (elInfo ha) ?_)
 refine(addTimes_any _ _ a c38 t _ ha c38_el ht rfl rfl rfl _).mono ?_
 rintro e w3 ⟨x1,c1,rfl,hx1,hc1,he1,b3⟩
 rw[c38_wv] at he1
 replace ra:=ra.kept b3
 replace r2:=r2.kept b3
 replace hbw:=stepB hbw b3
 have HE1:Hid _:=he1
 clear he1 b3
 go_wp2_with (refine wpList_store_row rfl 157 _ _ rfl (nI x1) rfl rfl ra (by rw[hx1.len,ha.len]) (elInfo ha) ?_)
 intro w4 ra4 hw4
 replace r2:=r2.wrote hw4 (by omega)
 replace hbw:=hw4.below _ _ (Nat.le_refl _) hbw
 clear ra hw4
 go_wp2_with (refine wpList_load_row rfl 157 _ rfl rfl ra4 _ Tryz.underlying157 rfl (elInfo hx1) ?_)
 refine(addTimes_any _ _ x1 c38 c1 _ hx1 c38_el hc1 rfl rfl rfl _).mono ?_
 rintro e w5 ⟨x2,c2,rfl,hx2,hc2,he2,b5⟩
 rw[c38_wv] at he2
 replace ra4:=ra4.kept b5
 replace r2:=r2.kept b5
 replace hbw:=stepB hbw b5
 have HF:Hid (wv x2 % pN=(wv a+115792089237316195423570985008687907853269984665640564039457584007913129639936 * t) % pN):=fold_math _ _ _ _ _ _ ha.lt ht HE1.out he2 hx1.lt hx2.lt
 clear he2 HE1 b5
 go_wp2_with (refine wpList_store_row rfl 157 _ _ rfl (nI x2) rfl rfl ra4 (by rw[hx1.len,hx2.len]) (elInfo hx1) ?_)
 intro w6 ra6 hw6
 replace r2:=r2.wrote hw6 (by omega)
 replace hbw:=hw6.below _ _ (Nat.le_refl _) hbw
 clear ra4 hw6
 go_wp2_with (first|refine wpList_load_row rfl 157 _ rfl rfl ra6 _ Tryz.underlying157 rfl (elInfo hx2) ?_|(refine wpList_store_row rfl 157 _ _ rfl (nI x2) rfl rfl r2 (by rw[z4_el.len,hx2.len]) (elInfo z4_el) ?_;intro w7 r7 hw7))
 refine bodyPost_row (p:=4) (ty:=157) rfl rfl rfl r7 Tryz.underlying157 rfl (elInfo hx2) ?_
 exact⟨x2,rfl,hx2,HF.out,hw7.below _ _ (by omega) hbw⟩
set_option maxRecDepth 100000 in
set_option maxHeartbeats 2000000 in
theorem fadd_any (A B:Array Value) (a b:List Nat) (ha:El4 a) (hb:El4 b) (hA:A=((nI a).map (Value.int .u64)).toArray) (hB:B=((nI b).map (Value.int .u64)).toArray) (w:World):
  Calls Tryz.prog 357 #[.agg A,.agg B] w fun e w'=>∃r:List Nat,e=.returned (elV r)∧El4 r∧wv r % pN=(wv a+wv b) % pN∧Below w.heap.size w w':=by
 go_enter Tryz.func357,Tryz.ntmps357
 go_wp2_with (refine wpList_box_row (k:=.u64) rfl 157 _ rfl (nI a) (by rw[←hA];rfl) ha.ne (elMax ha) ?_)
 intro w1 r1 b1 s1
 rw[ha.len] at r1
 go_wp2_with (refine wpList_box_row (k:=.u64) rfl 157 _ rfl (nI b) (by rw[←hB];rfl) hb.ne (elMax hb) ?_)
 intro w2 r2 b2 s2
 rw[hb.len] at r2
 go_wp2_with (refine wpList_alloc_row (k:=.u64) rfl 157 rfl (nI z4) (alloc_el _) z4_el.ne (elMax z4_el) ?_)
 intro w3 r3 b3 s3
 rw[z4_el.len] at r3
 have hr1:=(r1.kept b2).kept b3
 have hr2:=r2.kept b3
 have hbw:=stepB (stepB b1 b2) b3
 have n1:w.heap.size<w1.heap.size:=by have:=s1.out;omega
 have n2:w1.heap.size<w2.heap.size:=by have:=s2.out;omega
 clear r1 r2 b1 b2 b3 s1 s2 s3
 go_wp2_with (first|refine wpList_load_row rfl 157 _ rfl rfl hr1 _ Tryz.underlying157 rfl (elInfo ha) ?_|refine wpList_load_row rfl 157 _ rfl rfl hr2 _ Tryz.underlying157 rfl (elInfo hb) ?_)
 refine(addTimes_any _ _ a b 1 _ ha hb (by decide) rfl rfl rfl _).mono ?_
 rintro e w4 ⟨x1,c1,rfl,hx1,hc1,he1,b4⟩
 have HE1:Hid _:=he1
 replace r3:=r3.kept b4
 replace hbw:=stepB hbw b4
 clear he1 hr1 hr2 b4
 go_wp2_with fail
 refine(fold_any _ x1 c1 _ hx1 hc1 rfl rfl _).mono ?_
 rintro e w5 ⟨x2,rfl,hx2,he2,b5⟩
 have HE2:Hid (wv x2 % pN=(wv a+wv b) % pN):=by
  show _=_
  rw[he2,HE1.out,Nat.one_mul]
 replace r3:=r3.kept b5
 replace hbw:=stepB hbw b5
 clear he2 HE1 b5
 go_wp2_with (refine wpList_store_row rfl 157 _ _ rfl (nI x2) rfl rfl r3 (by rw[z4_el.len,hx2.len]) (elInfo z4_el) ?_;intro w7 r7 hw7)
 refine bodyPost_row (p:=4) (ty:=157) rfl rfl rfl r7 Tryz.underlying157 rfl (elInfo hx2) ?_
 exact⟨x2,rfl,hx2,HE2.out,hw7.below _ _ (by omega) hbw⟩

theorem small4 (n:Nat) (h:n<18446744073709551616):El4 [n,0,0,0]:=El4.mk4 h (by decide) (by decide) (by decide)

set_option maxRecDepth 100000 in
set_option maxHeartbeats 2000000 in
theorem fsub_any (A B:Array Value) (a b:List Nat) (ha:El4 a) (hb:El4 b) (hA:A=((nI a).map (Value.int .u64)).toArray) (hB:B=((nI b).map (Value.int .u64)).toArray) (w:World):
  Calls Tryz.prog 358 #[.agg A,.agg B] w fun e w'=>∃r:List Nat,e=.returned (elV r)∧El4 r∧(wv r+wv b) % pN=wv a % pN∧Below w.heap.size w w':=by
 go_enter Tryz.func358,Tryz.ntmps358
 go_wp2_with (refine wpList_box_row (k:=.u64) rfl 157 _ rfl (nI a) (by rw[←hA];rfl) ha.ne (elMax ha) ?_)
 intro w1 r1 b1 s1
 rw[ha.len] at r1
 go_wp2_with (refine wpList_box_row (k:=.u64) rfl 157 _ rfl (nI b) (by rw[←hB];rfl) hb.ne (elMax hb) ?_)
 intro w2 r2 b2 s2
 rw[hb.len] at r2
 go_wp2_with (refine wpList_alloc_row (k:=.u64) rfl 157 rfl (nI z4) (alloc_el _) z4_el.ne (elMax z4_el) ?_)
 intro w3 r3 b3 s3
 rw[z4_el.len] at r3
 have hr1:=(r1.kept b2).kept b3
 have hr2:=r2.kept b3
 have hbw:=stepB (stepB b1 b2) b3
 have n1:w.heap.size<w1.heap.size:=by have:=s1.out;omega
 have n2:w1.heap.size<w2.heap.size:=by have:=s2.out;omega
 clear r1 r2 b1 b2 b3 s1 s2 s3
 go_wp2_with (first|refine wpList_load_row rfl 157 _ rfl rfl hr1 _ Tryz.underlying157 rfl (elInfo ha) ?_|refine wpList_load_row rfl 157 _ rfl rfl hr2 _ Tryz.underlying157 rfl (elInfo hb) ?_)
 refine(ftake_any _ _ a b ha hb rfl rfl _).mono ?_
 rintro e w4 ⟨x1,o1,rfl,hx1,ho1,he1,b4⟩
 have HE1:Hid _:=he1
 replace hr1:=hr1.kept b4
 replace r3:=r3.kept b4
 replace hbw:=stepB hbw b4
 clear he1 hr2 b4
 go_wp2_with (refine wpList_store_row rfl 157 _ _ rfl (nI x1) rfl rfl hr1 (by rw[hx1.len,ha.len]) (elInfo ha) ?_)
 intro w5 ra hw5
 replace r3:=r3.wrote hw5 (by omega)
 replace hbw:=hw5.below _ _ (Nat.le_refl _) hbw
 clear hr1 hw5
 obtain⟨m1,hm1⟩:∃n:Nat,n=38 * o1:=⟨_,rfl⟩
 have q1:IntKind.u64.wrap (38 * (o1:Int))=(m1:Int):=by rw[IntKind.wrap_u64];omega
 have hq1:=small4 m1 (by omega)
 have HM1:Hid _:=hm1
 clear hm1
 go_wp2_with (refine wpList_load_row rfl 157 _ rfl rfl ra _ Tryz.underlying157 rfl (elInfo hx1) ?_)
 refine(ftake_any _ _ x1 [m1,0,0,0] hx1 hq1 rfl rfl _).mono ?_
 rintro e w6 ⟨x2,o2,rfl,hx2,ho2,he2,b6⟩
 have HE2:Hid _:=he2
 replace ra:=ra.kept b6
 replace r3:=r3.kept b6
 replace hbw:=stepB hbw b6
 clear he2 b6 q1 hq1
 go_wp2_with (refine wpList_store_row rfl 157 _ _ rfl (nI x2) rfl rfl ra (by rw[hx1.len,hx2.len]) (elInfo hx1) ?_)
 intro w7 ra7 hw7
 replace r3:=r3.wrote hw7 (by omega)
 replace hbw:=hw7.below _ _ (Nat.le_refl _) hbw
 clear ra hw7
 obtain⟨m2,hm2⟩:∃n:Nat,n=38 * o2:=⟨_,rfl⟩
 have q2:IntKind.u64.wrap (38 * (o2:Int))=(m2:Int):=by rw[IntKind.wrap_u64];omega
 have hq2:=small4 m2 (by omega)
 have HM2:Hid _:=hm2
 clear hm2
 go_wp2_with (refine wpList_load_row rfl 157 _ rfl rfl ra7 _ Tryz.underlying157 rfl (elInfo hx2) ?_)
 refine(ftake_any _ _ x2 [m2,0,0,0] hx2 hq2 rfl rfl _).mono ?_
 rintro e w8 ⟨x3,o3,rfl,hx3,ho3,he3,b8⟩
 replace ra7:=ra7.kept b8
 replace r3:=r3.kept b8
 replace hbw:=stepB hbw b8
 have HE3:Hid ((wv x3+wv b) % pN=wv a % pN):=by
  have h2:=HE2.out
  rw[wv_small,HM1.out] at h2
  rw[wv_small,HM2.out] at he3
  exact sub_math _ _ _ _ _ _ _ _ ha.lt hb.lt hx1.lt hx2.lt hx3.lt HE1.out h2 he3 ho1 ho2 ho3
 clear he3 b8 q2 hq2 HE1 HE2 HM1 HM2
 go_wp2_with (refine wpList_store_row rfl 157 _ _ rfl (nI x3) rfl rfl ra7 (by rw[hx3.len,hx2.len]) (elInfo hx2) ?_)
 intro w9 ra9 hw9
 replace r3:=r3.wrote hw9 (by omega)
 replace hbw:=hw9.below _ _ (Nat.le_refl _) hbw
 clear ra7 hw9
 go_wp2_with (first|refine wpList_load_row rfl 157 _ rfl rfl ra9 _ Tryz.underlying157 rfl (elInfo hx3) ?_|(refine wpList_store_row rfl 157 _ _ rfl (nI x3) rfl rfl r3 (by rw[z4_el.len,hx3.len]) (elInfo z4_el) ?_;intro w10 r10 hw10))
 refine bodyPost_row (p:=4) (ty:=157) rfl rfl rfl r10 Tryz.underlying157 rfl (elInfo hx3) ?_
 exact⟨x3,rfl,hx3,HE3.out,hw10.below _ _ (by omega) hbw⟩

def mixL (x a:List Nat) (i:Nat):List Nat:=x.take i++a.drop i
theorem mixL_zero (x a:List Nat):mixL x a 0=a:=by simp[mixL]
theorem mixL_full {x a:List Nat} (hx:El4 x) (ha:El4 a):mixL x a 4=x:=by
 unfold mixL
 rw[List.take_of_length_le (by rw[hx.1];exact Nat.le_refl _),List.drop_eq_nil_of_le (by rw[ha.1];exact Nat.le_refl _),List.append_nil]
theorem mixL_get {x a:List Nat} (hx:El4 x) (ha:El4 a) (i:Nat) (hi:i<4):(mixL x a i).getD i 0=a.getD i 0:=by
 have h1:(x.take i).length=i:=by rw[List.length_take,hx.1];omega
 unfold mixL
 rw[List.getD_eq_getElem?_getD,List.getElem?_append_right (by omega),h1,Nat.sub_self]
 simp
theorem mixL_set {x a:List Nat} (hx:El4 x) (ha:El4 a) (i:Nat) (hi:i<4):(mixL x a i).set i (x.getD i 0)=mixL x a (i+1):=by
 have h1:(x.take i).length=i:=by rw[List.length_take,hx.1];omega
 have h2:i<x.length:=by rw[hx.1];exact hi
 have h3:i<a.length:=by rw[ha.1];exact hi
 unfold mixL
 rw[List.set_append_right _ _ (by omega),h1,Nat.sub_self,List.drop_eq_getElem_cons h3,List.set_cons_zero,List.take_succ_eq_append_getElem h2,List.append_assoc]
 simp[h2]
theorem mixL_len {x a:List Nat} (hx:El4 x) (ha:El4 a) (i:Nat) (hi:i≤4):(nI (mixL x a i)).length=4:=by
 rw[nI_length]
 unfold mixL
 rw[List.length_append,List.length_take,List.length_drop,hx.1,ha.1]
 omega

theorem swp (M:Int) (x y x' y':Nat) (hx:x<18446744073709551616) (hy:y<18446744073709551616) (h:(M=0∧x'=x∧y'=y)∨(M=18446744073709551615∧x'=y∧y'=x)):
  ∃d:Nat,bits .and .u64 M (bits .xor .u64 (x:Int) (y:Int))=(d:Int)∧bits .xor .u64 (x:Int) (d:Int)=(x':Int)∧bits .xor .u64 (y:Int) (d:Int)=(y':Int):=by
 have hxy:x^^^y<18446744073709551616:=Nat.xor_lt_two_pow (n:=64) hx hy
 rw[u64_xor_nat x y hx hy]
 rcases h with ⟨hM,hx',hy'⟩|⟨hM,hx',hy'⟩
 ·refine⟨0,?_,?_,?_⟩
  ·rw[hM,show(0:Int)=((0:Nat):Int) from rfl,u64_and_nat 0 _ (by decide) hxy,Nat.zero_and]
  ·rw[u64_xor_nat _ 0 hx (by decide),Nat.xor_zero,hx']
  ·rw[u64_xor_nat _ 0 hy (by decide),Nat.xor_zero,hy']
 ·refine⟨x^^^y,?_,?_,?_⟩
  ·rw[hM,show(18446744073709551615:Int)=((18446744073709551615:Nat):Int) from rfl,u64_and_nat _ _ (by decide) hxy,Nat.and_comm,show(18446744073709551615:Nat)=2 ^ 64 - 1 from rfl,Nat.and_two_pow_sub_one_eq_mod,Nat.mod_eq_of_lt hxy]
  ·rw[u64_xor_nat _ _ hx hxy,←Nat.xor_assoc,Nat.xor_self,Nat.zero_xor,hx']
  ·rw[u64_xor_nat _ _ hy hxy,Nat.xor_comm x y,←Nat.xor_assoc,Nat.xor_self,Nat.zero_xor,hy']

set_option maxRecDepth 100000 in
set_option maxHeartbeats 2000000 in
theorem swap_in (bit m:Int) (A B:Array Value) (a b x y:List Nat) (ha:El4 a) (hb:El4 b) (hbit:(bit=0∧m=0∧x=a∧y=b)∨(bit=1∧m=18446744073709551615∧x=b∧y=a)) (hA:A=((nI a).map (Value.int .u64)).toArray) (hB:B=((nI b).map (Value.int .u64)).toArray) (w:World):
  Calls Tryz.prog 250 #[.int .i64 bit,.agg A,.agg B] w fun e w'=>e=.returned (.tuple #[elV x,elV y])∧Below w.heap.size w w':=by
 have hx:El4 x:=by rcases hbit with ⟨-, -,rfl, -⟩|⟨-, -,rfl, -⟩<;>assumption
 have hy:El4 y:=by rcases hbit with ⟨-, -, -,rfl⟩|⟨-, -, -,rfl⟩<;>assumption
 have HW:Hid (∀i,∃d:Nat,bits .and .u64 m (bits .xor .u64 ((a.getD i 0:Nat):Int) ((b.getD i 0:Nat):Int))=(d:Int)∧bits .xor .u64 ((a.getD i 0:Nat):Int) (d:Int)=((x.getD i 0:Nat):Int)∧bits .xor .u64 ((b.getD i 0:Nat):Int) (d:Int)=((y.getD i 0:Nat):Int)):=fun i=>by
  refine swp m _ _ _ _ (ha.get i) (hb.get i) ?_
  rcases hbit with ⟨-,h,rfl,rfl⟩|⟨-,h,rfl,rfl⟩
  ·exact .inl ⟨h,rfl,rfl⟩
  ·exact .inr ⟨h,rfl,rfl⟩
 have HX:Hid (El4 x):=hx
 have HY:Hid (El4 y):=hy
 have HA:Hid (El4 a):=ha
 have HB:Hid (El4 b):=hb
 have hb01:(bit=0∧m=0)∨(bit=1∧m=18446744073709551615):=by rcases hbit with ⟨h,h', -⟩|⟨h,h', -⟩<;>simp[h,h']
 clear hbit hx hy
 go_enter Tryz.func250,Tryz.ntmps250
 go_wp2_with (refine wpList_box_row (k:=.u64) rfl 157 _ rfl (nI a) (by rw[←hA];rfl) ha.ne (elMax ha) ?_)
 intro w1 r1 b1 s1
 rw[ha.len] at r1
 go_wp2_with (refine wpList_box_row (k:=.u64) rfl 157 _ rfl (nI b) (by rw[←hB];rfl) hb.ne (elMax hb) ?_)
 intro w2 r2 b2 s2
 rw[hb.len] at r2
 go_wp2_with (refine wpList_alloc_row (k:=.u64) rfl 157 rfl (nI z4) (alloc_el _) z4_el.ne (elMax z4_el) ?_)
 intro w3 r3 b3 s3
 rw[z4_el.len] at r3
 go_wp2_with (refine wpList_alloc_row (k:=.u64) rfl 157 rfl (nI z4) (alloc_el _) z4_el.ne (elMax z4_el) ?_)
 intro w4 r4 b4 s4
 rw[z4_el.len] at r4
 have hr1:=((r1.kept b2).kept b3).kept b4
 have hr2:=(r2.kept b3).kept b4
 have hr3:=r3.kept b4
 have hbw:=stepB (stepB (stepB b1 b2) b3) b4
 have n1:w.heap.size<w1.heap.size:=by have:=s1.out;omega
 have n2:w1.heap.size<w2.heap.size:=by have:=s2.out;omega
 have n3:w2.heap.size<w3.heap.size:=by have:=s3.out;omega
 clear r1 r2 r3 b1 b2 b3 b4 s1 s2 s3 s4 hA hB ha hb
 rw[←mixL_zero x a] at hr1
 rw[←mixL_zero y b] at hr2
 have hm1:IntKind.u64.wrap (-1)=18446744073709551615:=by decide
 rcases hb01 with ⟨rfl,rfl⟩|⟨rfl,rfl⟩
 all_goals
  go_wp2
  go_loopw [22] (fun iv wx=>∃(i:Nat),i≤4∧iv=.int .i64 (i:Int)∧RowAt .u64 157 w.heap.size 4 (nI (mixL x a i)) wx∧RowAt .u64 157 w1.heap.size 4 (nI (mixL y b i)) wx∧RowAt .u64 157 w2.heap.size 4 (nI z4) wx∧RowAt .u64 157 w3.heap.size 4 (nI z4) wx∧Below w.heap.size w wx) (fun iv _=>4 - (intOf iv).toNat)
  case atStart=>exact⟨0,by omega,rfl,hr1,hr2,hr3,r4,hbw⟩
  case round=>
   obtain⟨i,hi,rfl,ra,rb,rc,rd,hbx⟩:=hrel
   clear hr1 hr2 hr3 r4 hbw
   by_cases hlt:i<4
   ·have hd:decide ((i:Int)<4)=true:=decide_eq_true (by omega)
    have hiI:(i:Int)<4:=by omega
    have hca:=ra.cell (j:=i) (by rw[mixL_len HX.out HA.out i hi];exact hlt)
    have hcb:=rb.cell (j:=i) (by rw[mixL_len HY.out HB.out i hi];exact hlt)
    have hfa:=ra.free i
    have hfb:=rb.free i
    rw[nI_get,mixL_get HX.out HA.out i hlt] at hca
    rw[nI_get,mixL_get HY.out HB.out i hlt] at hcb
    obtain⟨d,e1,e2,e3⟩:=HW.out i
    have HR:Hid (RowAt .u64 157 w.heap.size 4 (nI (mixL x a (i+1))) ((wr.setCell ⟨w.heap.size,i,none⟩ (.int .u64 ((x.getD i 0:Nat):Int))).setCell ⟨w1.heap.size,i,none⟩ (.int .u64 ((y.getD i 0:Nat):Int)))∧
      RowAt .u64 157 w1.heap.size 4 (nI (mixL y b (i+1))) ((wr.setCell ⟨w.heap.size,i,none⟩ (.int .u64 ((x.getD i 0:Nat):Int))).setCell ⟨w1.heap.size,i,none⟩ (.int .u64 ((y.getD i 0:Nat):Int)))∧
      RowAt .u64 157 w2.heap.size 4 (nI z4) ((wr.setCell ⟨w.heap.size,i,none⟩ (.int .u64 ((x.getD i 0:Nat):Int))).setCell ⟨w1.heap.size,i,none⟩ (.int .u64 ((y.getD i 0:Nat):Int)))∧
      RowAt .u64 157 w3.heap.size 4 (nI z4) ((wr.setCell ⟨w.heap.size,i,none⟩ (.int .u64 ((x.getD i 0:Nat):Int))).setCell ⟨w1.heap.size,i,none⟩ (.int .u64 ((y.getD i 0:Nat):Int)))∧
      Below w.heap.size w ((wr.setCell ⟨w.heap.size,i,none⟩ (.int .u64 ((x.getD i 0:Nat):Int))).setCell ⟨w1.heap.size,i,none⟩ (.int .u64 ((y.getD i 0:Nat):Int)))):=by
     refine⟨?_,?_,?_,?_,?_⟩
     ·have h1:=ra.set i ((x.getD i 0:Nat):Int)
      rw[nI_set,mixL_set HX.out HA.out i hlt] at h1
      exact h1.other (p:=⟨w1.heap.size,i,none⟩) (by show w1.heap.size≠_;omega) _
     ·have h1:=(rb.other (p:=⟨w.heap.size,i,none⟩) (by show w.heap.size≠_;omega) (.int .u64 ((x.getD i 0:Nat):Int))).set i ((y.getD i 0:Nat):Int)
      rw[nI_set,mixL_set HY.out HB.out i hlt] at h1
      exact h1
     ·exact(rc.other (p:=⟨w.heap.size,i,none⟩) (by show w.heap.size≠_;omega) _).other (p:=⟨w1.heap.size,i,none⟩) (by show w1.heap.size≠_;omega) _
     ·exact(rd.other (p:=⟨w.heap.size,i,none⟩) (by show w.heap.size≠_;omega) _).other (p:=⟨w1.heap.size,i,none⟩) (by show w1.heap.size≠_;omega) _
     ·exact(Wrote.set w1.heap.size i _ _).below _ _ (by omega) ((Wrote.set w.heap.size i _ _).below _ _ (Nat.le_refl _) hbx)
    have hne:w1.heap.size≠w.heap.size:=by omega
    generalize a.getD i 0=p at hca e1 e2
    generalize b.getD i 0=q at hcb e1 e3
    generalize x.getD i 0=p' at HR e2
    generalize y.getD i 0=q' at HR e3
    clear ra rb rc rd hbx
    go_wp2_with fail
    refine wpG_begin (by kernel_rfl) ?_
    refine gU_ 0 rfl ⟨_,by intro W hW;go_simp<;>with_reducible rfl,?_⟩
    try simp only[Act.put,pA_,pB_,pC_]
    refine gU_ 1 rfl ⟨_,by intro W hW;go_simp<;>with_reducible rfl,?_⟩
    try simp only[Act.put,pA_,pB_,pC_]
    refine gU_ 2 rfl ⟨_,by intro W hW;go_simp<;>with_reducible rfl,?_⟩
    try simp only[Act.put,pA_,pB_,pC_]
    refine gU_ 3 rfl ⟨_,by intro W hW;have hcW:=cellU hca hW;go_simp<;>with_reducible rfl,?_⟩
    try simp only[Act.put,pA_,pB_,pC_]
    refine gU_ 4 rfl ⟨_,by intro W hW;go_simp<;>with_reducible rfl,?_⟩
    try simp only[Act.put,pA_,pB_,pC_]
    refine gU_ 5 rfl ⟨_,by intro W hW;go_simp<;>with_reducible rfl,?_⟩
    try simp only[Act.put,pA_,pB_,pC_]
    refine gU_ 6 rfl ⟨_,by intro W hW;have hcW:=cellU hcb hW;go_simp<;>with_reducible rfl,?_⟩
    try simp only[Act.put,pA_,pB_,pC_]
    refine gU_ 7 rfl ⟨_,by intro W hW;go_simp<;>with_reducible rfl,?_⟩
    try simp only[Act.put,pA_,pB_,pC_]
    refine gU_ 8 rfl ⟨_,by intro W hW;go_simp<;>with_reducible rfl,?_⟩
    try simp only[Act.put,pA_,pB_,pC_]
    refine gU_ 9 rfl ⟨_,by intro W hW;go_simp<;>with_reducible rfl,?_⟩
    try simp only[Act.put,pA_,pB_,pC_]
    refine wpG_done (by kernel_rfl) ?_
    go_wp2
    go_roundw
    case rel=>exact⟨i+1,by omega,by go_num,HR.out.1.drew,HR.out.2.1.drew,HR.out.2.2.1.drew,HR.out.2.2.2.1.drew,HR.out.2.2.2.2.drew⟩
    case measure=>simp[intOf]<;>omega
   ·have hie:i=4:=by omega
    have hd:decide ((i:Int)<4)=false:=decide_eq_false (by omega)
    have hiI:(4:Int)≤(i:Int):=by omega
    rw[hie,mixL_full HX.out HA.out] at ra
    rw[hie,mixL_full HY.out HB.out] at rb
    clear hie
    go_wp2_with fail
    have hS:RowAt .u64 157 w.heap.size 4 (nI x) wr.drew∧RowAt .u64 157 w1.heap.size 4 (nI y) wr.drew:=⟨ra.drew,rb.drew⟩
    replace rc:=rc.drew
    replace rd:=rd.drew
    replace hbx:=hbx.drew
    refine wpS_begin (fun W=>RowAt .u64 157 w.heap.size 4 (nI x) W∧RowAt .u64 157 w1.heap.size 4 (nI y) W) (by kernel_rfl) ?_
    refine sU_ hS 0 rfl ⟨_,by intro W hW;refine Eq.trans (exec_load_row' 157 _ (by rfl) (by rfl) hW.1 (Below.refl _ _) _ Tryz.underlying157 rfl (elInfo HX.out)) ?_;with_reducible rfl,?_⟩
    try simp only[Act.put,pA_,pB_,pC_]
    refine sU_ hS 1 rfl ⟨_,by intro W hW;refine Eq.trans (exec_load_row' 157 _ (by rfl) (by rfl) hW.2 (Below.refl _ _) _ Tryz.underlying157 rfl (elInfo HY.out)) ?_;with_reducible rfl,?_⟩
    try simp only[Act.put,pA_,pB_,pC_]
    refine sD_ 2 fun K hK=>?_
    refine wp_store_row 157 _ _ rfl (nI x) rfl rfl rc (by rw[z4_el.len,HX.out.len]) (elInfo z4_el) ?_
    intro w5 rc5 hw5
    replace hS:=And.intro (hS.1.wrote hw5 (by omega)) (hS.2.wrote hw5 (by omega))
    replace rd:=rd.wrote hw5 (by omega)
    replace hbx:=hw5.below _ _ (by omega) hbx
    refine hK.out _ _ hS ?_
    clear hK K
    try simp only[Act.put,pA_,pB_,pC_]
    refine sD_ 3 fun K hK=>?_
    refine wp_store_row 157 _ _ rfl (nI y) rfl rfl rd (by rw[z4_el.len,HY.out.len]) (elInfo z4_el) ?_
    intro w6 rd6 hw6
    replace hS:=And.intro (hS.1.wrote hw6 (by omega)) (hS.2.wrote hw6 (by omega))
    replace rc5:=rc5.wrote hw6 (by omega)
    replace hbx:=hw6.below _ _ (by omega) hbx
    refine hK.out _ _ hS ?_
    clear hK K
    try simp only[Act.put,pA_,pB_,pC_]
    refine wpS_done (by kernel_rfl) ?_
    go_wp2_with fail
    refine bodyPost_rows (p:=6) (q:=7) (ty:=157) rfl rfl rfl rfl rc5 rd6 Tryz.underlying157 rfl (elInfo HX.out) (elInfo HY.out) ?_
    exact⟨rfl,hbx⟩

set_option maxRecDepth 100000 in
set_option maxHeartbeats 2000000 in
theorem swap_out (bit:Int) (A B:Array Value) (a b:List Nat) (ha:El4 a) (hb:El4 b) (h0:(bit !=0)=true) (h1:(bit !=1)=true) (hA:A=((nI a).map (Value.int .u64)).toArray) (hB:B=((nI b).map (Value.int .u64)).toArray) (w:World):
  Calls Tryz.prog 250 #[.int .i64 bit,.agg A,.agg B] w fun e w'=>e=.returned (.tuple #[elV a,elV b])∧Below w.heap.size w w':=by
 go_enter Tryz.func250,Tryz.ntmps250
 go_wp2_with (refine wpList_box_row (k:=.u64) rfl 157 _ rfl (nI a) (by rw[←hA];rfl) ha.ne (elMax ha) ?_)
 intro w1 r1 b1 s1
 rw[ha.len] at r1
 go_wp2_with (refine wpList_box_row (k:=.u64) rfl 157 _ rfl (nI b) (by rw[←hB];rfl) hb.ne (elMax hb) ?_)
 intro w2 r2 b2 s2
 rw[hb.len] at r2
 go_wp2_with (refine wpList_alloc_row (k:=.u64) rfl 157 rfl (nI z4) (alloc_el _) z4_el.ne (elMax z4_el) ?_)
 intro w3 r3 b3 s3
 rw[z4_el.len] at r3
 go_wp2_with (refine wpList_alloc_row (k:=.u64) rfl 157 rfl (nI z4) (alloc_el _) z4_el.ne (elMax z4_el) ?_)
 intro w4 r4 b4 s4
 rw[z4_el.len] at r4
 have hr1:=((r1.kept b2).kept b3).kept b4
 have hr2:=(r2.kept b3).kept b4
 have rc:=(r3.kept b4).drew
 have rd:=r4.drew
 have hbx:=(stepB (stepB (stepB b1 b2) b3) b4).drew
 have n1:w.heap.size<w1.heap.size:=by have:=s1.out;omega
 have n2:w1.heap.size<w2.heap.size:=by have:=s2.out;omega
 have n3:w2.heap.size<w3.heap.size:=by have:=s3.out;omega
 clear r1 r2 r3 b1 b2 b3 b4 s1 s2 s3 s4 hA hB
 go_wp2_with fail
 have hS:RowAt .u64 157 w.heap.size 4 (nI a) w4.drew∧RowAt .u64 157 w1.heap.size 4 (nI b) w4.drew:=⟨hr1.drew,hr2.drew⟩
 refine wpS_begin (fun W=>RowAt .u64 157 w.heap.size 4 (nI a) W∧RowAt .u64 157 w1.heap.size 4 (nI b) W) (by kernel_rfl) ?_
 refine sU_ hS 0 rfl ⟨_,by intro W hW;refine Eq.trans (exec_load_row' 157 _ (by rfl) (by rfl) hW.1 (Below.refl _ _) _ Tryz.underlying157 rfl (elInfo ha)) ?_;with_reducible rfl,?_⟩
 try simp only[Act.put,pA_,pB_,pC_]
 refine sU_ hS 1 rfl ⟨_,by intro W hW;refine Eq.trans (exec_load_row' 157 _ (by rfl) (by rfl) hW.2 (Below.refl _ _) _ Tryz.underlying157 rfl (elInfo hb)) ?_;with_reducible rfl,?_⟩
 try simp only[Act.put,pA_,pB_,pC_]
 refine sD_ 2 fun K hK=>?_
 refine wp_store_row 157 _ _ rfl (nI a) rfl rfl rc (by rw[z4_el.len,ha.len]) (elInfo z4_el) ?_
 intro w5 rc5 hw5
 replace hS:=And.intro (hS.1.wrote hw5 (by omega)) (hS.2.wrote hw5 (by omega))
 replace rd:=rd.wrote hw5 (by omega)
 replace hbx:=hw5.below _ _ (by omega) hbx
 refine hK.out _ _ hS ?_
 clear hK K
 try simp only[Act.put,pA_,pB_,pC_]
 refine sD_ 3 fun K hK=>?_
 refine wp_store_row 157 _ _ rfl (nI b) rfl rfl rd (by rw[z4_el.len,hb.len]) (elInfo z4_el) ?_
 intro w6 rd6 hw6
 replace hS:=And.intro (hS.1.wrote hw6 (by omega)) (hS.2.wrote hw6 (by omega))
 replace rc5:=rc5.wrote hw6 (by omega)
 replace hbx:=hw6.below _ _ (by omega) hbx
 refine hK.out _ _ hS ?_
 clear hK K
 try simp only[Act.put,pA_,pB_,pC_]
 refine wpS_done (by kernel_rfl) ?_
 go_wp2_with fail
 refine bodyPost_rows (p:=6) (q:=7) (ty:=157) rfl rfl rfl rfl rc5 rd6 Tryz.underlying157 rfl (elInfo ha) (elInfo hb) ?_
 exact⟨rfl,hbx⟩

theorem swap_any (bit:Int) (A B:Array Value) (a b:List Nat) (ha:El4 a) (hb:El4 b) (hA:A=((nI a).map (Value.int .u64)).toArray) (hB:B=((nI b).map (Value.int .u64)).toArray) (w:World):
  Calls Tryz.prog 250 #[.int .i64 bit,.agg A,.agg B] w fun e w'=>e=.returned (.tuple #[elV (if bit=1 then b else a),elV (if bit=1 then a else b)])∧Below w.heap.size w w':=by
 by_cases h1:bit=1
 ·rw[if_pos h1,if_pos h1]
  exact swap_in bit 18446744073709551615 A B a b b a ha hb (.inr ⟨h1,rfl,rfl,rfl⟩) hA hB w
 ·rw[if_neg h1,if_neg h1]
  by_cases h0:bit=0
  ·exact swap_in bit 0 A B a b a b ha hb (.inl ⟨h0,rfl,rfl,rfl⟩) hA hB w
  ·exact swap_out bit A B a b ha hb (by simpa using h0) (by simpa using h1) hA hB w

def c19:List Nat:=[19,0,0,0]
theorem c19_el:El4 c19:=El4.mk4 (by decide) (by decide) (by decide) (by decide)
theorem c19_wv:wv c19=19:=by decide
def fcP:List Nat:=[18446744073709551597,18446744073709551615,18446744073709551615,9223372036854775807]
theorem fcP_el:El4 fcP:=El4.mk4 (by decide) (by decide) (by decide) (by decide)
theorem fcP_wv:wv fcP=pN:=wv_prime
theorem rest_split {a:List Nat} (ha:El4 a):wv (a.set 3 (a.getD 3 0 % 9223372036854775808))=wv a % 57896044618658097711785492504343953926634992332820282019728792003956564819968∧a.getD 3 0 / 9223372036854775808=wv a / 57896044618658097711785492504343953926634992332820282019728792003956564819968:=by
 obtain⟨p,q,r,s,rfl,hp,hq,hr,hs⟩:=ha.four
 exact split255 p q r s hp hq hr hs

set_option maxRecDepth 100000 in
set_option maxHeartbeats 2000000 in
theorem rest_any (A:Array Value) (a:List Nat) (ha:El4 a) (hA:A=((nI a).map (Value.int .u64)).toArray) (w:World):
  Calls Tryz.prog 181 #[.agg A] w fun e w'=>∃r:List Nat,e=.returned (elV r)∧El4 r∧wv r=wv a % pN∧Below w.heap.size w w':=by
 go_enter Tryz.func181,Tryz.ntmps181
 go_wp2_with (refine wpList_box_row (k:=.u64) rfl 157 _ rfl (nI a) (by rw[←hA];rfl) ha.ne (elMax ha) ?_)
 intro w1 r1 b1 s1
 rw[ha.len] at r1
 go_wp2_with (refine wpList_alloc_row (k:=.u64) rfl 157 rfl (nI z4) (alloc_el _) z4_el.ne (elMax z4_el) ?_)
 intro w2 r2 b2 s2
 rw[z4_el.len] at r2
 have ra:=r1.kept b2
 have hbw:=stepB b1 b2
 have n1:w.heap.size<w1.heap.size:=by have:=s1.out;omega
 obtain⟨hsp1,hsp2⟩:=rest_split ha
 have h3:=ha.get 3
 have hcell:=ra.cell (j:=3) (by rw[ha.len];decide)
 have hfree:=ra.free 3
 rw[nI_get] at hcell
 have m1:=mask63 (a.getD 3 0) h3
 have HR:Hid (∀z:Nat,RowAt .u64 157 w.heap.size 4 (nI (a.set 3 z)) (w2.setCell ⟨w.heap.size,3,none⟩ (.int .u64 (z:Int)))):=fun z=>by
  rw[←nI_set]
  exact ra.set 3 _
 have HZ:Hid (∀u:Value,RowAt .u64 157 w1.heap.size 4 (nI z4) (w2.setCell ⟨w.heap.size,3,none⟩ u)∧Below w.heap.size w (w2.setCell ⟨w.heap.size,3,none⟩ u)):=fun u=>
  ⟨r2.other (p:=⟨w.heap.size,3,none⟩) (by show w.heap.size≠_;omega) u,(Wrote.set w.heap.size 3 w2 u).below _ _ (Nat.le_refl _) hbw⟩
 have HS:Hid (∀z:Nat,z<18446744073709551616→El4 (a.set 3 z)):=fun z hz=>ha.set 3 hz
 have HL:=ha.lt
 obtain⟨X,hX⟩:∃n:Nat,n=wv a:=⟨_,rfl⟩
 rw[←hX] at hsp1 hsp2 HL
 generalize a.getD 3 0=x at hcell m1 h3 hsp1 hsp2
 obtain⟨z,hz⟩:∃n:Nat,n=x % 9223372036854775808:=⟨_,rfl⟩
 obtain⟨t,ht⟩:∃n:Nat,n=x / 9223372036854775808:=⟨_,rfl⟩
 rw[←hz] at m1 hsp1
 rw[←ht] at hsp2
 have m2:(x:Int) / 9223372036854775808=(t:Int):=by omega
 have htl:t<18446744073709551616:=by omega
 have hzl:z<18446744073709551616:=by omega
 have hE:=HS.out z hzl
 have hR:=HR.out z
 obtain⟨hRz,hbn⟩:=HZ.out (.int .u64 (z:Int))
 have HP:Hid (wv (a.set 3 z)=X % 57896044618658097711785492504343953926634992332820282019728792003956564819968∧t=X / 57896044618658097711785492504343953926634992332820282019728792003956564819968∧X<115792089237316195423570985008687907853269984665640564039457584007913129639936∧X=wv a):=⟨hsp1,hsp2,HL,hX⟩
 generalize a.set 3 z=y at hE hR HP
 clear r1 b1 b2 s1 s2 ra hbw HR HZ HS hsp1 hsp2 HL hX hz ht h3 hzl ha hA r2
 go_wp2_with (refine wpList_load_row rfl 157 _ rfl rfl hR _ Tryz.underlying157 rfl (elInfo hE) ?_)
 refine(addTimes_any _ _ y c19 t _ hE c19_el htl rfl rfl rfl _).mono ?_
 rintro e w3 ⟨x1,c1,rfl,hx1,hc1,he1,b3⟩
 rw[c19_wv] at he1
 replace hR:=hR.kept b3
 replace hRz:=hRz.kept b3
 replace hbn:=stepB hbn b3
 have HE1:Hid _:=he1
 clear he1 b3 hcell hfree m1 m2
 go_wp2_with (refine wpList_store_row rfl 157 _ _ rfl (nI x1) rfl rfl hR (by rw[hx1.len,hE.len]) (elInfo hE) ?_)
 intro w4 ra4 hw4
 replace hRz:=hRz.wrote hw4 (by omega)
 replace hbn:=hw4.below _ _ (Nat.le_refl _) hbn
 clear hR hw4
 go_wp2_with (refine wpList_load_row rfl 157 _ rfl rfl ra4 _ Tryz.underlying157 rfl (elInfo hx1) ?_)
 refine(ftake_any _ _ x1 fcP hx1 fcP_el rfl rfl _).mono ?_
 rintro e w5 ⟨x2,o2,rfl,hx2,ho2,he2,b5⟩
 rw[fcP_wv] at he2
 replace ra4:=ra4.kept b5
 replace hRz:=hRz.kept b5
 replace hbn:=stepB hbn b5
 have hge5:w1.heap.size<w5.heap.size:=hRz.lt
 obtain⟨p1,p2,p3,p4⟩:=HP.out
 have he1:=HE1.out
 rw[p1,p2] at he1
 obtain⟨f1,f0⟩:=rest_math _ _ _ _ _ p3 hx1.lt hx2.lt he1 he2 ho2
 rw[p4] at f1 f0
 have HF:Hid ((o2=1→wv x1=wv a % pN)∧(o2=0→wv x2=wv a % pN)):=⟨f1,f0⟩
 clear f1 f0 p1 p2 p3 p4 he1 HE1 HP he2 b5
 go_wp2_with (refine wpList_alloc_row (k:=.u64) rfl 157 rfl (nI z4) (alloc_el _) z4_el.ne (elMax z4_el) ?_)
 intro w6 r6 b6 s6
 rw[z4_el.len] at r6
 replace ra4:=ra4.kept b6
 replace hRz:=hRz.kept b6
 replace hbn:=stepB hbn b6
 clear b6 s6
 go_wp2_with (refine wpList_store_row rfl 157 _ _ rfl (nI x2) rfl rfl r6 (by rw[hx2.len,z4_el.len]) (elInfo z4_el) ?_)
 intro w7 r7 hw7
 replace ra4:=ra4.wrote hw7 (by omega)
 replace hRz:=hRz.wrote hw7 (by omega)
 replace hbn:=hw7.below _ _ (by omega) hbn
 clear r6 hw7
 have v1:IntKind.i64.wrap (o2:Int)=(o2:Int):=IntWalk.i64_in _ (by omega)
 go_wp2_with (first|refine wpList_load_row rfl 157 _ rfl rfl r7 _ Tryz.underlying157 rfl (elInfo hx2) ?_|refine wpList_load_row rfl 157 _ rfl rfl ra4 _ Tryz.underlying157 rfl (elInfo hx1) ?_)
 refine(swap_any _ _ _ x2 x1 hx2 hx1 rfl rfl _).mono ?_
 rintro e w8 ⟨rfl,b8⟩
 obtain⟨X1,hX1⟩:∃l:List Nat,l=if (o2:Int)=1 then x1 else x2:=⟨_,rfl⟩
 obtain⟨X2,hX2⟩:∃l:List Nat,l=if (o2:Int)=1 then x2 else x1:=⟨_,rfl⟩
 rw[←hX1,←hX2]
 have hel1:El4 X1:=by rw[hX1];split<;>assumption
 have hel2:El4 X2:=by rw[hX2];split<;>assumption
 have HG:Hid (wv X1=wv a % pN):=by
  show _=_
  rw[hX1]
  by_cases h1:(o2:Int)=1
  ·rw[if_pos h1]
   exact HF.out.1 (by omega)
  ·rw[if_neg h1]
   exact HF.out.2 (by omega)
 replace hRz:=hRz.kept b8
 replace hbn:=stepB hbn b8
 clear hX1 hX2 HF b8 ra4 r7 v1
 go_wp2_with (refine wpList_alloc_row (k:=.u64) rfl 157 rfl (nI z4) (alloc_el _) z4_el.ne (elMax z4_el) ?_)
 intro w9 r9 b9 s9
 rw[z4_el.len] at r9
 go_wp2_with (refine wpList_alloc_row (k:=.u64) rfl 157 rfl (nI z4) (alloc_el _) z4_el.ne (elMax z4_el) ?_)
 intro w10 r10 b10 s10
 rw[z4_el.len] at r10
 have hg8:w1.heap.size<w8.heap.size:=hRz.lt
 have hg9:w8.heap.size<w9.heap.size:=by have:=s9.out;omega
 have hw8:=hbn.size
 replace hRz:=(hRz.kept b9).kept b10
 replace r9:=r9.kept b10
 replace hbn:=stepB (stepB hbn b9) b10
 clear b9 b10 s9 s10
 go_wp2_with (refine wpList_store_row rfl 157 _ _ rfl (nI X1) rfl rfl r9 (by rw[hel1.len,z4_el.len]) (elInfo z4_el) ?_)
 intro w11 r11 hw11
 replace hRz:=hRz.wrote hw11 (by omega)
 replace r10:=r10.wrote hw11 (by omega)
 replace hbn:=hw11.below _ _ (by omega) hbn
 clear r9 hw11
 go_wp2_with (refine wpList_store_row rfl 157 _ _ rfl (nI X2) rfl rfl r10 (by rw[hel2.len,z4_el.len]) (elInfo z4_el) ?_)
 intro w12 r12 hw12
 replace hRz:=hRz.wrote hw12 (by omega)
 replace r11:=r11.wrote hw12 (by omega)
 replace hbn:=hw12.below _ _ (by omega) hbn
 clear r10 r12 hw12
 go_wp2_with (first|refine wpList_load_row rfl 157 _ rfl rfl r11 _ Tryz.underlying157 rfl (elInfo hel1) ?_|(refine wpList_store_row rfl 157 _ _ rfl (nI X1) rfl rfl hRz (by rw[z4_el.len,hel1.len]) (elInfo z4_el) ?_;intro w13 r13 hw13))
 refine bodyPost_row (p:=2) (ty:=157) rfl rfl rfl r13 Tryz.underlying157 rfl (elInfo hel1) ?_
 exact⟨X1,rfl,hel1,HG.out,hw13.below _ _ (by omega) hbn⟩
theorem blk_ne {g g':Nat} {t t':TypeId} {cs cs':List Value} {w:World} (h:BlkAt g t cs w) (h':BlkAt g' t' cs' w) (hne:t≠t'):g≠g':=by
 rintro rfl
 unfold BlkAt at h h'
 rw[h] at h'
 simp at h'
 exact hne h'.2
def Stay (ty:TypeId) (w w':World):Prop:=∀k cs,BlkAt k ty cs w→BlkAt k ty cs w'
theorem Stay.trans {ty:TypeId} {a b c:World} (h:Stay ty a b) (k:Stay ty b c):Stay ty a c:=fun g cs hb=>k g cs (h g cs hb)
theorem Stay.below {ty:TypeId} {w w':World} (h:Below w.heap.size w w'):Stay ty w w':=fun g cs hb=>hb.kept h
theorem Stay.chg {ty ty':TypeId} {g:Nat} {cs:List Value} {w w':World} (hB:BlkAt g ty' cs w) (hne:ty≠ty') (c:Chg (fun b=>b=g) w w'):Stay ty w w':=fun k cs' hb=>hb.chg c (blk_ne hb hB hne)
theorem Stay.put {ty e e':TypeId} {g base:Nat} {cs:List Value} {v:Value} {l:List UInt8} {w w':World} (hB:BlkAt g e' cs w) (hO:Ow e base v l w) (h1:ty≠e') (h2:e≠ty) (c:Chg (fun k=>k=g∨some k=v.ownBlock) w w'):Stay ty w w':=fun k cs' hb=>hb.chg c (by
 rintro(h|h)
 ·exact blk_ne hb hB h1 h
 ·exact hO.not_blk hb h2 h.symm)
theorem Sls.get {n:Nat} {post:List Value} (h:Sls n post) {j:Nat} (hj:j<n):∃v,post[j]?=some v:=⟨_,List.getElem?_eq_getElem (by rw[h.len];exact hj)⟩
theorem wp_store_sl {g j:Nat} {bt:TypeId} {cs:List Value} {old:Value} {w:World} {op:Oper} {a:Act} {K:Act→World→Prop} {Q:Exit→Act→World→Prop} (x y:Operand) (ho:op.op=.store 26 x y) (hx:a.eval x=.pointer (some ⟨g,j,none⟩)) (A:Option Addr) (n c:Nat) (hy:a.eval y=.slice A n c)
  (hb:BlkAt g bt cs w) (hj:cs[j]?=some old) (h:∀w',BlkAt g bt (cs.set j (.slice A n c)) w'→Wrote g w w'→K (a.put op.dst undef) w'):op.wp Tryz.prog a w K Q:=by
 have hc:w.cell? ⟨g,j,none⟩=some old:=by rw[hb.cell];exact hj
 have hf:=hb.free j
 have h2:=h _ (hb.set j _) (Wrote.set g j w _)
 unfold Oper.wp execOp
 simp only[ho,hx,hy]
 go_simp
 exact h2

set_option maxRecDepth 100000 in
set_option maxHeartbeats 1000000 in
theorem put_any (gm:Nat) (vg vb:Value) (m b:List UInt8) (hl:m.length+b.length≤100000000) (base:Nat) (w:World) (hbase:base≤w.heap.size) (hV:BlkAt gm 26 [vg] w) (hO:Ow 5 base vg m w) (hb:Rd w vb b):
  Calls Tryz.prog 57 #[vb,.pointer (some ⟨gm,0,none⟩)] w fun e w'=>e=.returned (.tuple #[])∧∃vg',BlkAt gm 26 [vg'] w'∧Ow 5 base vg' (m++b) w'∧Near w vg vg'∧Chg (fun k=>k=gm∨some k=vg.ownBlock) w w':=by
 have hc0:=hV.one
 obtain⟨av,kv,rfl, -⟩:=id hO.rd
 have HV:Hid (BlkAt gm 26 [.slice av m.length kv] w):=hV
 have HO:Hid (Ow 5 base (.slice av m.length kv) m w):=hO
 have HL:Hid (m.length+b.length≤100000000):=hl
 clear hV hO hl
 go_enter Tryz.func57,Tryz.ntmps57
 go_wp2_with (at_builtin;go_must (refine wpList_append_base rfl _ _ 26 rfl 5 Tryz.underlying26 infoU8 _ _ rfl HO.out hbase _ _ rfl hb (by have:=HL.out;omega) ?_))
 intro v1 w1 h1 hg1 hn1
 have hV1:BlkAt gm 26 [.slice av m.length kv] w1:=HV.out.chg (Chg.of_grown hg1) fun e=>HO.out.not_blk HV.out (by decide) e.symm
 have c1:=hV1.one
 have f1:=hV1.free 0
 have hO1:Ow 5 base v1 (m++b) w1:=by unfold Ow;simpa using h1
 obtain⟨t,ht⟩:∃t:List UInt8,t=m++b:=⟨_,rfl⟩
 rw[←ht] at hO1
 have HT:Hid (t=m++b):=ht
 obtain⟨a1,k1,rfl, -⟩:=id hO1.rd
 have HO1:Hid (Ow 5 base (.slice a1 t.length k1) t w1):=hO1
 have HV1:Hid (BlkAt gm 26 [.slice av m.length kv] w1):=hV1
 have HG:Hid (w.grownBy w1 (Value.slice av m.length kv).ownBlock):=hg1
 have HN:Hid (Near w (.slice av m.length kv) (.slice a1 t.length k1)):=hn1
 clear h1 hg1 hn1 hV1 hO1 ht hb hc0
 go_wp2
 go_end0
 have hw:=Wrote.set gm 0 w1 (.slice a1 t.length k1)
 refine⟨rfl,_,HV1.out.set 0 _,?_,HN.out,?_⟩
 ·rw[←HT.out]
  exact HO1.out.chg HV1.out (by decide) (Chg.of_wrote hw)
 ·exact((Chg.of_grown HG.out).mono fun k _ h=>Or.inr h).trans ((Chg.of_wrote hw).mono fun k _ h=>Or.inl h)

set_option maxRecDepth 100000 in
set_option maxHeartbeats 1000000 in
theorem draw_any (gc:Nat) (vd:Value) (c:List UInt8) (h32:32≤c.length) (w:World) (hV:BlkAt gc 26 [vd] w) (hR:Rd w vd c):
  Calls Tryz.prog 60 #[.pointer (some ⟨gc,0,none⟩)] w fun e w'=>∃v,e=.returned v∧Ow 5 w.heap.size v (c.take 32) w'∧(∃vd',BlkAt gc 26 [vd'] w'∧∀W,Rd W vd c→Rd W vd' (c.drop 32))∧Chg (fun k=>k=gc) w w':=by
 obtain⟨ab,cb,rfl,hcb,hmb,hnn, -⟩:=id hR
 obtain⟨L,hL⟩:∃n:Nat,n=c.length:=⟨_,rfl⟩
 rw[←hL] at hcb hV hR
 have HX:Hid (32≤L∧L≤cb∧cb≤maxLen∧(ab=none→cb=0)):=⟨by omega,hcb,hmb,hnn⟩
 obtain⟨ab',htail,hrest⟩:=exec_tail (ab:=ab) (m:=32) HX.out.1 hcb hmb hnn
 have HT:Hid _:= @htail
 have HRs:Hid (∀(W:World) (b:List UInt8),Rd W (.slice ab L cb) b→Rd W (.slice ab' (L - 32) (cb - 32)) (b.drop 32)):=hrest
 have HR:Hid (Rd w (.slice ab 32 cb) (c.take 32)):=Rd.take hR (n:=32) HX.out.1
 obtain⟨K,hK⟩:∃K:List UInt8,K=c.take 32:=⟨_,rfl⟩
 rw[←hK] at HR ⊢
 have HK:Hid (K.length=32):=by show _=_;rw[hK,List.length_take];omega
 have HLc:Hid (L=c.length):=hL
 have c0:=hV.one
 have HV:Hid (BlkAt gc 26 [.slice ab L cb] w):=hV
 clear hV hR htail hrest hK hL h32 hcb hmb hnn
 go_enter Tryz.func60,Tryz.ntmps60
 go_wp2_with (refine wpList_val rfl (exec_head _ _ (by rfl) (by rfl) (by rfl) HX.out.1 HX.out.2.1 HX.out.2.2.1 HX.out.2.2.2) ?_)
 go_wp2_with fail
 refine(join_any _ _ _ _ (RdL.lit1r (e:=26) rfl HR.out) (by have:=HK.out;simp[totL];omega)).mono ?_
 rintro e w1 ⟨v1,rfl,hN1⟩
 replace hN1:=hN1.one16
 have b1:=stepB (growB _) hN1.2
 have hO1:Ow 5 w.heap.size v1 K w1:=Ow.mono (Ow.of_new hN1) (by simp)
 obtain⟨a1,k1,rfl, -⟩:=id hO1.rd
 have hV1:=HV.out.kept b1
 have c1:=hV1.one
 have f1:=hV1.free 0
 have HV1:Hid (BlkAt gc 26 [.slice ab L cb] w1):=hV1
 have HO1:Hid (Ow 5 w.heap.size (.slice a1 K.length k1) K w1):=hO1
 have HB1:Hid (Below w.heap.size w w1):=b1
 clear hN1 b1 hO1 hV1 c0 HR
 go_wp2_with (refine wpList_val rfl (HT.out _ _ (by rfl) (by rfl) (by rfl)) ?_)
 go_ret
 have hw:=Wrote.set gc 0 w1 (.slice ab' (L - 32) (cb - 32))
 exact⟨_,rfl,HO1.out.chg HV1.out (by decide) (Chg.of_wrote hw),⟨_,HV1.out.set 0 _,fun W h=>HRs.out W c (by rw[HLc.out];exact h)⟩,(Chg.of_below HB1.out).trans (Chg.of_wrote hw)⟩
end Go.Proofs.YtpgjobpmafbigaaGreatDoor
