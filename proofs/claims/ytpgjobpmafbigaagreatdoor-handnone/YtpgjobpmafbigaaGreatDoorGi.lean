/- What functions of the program, or of the reference, answer: contracts; several texts in one. -/
import Derived.Test.YtpgjobpmafbigaaGreatDoorGf
import Derived.Test.YtpgjobpmafbigaaGreatDoorGa
import Derived.Test.YtpgjobpmafbigaaGreatDoorBase
import Derived.Shelf.Abstract
import Derived.Test.YtpgjobpmafbigaaGreatDoorGh
import Derived.Test.YtpgjobpmafbigaaGreatDoorGd
import Derived.Test.YtpgjobpmafbigaaGreatDoorGg

namespace Go.Proofs.YtpgjobpmafbigaaGreatDoor
set_option linter.unusedSimpArgs false
set_option linter.unusedVariables false

def Hf (h:Nat):Prop:=h=128∨h=64∨h=32∨h=16∨h=8∨h=4∨h=2
def xg (h:Nat) (Z:Nat→FZ) (C1 C2:FZ→FZ→FZ→FZ) (F:Nat→FZ) (p:Nat):FZ:=
 if p % (2 * h)<h then C1 (Z (p / (2 * h))) (F p) (F (p+h)) else C2 (Z (p / (2 * h))) (F (p - h)) (F p)
abbrev xd (h b j p:Nat):Prop:=p / (2 * h)<b∨p / (2 * h)=b∧p % (2 * h) % h<j
theorem xd_none (h p:Nat):¬xd h 0 0 p:=by
 unfold xd
 generalize p / (2 * h)=a
 generalize p % (2 * h) % h=b
 omega
theorem xd_next {h b p:Nat} (hh:Hf h):xd h b h p↔xd h (b+1) 0 p:=by
 unfold xd
 have h1:p % (2 * h) % h<h:=Nat.mod_lt _ (by unfold Hf at hh;omega)
 omega
theorem xd_all {h p:Nat} (hh:Hf h) (hp:p<256):xd h (256 / (2 * h)) 0 p:=by
 unfold xd
 rcases hh with rfl|rfl|rfl|rfl|rfl|rfl|rfl<;>omega
theorem xd_pair {h b j:Nat} (hh:Hf h) (hb:b<256 / (2 * h)) (hj:j<h):
  2 * h * b+j+h<256∧2 * h * b<256∧¬xd h b j (2 * h * b+j)∧¬xd h b j (2 * h * b+j+h)∧(2 * h * b+j) / (2 * h)=b∧(2 * h * b+j) % (2 * h)=j∧(2 * h * b+j+h) / (2 * h)=b∧(2 * h * b+j+h) % (2 * h)=j+h:=by
 unfold xd
 rcases hh with rfl|rfl|rfl|rfl|rfl|rfl|rfl<;>omega
theorem xd_step {h b j p:Nat} (hh:Hf h) (hb:b<256 / (2 * h)) (hj:j<h) (h1:p≠2 * h * b+j) (h2:p≠2 * h * b+j+h):xd h b (j+1) p↔xd h b j p:=by
 unfold xd
 rcases hh with rfl|rfl|rfl|rfl|rfl|rfl|rfl<;>omega
theorem xd_first {h b j:Nat} (hh:Hf h) (hb:b<256 / (2 * h)) (hj:j<h):xd h b (j+1) (2 * h * b+j)∧xd h b (j+1) (2 * h * b+j+h):=by
 unfold xd
 rcases hh with rfl|rfl|rfl|rfl|rfl|rfl|rfl<;>omega
def Xs (h:Nat) (Z:Nat→FZ) (C1 C2:FZ→FZ→FZ→FZ) (F:Nat→FZ) (b j:Nat) (G:Nat→Int):Prop:=
 ∀p,p<256→G p=if xd h b j p then fzF (xg h Z C1 C2 F) p else fzF F p
theorem Xs.start (h:Nat) (Z:Nat→FZ) (C1 C2:FZ→FZ→FZ→FZ) (F:Nat→FZ):Xs h Z C1 C2 F 0 0 (fzF F):=fun p _=>by rw[if_neg (xd_none h p)]
theorem Xs.next {h:Nat} {Z:Nat→FZ} {C1 C2:FZ→FZ→FZ→FZ} {F:Nat→FZ} {b:Nat} {G:Nat→Int} (hh:Hf h) (hx:Xs h Z C1 C2 F b h G):Xs h Z C1 C2 F (b+1) 0 G:=fun p hp=>by
 rw[hx p hp]
 by_cases hd:xd h b h p
 ·rw[if_pos hd,if_pos ((xd_next hh).1 hd)]
 ·rw[if_neg hd,if_neg fun e=>hd ((xd_next hh).2 e)]
theorem Xs.done {h:Nat} {Z:Nat→FZ} {C1 C2:FZ→FZ→FZ→FZ} {F:Nat→FZ} {G:Nat→Int} (hh:Hf h) (hx:Xs h Z C1 C2 F (256 / (2 * h)) 0 G):gI G=gI (fzF (xg h Z C1 C2 F)):=
 gI_congr fun p hp=>by rw[hx p hp,if_pos (xd_all hh hp)]
theorem Xs.low {h:Nat} {Z:Nat→FZ} {C1 C2:FZ→FZ→FZ→FZ} {F:Nat→FZ} {b j:Nat} {G:Nat→Int} (hh:Hf h) (hx:Xs h Z C1 C2 F b j G) (hb:b<256 / (2 * h)) (hj:j<h):G (2 * h * b+j)=fzF F (2 * h * b+j):=by
 have a:=xd_pair hh hb hj
 rw[hx _ (by omega),if_neg a.2.2.1]
theorem Xs.high {h:Nat} {Z:Nat→FZ} {C1 C2:FZ→FZ→FZ→FZ} {F:Nat→FZ} {b j:Nat} {G:Nat→Int} (hh:Hf h) (hx:Xs h Z C1 C2 F b j G) (hb:b<256 / (2 * h)) (hj:j<h):G (2 * h * b+j+h)=fzF F (2 * h * b+j+h):=by
 have a:=xd_pair hh hb hj
 rw[hx _ (by omega),if_neg a.2.2.2.1]
theorem Xs.put {h:Nat} {Z:Nat→FZ} {C1 C2:FZ→FZ→FZ→FZ} {F:Nat→FZ} {b j:Nat} {G:Nat→Int} (hh:Hf h) (hx:Xs h Z C1 C2 F b j G) (hb:b<256 / (2 * h)) (hj:j<h) {i k:Nat} (hi:i=2 * h * b+j) (hk:k=i+h) {x y:Int}
  (h1:x=(((C1 (Z b) (F i) (F k)).val:Nat):Int)) (h2:y=(((C2 (Z b) (F i) (F k)).val:Nat):Int)):Xs h Z C1 C2 F b (j+1) (fun p=>if p=k then y else if p=i then x else G p):=by
 subst hi hk
 obtain⟨a1,a0,a2,a3,a4,a5,a6,a7⟩:=xd_pair hh hb hj
 obtain⟨f1,f2⟩:=xd_first hh hb hj
 intro p hp
 by_cases e2:p=2 * h * b+j+h
 ·subst e2
  simp only[if_pos,f2]
  rw[h2]
  unfold fzF xg
  rw[a7,a6,if_neg (by omega),show 2 * h * b+j+h - h=2 * h * b+j by omega]
 ·by_cases e1:p=2 * h * b+j
  ·subst e1
   simp only[if_neg e2,if_pos,f1]
   rw[h1]
   unfold fzF xg
   rw[a5,a4,if_pos hj]
  ·show(if p=_ then y else if p=_ then x else G p)=_
   rw[if_neg e2,if_neg e1,hx p hp]
   by_cases hd:xd h b j p
   ·rw[if_pos hd,if_pos ((xd_step hh hb hj e1 e2).2 hd)]
   ·rw[if_neg hd,if_neg fun e=>hd ((xd_step hh hb hj e1 e2).1 e)]
def stg (f:Nat→FZ) (l p:Nat):FZ:=lw f l (p / 2 ^ (8 - l)) (p % 2 ^ (8 - l))
theorem stg_first (f:Nat→FZ) (p:Nat) (hp:p<256):stg f 0 p=f p:=by
 unfold stg
 rw[lw_first,show 2 ^ (8 - 0)=256 from rfl,Nat.mod_eq_of_lt hp]
theorem stg_last (f:Nat→FZ) (p:Nat) (hp:p<256):stg f 7 p=fwd f p:=by
 unfold stg
 rw[show 2 ^ (8 - 7)=2 from rfl,lw_last _ _ _ (by omega)]
 rfl
theorem lev_facts (l p:Nat) (hl:l<7) (hp:p<256):
  Hf (2 ^ (7 - l))∧2 ^ (8 - l)=2 * 2 ^ (7 - l)∧2 ^ (8 - (l+1))=2 ^ (7 - l)∧p / (2 * 2 ^ (7 - l))<2 ^ l∧
  (p % (2 * 2 ^ (7 - l))<2 ^ (7 - l)→p / 2 ^ (7 - l)=2 * (p / (2 * 2 ^ (7 - l)))∧p % 2 ^ (7 - l)=p % (2 * 2 ^ (7 - l))∧(p+2 ^ (7 - l)) / (2 * 2 ^ (7 - l))=p / (2 * 2 ^ (7 - l))∧(p+2 ^ (7 - l)) % (2 * 2 ^ (7 - l))=p % (2 * 2 ^ (7 - l))+2 ^ (7 - l)∧p+2 ^ (7 - l)<256∧
   (p+2 ^ (7 - l)) / 2 ^ (7 - l)=2 * (p / (2 * 2 ^ (7 - l)))+1∧(p+2 ^ (7 - l)) % 2 ^ (7 - l)=p % (2 * 2 ^ (7 - l)))∧
  (¬p % (2 * 2 ^ (7 - l))<2 ^ (7 - l)→∃q,p=q+2 ^ (7 - l)∧q % (2 * 2 ^ (7 - l))<2 ^ (7 - l)∧q<256∧q / (2 * 2 ^ (7 - l))=p / (2 * 2 ^ (7 - l))):=by
 unfold Hf
 have hq:∀n,¬p % (2 * n)<n→n=128∨n=64∨n=32∨n=16∨n=8∨n=4∨n=2→∃q,p=q+n∧q % (2 * n)<n∧q<256∧q / (2 * n)=p / (2 * n):=by
  intro n h1 h2
  refine⟨p - n,?_⟩
  rcases h2 with rfl|rfl|rfl|rfl|rfl|rfl|rfl<;>omega
 have:l=0∨l=1∨l=2∨l=3∨l=4∨l=5∨l=6:=by omega
 rcases this with rfl|rfl|rfl|rfl|rfl|rfl|rfl<;>refine⟨by decide,by decide,by decide,?_,?_,fun h=>hq _ h (by decide)⟩<;>simp only[Nat.reducePow,Nat.reduceSub,Nat.reduceMul]<;>omega
def sp1 (z a b:FZ):FZ:=a+z * b
def sp2 (z a b:FZ):FZ:=a - z * b
theorem xg_fwd (f:Nat→FZ) (l p:Nat) (hl:l<7) (hp:p<256):xg (2 ^ (7 - l)) (fun b=>zt (2 ^ l+b)) sp1 sp2 (stg f l) p=stg f (l+1) p:=by
 obtain⟨-,e1,e2,hb,hlo,hhi⟩:=lev_facts l p hl hp
 unfold xg
 by_cases h:p % (2 * 2 ^ (7 - l))<2 ^ (7 - l)
 ·obtain⟨d1,d2,d3,d4, -⟩:=hlo h
  rw[if_pos h]
  unfold sp1 stg
  rw[e1,e2,d1,d2,d3,d4,lw_even _ _ _ _ hl hb]
 ·obtain⟨q,rfl,hq1,hq2,hq3⟩:=hhi h
  obtain⟨-, -, -,hbq,hlq, -⟩:=lev_facts l q hl hq2
  obtain⟨d1,d2,d3,d4,d5,d6,d7⟩:=hlq hq1
  rw[if_neg h,Nat.add_sub_cancel]
  unfold sp2 stg
  rw[e1,e2,d6,d7,d3,d4,lw_odd _ _ _ _ hl hbq]
end Go.Proofs.YtpgjobpmafbigaaGreatDoor

namespace Go.Proofs.YtpgjobpmafbigaaGreatDoor
open Go.ChangeShapes Go.WideShapes Go.ChangeAt Go.RowKit
set_option linter.unusedSimpArgs false
set_option linter.unusedVariables false

abbrev poV (f:Nat→FZ):Value:=.agg ((gI (fzF f)).map (Value.int .i64)).toArray
theorem poMax (F:Nat→Int):(gI F).length≤maxLen:=by rw[gI_length];decide
structure Po (F:Nat→Int):Prop where
 in64:∀k,In64 (F k)
theorem Po.fz (f:Nat→FZ):Po (fzF f):=⟨fun k=>by have:=fzF_lt f k;unfold In64;omega⟩
def rF (F:Nat→Int) (k:Nat):FZ:=nz (rsZ (F k))
theorem rF_fz (f:Nat→FZ):rF (fzF f)=f:=by
 funext k
 unfold rF fzF
 rw[rsZ_nat]
 refine Fin.ext ?_
 rw[nz_val,Nat.mod_mod]
 exact Nat.mod_eq_of_lt (f k).isLt
theorem cellB11 {w W:World} {p:Addr} {v:Value} (h:w.cell? p=some v) (hb:Below w.heap.size w W):W.cell? p=some v:=by
 rw[hb.cell (World.block_lt_of_cell? _ _ h)]
 exact h
theorem wp_store_int {e:TypeId} {g cap j:Nat} {l:List Int} {w:World} {op:Oper} {a:Act} {K:Act→World→Prop} {Q:Exit→Act→World→Prop} (x y:Operand) (ho:op.op=.store 3 x y) (hx:a.eval x=.pointer (some ⟨g,j,none⟩)) (X:Int) (hy:a.eval y=.int .i64 X)
  (hr:RowAt .i64 e g cap l w) (hj:j<l.length)
  (h:∀w',RowAt .i64 e g cap (l.set j X) w'→Wrote g w w'→K (a.put op.dst undef) w'):op.wp Tryz.prog a w K Q:=by
 have hc:=hr.cell hj
 have hf:=hr.free j
 have h2:=h _ (hr.set j X) (Wrote.set g j w _)
 unfold Oper.wp execOp
 simp only[ho,hx,hy]
 go_simp
 exact h2
theorem wpList_store_int {e:TypeId} {g cap j:Nat} {l:List Int} {w:World} {ops:Array Oper} {rest:List Oper} {op:Oper} {a:Act} {Q:Exit→Act→World→Prop} (hgd:op.guard=none) (x y:Operand) (ho:op.op=.store 3 x y) (hx:a.eval x=.pointer (some ⟨g,j,none⟩)) (X:Int) (hy:a.eval y=.int .i64 X)
  (hr:RowAt .i64 e g cap l w) (hj:j<l.length)
  (h:∀w',RowAt .i64 e g cap (l.set j X) w'→Wrote g w w'→wpList Tryz.prog ops Q rest (a.put op.dst undef) w'):wpList Tryz.prog ops Q (op :: rest) a w:=
 wpList_plain hgd fun _ hK=>wp_store_int x y ho hx X hy hr hj fun w' h1 h2=>hK _ _ (h w' h1 h2)
theorem poInfoA (F:Nat→Int):(Tryz.prog.info? 224).map (·.size)=some (gI F).length:=by rw[gI_length];kernel_rfl
theorem alloc_poA (w:World):(Instr.alloc 224 true (.tuple #[])).run Tryz.prog w=.ok (.pointer (some ⟨w.heap.size,0,none⟩)) (w.alloc (.cells ((gI fun _=>0).map (Value.int .i64)).toArray 224)):=by kernel_rfl
theorem app1 (v c:Value):#[v]++#[c]=#[v,c]:=rfl
theorem app2 (v c d:Value):#[v]++#[c,d]=#[v,c,d]:=rfl
theorem put_place {f:Nat→FZ} {i:Nat} {G:Nat→Int} (h:∀k,k<i→G k=fzF f k):∀k,k<i+1→(if k=i then (((f i).val:Nat):Int) else G k)=fzF f k:=by
 intro k hk
 by_cases e:k=i
 ·rw[if_pos e,e]
  rfl
 ·rw[if_neg e,h k (by omega)]

theorem enters_by {f:FuncId} {fn:Func} {c:Code} (hf:Tryz.prog.funcs[f]?=some fn) (hn:(fn.name== "runtime.NumGoroutine")=false) (hb:fn.body=some c) (args:Array Value) (w:World):(callFunc f args).run Tryz.prog w=.ok (.enter f args) w:=enters_of hf hn hb args w

set_option maxRecDepth 100000 in
set_option maxHeartbeats 2000000 in
theorem placed_any (K:FuncId) (caps:Array Value) (f:Nat→FZ) (w:World) (hE:∀(args:Array Value) (w:World),(callFunc K args).run Tryz.prog w=.ok (.enter K args) w)
  (hK:∀i:Nat,i<256→∀W,Below w.heap.size w W→Calls Tryz.prog K (#[Value.int .i64 (i:Int)]++caps) W fun e w'=>e=.returned (.int .i64 (((f i).val:Nat):Int))∧Below W.heap.size W w'):
  Calls Tryz.prog 279 #[.func (.func K) #[] caps] w fun e w'=>e=.returned (poV f)∧Below w.heap.size w w':=by
 have HK:Hid _:=hK
 clear hK
 go_enter Tryz.func279,Tryz.ntmps279
 go_wp2_with (refine wpList_alloc_row (k:=.i64) rfl 224 rfl (gI fun _=>0) (alloc_poA _) (gI_ne _) (poMax _) ?_)
 intro w1 rz b1 s1
 rw[gI_length] at rz
 go_wp2_with (refine wpList_alloc_row (k:=.i64) rfl 224 rfl (gI fun _=>0) (alloc_poA _) (gI_ne _) (poMax _) ?_)
 intro w2 ro b2 s2
 rw[gI_length] at ro
 replace rz:=rz.kept b2
 have hbw:=stepB b1 b2
 have n1:w.heap.size<w1.heap.size:=by have:=s1.out;omega
 clear b1 b2 s1 s2
 go_wp2
 go_loopw [5] (fun iv wx=>∃(i:Nat) (G:Nat→Int),i≤256∧iv=.int .i64 (i:Int)∧Hid (∀k,k<i→G k=fzF f k)∧RowAt .i64 224 w.heap.size 256 (gI fun _=>0) wx∧RowAt .i64 224 w1.heap.size 256 (gI G) wx∧Below w.heap.size w wx) (fun iv _=>256 - (intOf iv).toNat)
 case atStart=>exact⟨0,fun _=>0,by omega,rfl,(by show ∀k,_;intro k hk;omega),rz,ro,hbw⟩
 case round=>
  obtain⟨i,G,hi,rfl,HG,rx,ra,hbx⟩:=hrel
  clear rz ro hbw
  by_cases hlt:i<256
  ·have hd:decide ((i:Int)<256)=true:=decide_eq_true (by omega)
   have hiI:(i:Int)<256:=by omega
   have HG5:Hid _:=put_place HG.out
   go_wp2_with fail
   refine(HK.out i hlt _ hbx).mono ?_
   rintro e w3 ⟨rfl,b3⟩
   replace ra:=ra.kept b3
   replace rx:=rx.kept b3
   replace hbx:=stepB hbx b3
   generalize (f i).val=z at HG5
   have hc:=ra.cell (j:=i) (by rw[gI_length];exact hlt)
   have hf:=ra.free i
   have r5:=ra.set i ((z:Nat):Int)
   rw[gI_set] at r5
   have hw5:=Wrote.set w1.heap.size i w3 (.int .i64 ((z:Nat):Int))
   have R5:Hid _:=r5
   have RZ:Hid _:=rx.wrote hw5 (by omega)
   have HB5:Hid _:=hw5.below _ _ (by omega) hbx
   clear r5 hw5 ra rx hbx b3
   go_wp2
   go_roundw
   case rel=>exact⟨i+1,_,by omega,by go_num,HG5,RZ.out,R5.out,HB5.out⟩
   case measure=>simp[intOf]<;>omega
  ·have hie:i=256:=by omega
   have hd:decide ((i:Int)<256)=false:=decide_eq_false (by omega)
   have hiI:(256:Int)≤(i:Int):=by omega
   have HE:Hid (gI G=gI (fzF f)):=by
    show _=_
    exact gI_congr fun k hk=>HG.out k (by omega)
   rw[HE.out] at ra
   clear hie
   go_wp2_with (first|refine wpList_load_row rfl 224 _ rfl rfl ra _ Tryz.underlying224 rfl (poInfoA _) ?_|(refine wpList_store_row rfl 224 _ _ rfl (gI (fzF f)) rfl rfl rx (by rw[gI_length,gI_length]) (poInfoA _) ?_;intro w7 r7 hw7))
   refine bodyPost_row (k:=.i64) rfl rfl rfl r7 Tryz.underlying224 rfl (poInfoA _) ?_
   exact⟨rfl,hw7.below _ _ (by omega) hbx⟩
theorem cellD11 {w W:World} {p:Addr} {v:Value} (h:w.cell? p=some v) (hb:Below w.drew.heap.size w.drew W):W.cell? p=some v:=cellB11 (w:=w.drew) h hb
def ni (x:Int):FZ:=nz (rsZ x)
theorem ni_val (x:Int):(ni x).val=rsZ x:=by
 unfold ni
 rw[nz_val,Nat.mod_eq_of_lt (rsZ_lt x)]
theorem ni_fz (v:FZ):ni ((v.val:Nat):Int)=v:=by
 refine Fin.ext ?_
 rw[ni_val,rsZ_nat]
 exact Nat.mod_eq_of_lt v.isLt
theorem ni_rF (F:Nat→Int) (k:Nat):ni (F k)=rF F k:=rfl
theorem in64_fz (v:FZ):In64 ((v.val:Nat):Int):=by have:=v.isLt;exact⟨by omega,by omega⟩
theorem ni_add (a b:Int):(ni a+ni b).val=rsZ (a+b):=by rw[fz_val_add,ni_val,ni_val,rs_add]
theorem ni_sub (a b:Int):(ni a - ni b).val=rsZ (a - b):=by rw[fz_val_sub,ni_val,ni_val,rs_sub]
theorem ni_mul (a b:Int):(ni a * ni b).val=rsZ (a * b):=by rw[fz_val_mul,ni_val,ni_val,rs_mul]
theorem zmodF (a:Int) (ha:In64 a) (w:World):
  Calls Tryz.prog 274 #[.int .i64 a] w fun e w'=>e=.returned (.int .i64 (((ni a).val:Nat):Int))∧w'=w:=by rw[ni_val];exact zmod_any a ha w
theorem zaddF (a b:Int) (ha:In64 a) (hb:In64 b) (w:World):
  Calls Tryz.prog 326 #[.int .i64 a,.int .i64 b] w fun e w'=>e=.returned (.int .i64 (((ni a+ni b).val:Nat):Int))∧w'=w:=by rw[ni_add];exact zadd_any a b ha hb w
theorem zsubF (a b:Int) (ha:In64 a) (hb:In64 b) (w:World):
  Calls Tryz.prog 281 #[.int .i64 a,.int .i64 b] w fun e w'=>e=.returned (.int .i64 (((ni a - ni b).val:Nat):Int))∧w'=w:=by rw[ni_sub];exact zsub_any a b ha hb w
theorem zmulF (a b:Int) (ha:In64 a) (hb:In64 b) (w:World):
  Calls Tryz.prog 285 #[.int .i64 a,.int .i64 b] w fun e w'=>e=.returned (.int .i64 (((ni a * ni b).val:Nat):Int))∧w'=w:=by rw[ni_mul];exact zmul_any a b ha hb w
theorem zt_val (i:Nat) (h:i<128):(zt i).val=17 ^ tnJ (twZ 7 (i:Int)) 7 % 3329:=by
 have e:twZ 7 (i:Int)=i:=by unfold twZ;omega
 rw[e]
 unfold zt
 have:=pz_nz 17 (tnJ i 7)
 rw[show nz 17=17 from rfl] at this
 rw[←this,nz_val]
theorem zzetaF (i:Nat) (h:i<128) (w:World) (hT:PwT w):
  Calls Tryz.prog 258 #[.int .i64 (i:Int)] w fun e w'=>e=.returned (.int .i64 (((zt i).val:Nat):Int))∧w'=w:=by rw[zt_val i h];exact zzeta_any _ ⟨by omega,by omega⟩ w hT

set_option maxHeartbeats 1000000 in
theorem cclean_any (F:Nat→Int) (hF:Po F) (g:Nat) (i:Nat) (hi:i<256) (w:World) (r:RowAt .i64 224 g 256 (gI F) w):
  Calls Tryz.prog 325 #[.int .i64 (i:Int),.pointer (some ⟨g,0,none⟩)] w fun e w'=>e=.returned (.int .i64 (((rF F i).val:Nat):Int))∧Below w.heap.size w w':=by
 have hc:=r.cell (j:=i) (by rw[gI_length];exact hi)
 rw[gI_get _ hi] at hc
 have hiI:(i:Int)<256:=by omega
 have HF:Hid _:=hF.in64 i
 have HE:Hid (ni (F i)=rF F i):=ni_rF F i
 clear r hF
 go_enter Tryz.func325,Tryz.ntmps325
 go_wp2_with fail
 refine(zmodF (F i) HF.out _).mono ?_
 rintro e w1 ⟨rfl,rfl⟩
 go_wp2
 go_ret
 exact⟨retZ (by rw[HE.out]),Below.refl _ _⟩

set_option maxRecDepth 100000 in
set_option maxHeartbeats 1000000 in
theorem cplus_any (F G:Nat→Int) (hF:Po F) (hG:Po G) (g h:Nat) (i:Nat) (hi:i<256) (w:World) (r:RowAt .i64 224 g 256 (gI F) w) (s:RowAt .i64 224 h 256 (gI G) w):
  Calls Tryz.prog 329 #[.int .i64 (i:Int),.pointer (some ⟨g,0,none⟩),.pointer (some ⟨h,0,none⟩)] w fun e w'=>e=.returned (.int .i64 (((rF F i+rF G i).val:Nat):Int))∧Below w.heap.size w w':=by
 have hc:=r.cell (j:=i) (by rw[gI_length];exact hi)
 have hd:=s.cell (j:=i) (by rw[gI_length];exact hi)
 rw[gI_get _ hi] at hc hd
 have hiI:(i:Int)<256:=by omega
 have HF:Hid _:=hF.in64 i
 have HG:Hid _:=hG.in64 i
 have HE:Hid (ni (F i)+ni (G i)=rF F i+rF G i):=by show _=_;rfl
 clear r s hF hG
 go_enter Tryz.func329,Tryz.ntmps329
 go_wp2_with fail
 refine wpG_begin (by kernel_rfl) ?_
 refine gU_ 0 rfl ⟨_,by intro W hW;go_simp<;>with_reducible rfl,?_⟩
 try simp only[Act.put,pA_,pB_,pC_]
 refine gU_ 1 rfl ⟨_,by intro W hW;go_simp<;>with_reducible rfl,?_⟩
 try simp only[Act.put,pA_,pB_,pC_]
 refine gU_ 2 rfl ⟨_,by intro W hW;have hcW:=cellD11 hc hW;go_simp<;>with_reducible rfl,?_⟩
 try simp only[Act.put,pA_,pB_,pC_]
 refine gU_ 3 rfl ⟨_,by intro W hW;go_simp<;>with_reducible rfl,?_⟩
 try simp only[Act.put,pA_,pB_,pC_]
 refine gU_ 4 rfl ⟨_,by intro W hW;go_simp<;>with_reducible rfl,?_⟩
 try simp only[Act.put,pA_,pB_,pC_]
 refine gU_ 5 rfl ⟨_,by intro W hW;have hcW:=cellD11 hd hW;go_simp<;>with_reducible rfl,?_⟩
 try simp only[Act.put,pA_,pB_,pC_]
 refine gD_ 6 fun K hK=>?_
 go_simp
 refine(zaddF (F i) (G i) HF.out HG.out _).mono ?_
 rintro e w1 ⟨rfl,rfl⟩
 refine hK.out _ _ (Below.refl _ _) ?_
 clear hK K
 try simp only[Act.put,pA_,pB_,pC_]
 refine gU_ 7 rfl ⟨_,by intro W hW;go_simp<;>with_reducible rfl,?_⟩
 try simp only[Act.put,pA_,pB_,pC_]
 refine wpG_done (by kernel_rfl) ?_
 go_wp2
 go_ret
 exact⟨retZ (by rw[HE.out]),(Below.refl _ _).drew⟩
set_option maxHeartbeats 1000000 in
theorem bitAt_any (v:Value) (b:List UInt8) (m:Nat) (M:Int) (hM:M=(m:Int)) (hm:m<8 * b.length) (w:World) (hb:Rd w v b):
  Calls Tryz.prog 334 #[v,.int .i64 M] w fun e w'=>e=.returned (.int .i64 ((btY b m:Nat):Int))∧w'=w:=by
 subst hM
 obtain⟨gb,ob,c',ev, -,hc, -⟩:=hb.cellAt (i:=m / 8) (by omega)
 subst ev
 have hlen:b.length≤9223372036854775807:=by
  obtain⟨_,_,e1,_,h3,_,_⟩:=hb
  unfold maxLen at h3
  omega
 have HE:Hid ((b.getD (m / 8) 0).toNat / 2 ^ (m % 8) % 2=btY b m):=by show _=_;rfl
 have hx:=(b.getD (m / 8) 0).toNat_lt
 generalize (b.getD (m / 8) 0).toNat=x at hc HE hx
 obtain⟨q,r,y,p,hq,hr,hr8,hp,f1,f2,f3,f4,f5,f6,hy⟩:=bit_facts x m (by omega)
 rw[←hq] at hc
 have hqb:(q:Int)<(b.length:Int):=by omega
 have hqb2:q<b.length:=by omega
 have HP:Hid _:=hp
 have xw:IntKind.i64.wrap (x:Int)=(x:Int):=IntWalk.i64_in _ (by omega)
 have qw:IntKind.i64.wrap (q:Int)=(q:Int):=IntWalk.i64_in _ (by omega)
 have rw':IntKind.i64.wrap (r:Int)=(r:Int):=IntWalk.i64_in _ (by omega)
 clear hb hp hq hr hx hm hlen
 go_enter Tryz.func334,Tryz.ntmps334
 go_wp2
 go_ret
 exact⟨retZ (by rw[HP.out,HE.out]),rfl⟩

set_option maxHeartbeats 1000000 in
theorem ones_any (v:Value) (b:List UInt8) (m n:Nat) (M E:Int) (hM:M=(m:Int)) (hE:E=(n:Int)) (hn:n≤12) (hm:m+n≤8 * b.length) (hs:m≤1000000) (w:World) (hb:Rd w v b):
  Calls Tryz.prog 384 #[v,.int .i64 M,.int .i64 E] w fun e w'=>e=.returned (.int .i64 ((cn b m n:Nat):Int))∧w'=w:=by
 subst hM hE
 have HB:Hid (Rd w v b):=hb
 have HM:Hid (m+n≤8 * b.length):=hm
 obtain⟨ab,cb,rfl, -, -, -, -⟩:=id hb
 clear hb hm
 go_enter Tryz.func384,Tryz.ntmps384
 go_wp2
 go_loop [7,10] (fun cv iv=>∃i:Nat,i≤n∧iv=.int .i64 (i:Int)∧cv=.int .i64 ((cn b m i:Nat):Int)) (fun _ iv=>n - (intOf iv).toNat)
 case atStart=>exact⟨0,by omega,rfl,rfl⟩
 case round=>
  obtain⟨i,hi,rfl,rfl⟩:=hrel
  by_cases hlt:i<n
  ·have hd:decide ((i:Int)<(n:Int))=true:=decide_eq_true (by omega)
   have hiI:(i:Int)<(n:Int):=by omega
   have hA:=add_facts b m i (by omega)
   obtain⟨z,hz⟩:∃z:Nat,z=cn b m (i+1):=⟨_,rfl⟩
   rw[←hz] at hA
   have HZ:Hid _:=hz
   clear hz
   obtain⟨j,hj⟩:∃j:Nat,j=m+i:=⟨_,rfl⟩
   have ej:IntKind.i64.wrap ((m:Int)+(i:Int))=(j:Int):=by rw[IntWalk.i64_in _ (by omega)];omega
   have ej2:(m:Int)+(i:Int)=(j:Int):=by omega
   rw[←hj] at hA
   have HJ:Hid (j<8 * b.length):=by have:=HM.out;show _<_;omega
   clear hj
   go_wp2_with fail
   refine(bitAt_any _ b j _ (by first|rfl|omega) HJ.out _ HB.out).mono ?_
   rintro e w1 ⟨rfl,rfl⟩
   go_wp2
   go_round
   case rel=>exact⟨i+1,by omega,by go_num,by rw[←HZ.out]⟩
   case measure=>simp[intOf]<;>omega
  ·have hie:i=n:=by omega
   have hd:decide ((i:Int)<(n:Int))=false:=decide_eq_false (by omega)
   have hiI:(n:Int)≤(i:Int):=by omega
   have HE:Hid (cn b m i=cn b m n):=by show _=_;rw[hie]
   clear hie
   go_wp2
   go_ret
   exact⟨retZ (by rw[HE.out]),rfl⟩

set_option maxHeartbeats 1000000 in
theorem number_any (v:Value) (b:List UInt8) (m n:Nat) (M E:Int) (hM:M=(m:Int)) (hE:E=(n:Int)) (hn:n≤12) (hm:m+n≤8 * b.length) (hs:m≤1000000) (w:World) (hb:Rd w v b):
  Calls Tryz.prog 275 #[v,.int .i64 M,.int .i64 E] w fun e w'=>e=.returned (.int .i64 ((bs (btY b) m n:Nat):Int))∧w'=w:=by
 subst hM hE
 have HB:Hid (Rd w v b):=hb
 have HM:Hid (m+n≤8 * b.length):=hm
 obtain⟨ab,cb,rfl, -, -, -, -⟩:=id hb
 clear hb hm
 go_enter Tryz.func275,Tryz.ntmps275
 go_wp2
 go_loop [7,10] (fun cv iv=>∃i N:Nat,i≤n∧iv=.int .i64 (i:Int)∧cv=.int .i64 (N:Int)∧Hid (N=bs (btY b) m i)) (fun _ iv=>n - (intOf iv).toNat)
 case atStart=>exact⟨0,0,by omega,rfl,rfl,(by show _=_;rfl)⟩
 case round=>
  obtain⟨i,N,hi,rfl,rfl,HN⟩:=hrel
  by_cases hlt:i<n
  ·have hd:decide ((i:Int)<(n:Int))=true:=decide_eq_true (by omega)
   have hiI:(i:Int)<(n:Int):=by omega
   obtain⟨P,z,f1,f2,f3,hz⟩:=join_facts (btY b) (btY_lt b) m i (by omega)
   rw[←HN.out] at f3
   obtain⟨j,hj⟩:∃j:Nat,j=m+i:=⟨_,rfl⟩
   have ej:IntKind.i64.wrap ((m:Int)+(i:Int))=(j:Int):=by rw[IntWalk.i64_in _ (by omega)];omega
   have ej2:(m:Int)+(i:Int)=(j:Int):=by omega
   rw[←hj] at f1
   have HJ:Hid (j<8 * b.length):=by have:=HM.out;show _<_;omega
   have HZ:Hid _:=hz
   clear hj hz
   go_wp2_with fail
   refine(bitAt_any _ b j _ (by first|rfl|omega) HJ.out _ HB.out).mono ?_
   rintro e w1 ⟨rfl,rfl⟩
   generalize btY b j=p at f1
   go_wp2
   go_round
   case rel=>exact⟨i+1,z,by omega,by go_num,rfl,HZ⟩
   case measure=>simp[intOf]<;>omega
  ·have hie:i=n:=by omega
   have hd:decide ((i:Int)<(n:Int))=false:=decide_eq_false (by omega)
   have hiI:(n:Int)≤(i:Int):=by omega
   have HE:Hid (N=bs (btY b) m n):=by show _=_;rw[HN.out,hie]
   clear hie
   go_wp2
   go_ret
   exact⟨retZ (by rw[HE.out]),rfl⟩
abbrev prV (a b:FZ):Value:=.tuple #[.int .i64 ((a.val:Nat):Int),.int .i64 ((b.val:Nat):Int)]
set_option maxHeartbeats 1000000 in
theorem split_any (z a b:FZ) (w:World):
  Calls Tryz.prog 259 #[.int .i64 ((z.val:Nat):Int),.int .i64 ((a.val:Nat):Int),.int .i64 ((b.val:Nat):Int)] w fun e w'=>e=.returned (prV (sp1 z a b) (sp2 z a b))∧Below w.heap.size w w':=by
 have H1:Hid (ni ((z.val:Nat):Int) * ni ((b.val:Nat):Int)=z * b):=by show _=_;rw[ni_fz,ni_fz]
 have H2:Hid (ni ((a.val:Nat):Int)+ni (((z * b).val:Nat):Int)=sp1 z a b):=by show _=_;rw[ni_fz,ni_fz];rfl
 have H3:Hid (ni ((a.val:Nat):Int) - ni (((z * b).val:Nat):Int)=sp2 z a b):=by show _=_;rw[ni_fz,ni_fz];rfl
 go_enter Tryz.func259,Tryz.ntmps259
 go_wp2_with fail
 refine(zmulF _ _ (in64_fz z) (in64_fz b) _).mono ?_
 rintro e w1 ⟨rfl,rfl⟩
 rw[H1.out]
 go_wp2_with fail
 refine(zaddF _ _ (in64_fz a) (in64_fz (z * b)) _).mono ?_
 rintro e w1 ⟨rfl,rfl⟩
 rw[H2.out]
 go_wp2_with fail
 refine(zsubF _ _ (in64_fz a) (in64_fz (z * b)) _).mono ?_
 rintro e w1 ⟨rfl,rfl⟩
 rw[H3.out]
 go_wp2
 go_ret2
 exact⟨rfl,Below.refl _ _⟩
theorem half_facts {h:Nat} (hh:Hf h):∃d n:Nat,d=2 * h∧n=256 / (2 * h)∧IntKind.i64.wrap (2 * (h:Int))=(d:Int)∧Int.tdiv 256 (d:Int)=(n:Int)∧IntKind.i64.wrap (n:Int)=(n:Int)∧((d:Int)==0)=false∧0<d∧n≤64∧h≤128∧0<h:=by
 refine⟨2 * h,256 / (2 * h),rfl,rfl,?_⟩
 unfold Hf at hh
 rcases hh with rfl|rfl|rfl|rfl|rfl|rfl|rfl<;>decide
theorem start_facts {h b d n:Nat} (hh:Hf h) (hd:d=2 * h) (hn:n=256 / (2 * h)) (hb:b<n):∃s:Nat,s=2 * h * b∧s+h≤256∧IntKind.i64.wrap ((d:Int) * (b:Int))=(s:Int)∧IntKind.i64.wrap ((s:Int)+(h:Int))=((s+h:Nat):Int):=by
 subst hd hn
 have h0:=(xd_pair hh hb (j:=0) (by unfold Hf at hh;omega)).1
 have e:((2 * h:Nat):Int) * (b:Int)=((2 * h * b:Nat):Int):=by simp
 refine⟨2 * h * b,rfl,by omega,?_,?_⟩
 ·rw[e]
  exact IntWalk.i64_in _ (by omega)
 ·rw[IntWalk.i64_in _ (by omega)]
  omega

set_option maxRecDepth 100000 in
set_option maxHeartbeats 4000000 in
theorem crossed_any (KZ KC:FuncId) (cz:Array Value) (A:Array Value) (F:Nat→FZ) (hA:A=((gI (fzF F)).map (Value.int .i64)).toArray) (h:Nat) (hh:Hf h) (Z:Nat→FZ) (C1 C2:FZ→FZ→FZ→FZ) (w:World)
  (hEz:∀(args:Array Value) (w:World),(callFunc KZ args).run Tryz.prog w=.ok (.enter KZ args) w)
  (hEc:∀(args:Array Value) (w:World),(callFunc KC args).run Tryz.prog w=.ok (.enter KC args) w)
  (hZ:∀b:Nat,b<256 / (2 * h)→∀W,Below w.heap.size w W→Calls Tryz.prog KZ (#[Value.int .i64 (b:Int)]++cz) W fun e w'=>e=.returned (.int .i64 (((Z b).val:Nat):Int))∧Below W.heap.size W w')
  (hC:∀(z a b:FZ) (W:World),Calls Tryz.prog KC #[.int .i64 ((z.val:Nat):Int),.int .i64 ((a.val:Nat):Int),.int .i64 ((b.val:Nat):Int)] W fun e w'=>e=.returned (prV (C1 z a b) (C2 z a b))∧Below W.heap.size W w'):
  Calls Tryz.prog 256 #[.agg A,.int .i64 (h:Int),.func (.func KZ) #[] cz,.func (.func KC) #[] #[]] w fun e w'=>e=.returned (poV (xg h Z C1 C2 F))∧Below w.heap.size w w':=by
 have HZ:Hid _:=hZ
 have HC:Hid _:=hC
 have HH:Hid (Hf h):=hh
 obtain⟨d,n,hd,hn,c1,c2,c3,c4,c5,c6,c7,c8⟩:=half_facts hh
 have HD:Hid (d=2 * h):=hd
 have HN:Hid (n=256 / (2 * h)):=hn
 clear hZ hC hh hd hn
 go_enter Tryz.func256,Tryz.ntmps256
 go_wp2_with (refine wpList_box_row (k:=.i64) rfl 224 _ rfl (gI (fzF F)) (by rw[←hA];rfl) (gI_ne _) (poMax _) ?_)
 intro w1 ra b1 s1
 rw[gI_length] at ra
 have hbw:=b1
 have n1:w.heap.size<w1.heap.size:=by have:=s1.out;omega
 clear b1 s1 hA
 go_wp2_with (refine wpList_alloc_row (k:=.i64) rfl 224 rfl (gI fun _=>0) (alloc_poA _) (gI_ne _) (poMax _) ?_)
 intro w2 rz b2 s2
 rw[gI_length] at rz
 replace ra:=ra.kept b2
 replace hbw:=stepB hbw b2
 clear b2 s2
 go_wp2
 go_loopw [16] (fun bv wx=>∃(b:Nat) (G:Nat→Int),b≤n∧bv=.int .i64 (b:Int)∧Hid (Xs h Z C1 C2 F b 0 G)∧RowAt .i64 224 w.heap.size 256 (gI G) wx∧RowAt .i64 224 w1.heap.size 256 (gI fun _=>0) wx∧Below w.heap.size w wx) (fun bv _=>n - (intOf bv).toNat)
 case atStart=>exact⟨0,fzF F,by omega,rfl,Xs.start h Z C1 C2 F,ra,rz,hbw⟩
 case round=>
  obtain⟨b,G,hb,rfl,HG,ra1,rz1,hbx⟩:=hrel
  clear ra rz hbw
  by_cases hlt:b<n
  ·have hdb:decide ((b:Int)<(n:Int))=true:=decide_eq_true (by omega)
   have hbI:(b:Int)<(n:Int):=by omega
   obtain⟨s,hs,sl,x1,x2⟩:=start_facts HH.out HD.out HN.out hlt
   have HS:Hid (s=2 * h * b):=hs
   have HLT:Hid (b<256 / (2 * h)):=by show _<_;rw[←HN.out];exact hlt
   clear hs
   go_wp2_with fail
   refine(HZ.out b HLT.out _ hbx).mono ?_
   rintro e w3 ⟨rfl,b3⟩
   replace ra1:=ra1.kept b3
   replace rz1:=rz1.kept b3
   replace hbx:=stepB hbx b3
   clear b3
   obtain⟨z,hz⟩:∃z:FZ,z=Z b:=⟨_,rfl⟩
   rw[←hz]
   have HZB:Hid (z=Z b):=hz
   clear hz
   obtain⟨t,ht⟩:∃t:Nat,t=s+h:=⟨_,rfl⟩
   rw[←ht] at x2
   have HT:Hid (t=s+h):=ht
   clear ht
   go_wp2
   go_loopw [12] (fun iv wx=>∃(j i:Nat) (G:Nat→Int),j≤h∧i=s+j∧iv=.int .i64 (i:Int)∧Hid (Xs h Z C1 C2 F b j G)∧RowAt .i64 224 w.heap.size 256 (gI G) wx∧RowAt .i64 224 w1.heap.size 256 (gI fun _=>0) wx∧Below w.heap.size w wx) (fun iv _=>s+h - (intOf iv).toNat)
   case atStart=>exact⟨0,s,G,by omega,rfl,rfl,HG,ra1,rz1,hbx⟩
   case round=>
    obtain⟨j,i,G2,hj,hij,rfl,HG2,ra2,rz2,hby⟩:=hrel
    have HIJ:Hid (i=s+j):=hij
    clear ra1 rz1 hbx HG hij
    by_cases hlj:j<h
    ·have hil:i<t:=by have:=HIJ.out;have:=HT.out;omega
     have hdi:decide ((i:Int)<(t:Int))=true:=decide_eq_true (by omega)
     have hiI:(i:Int)<(t:Int):=by omega
     obtain⟨k,hk⟩:∃k:Nat,k=i+h:=⟨_,rfl⟩
     have HP:Hid (k<256∧i=2 * h * b+j):=by
      show _∧_
      have h1:=xd_pair HH.out HLT.out hlj
      have h2:=HS.out
      have h3:=HIJ.out
      omega
     have hi6:i<256:=by have:=HP.out.1;omega
     have hk6:=HP.out.1
     have hi6I:(i:Int)<256:=by omega
     have hk6I:(k:Int)<256:=by omega
     have x3:IntKind.i64.wrap ((i:Int)+(h:Int))=(k:Int):=by rw[IntWalk.i64_in _ (by omega)];omega
     have hca:=ra2.cell (j:=i) (by rw[gI_length];exact hi6)
     have hcb:=ra2.cell (j:=k) (by rw[gI_length];exact hk6)
     rw[gI_get _ hi6,HP.out.2,HG2.out.low HH.out HLT.out hlj,←HP.out.2] at hca
     rw[gI_get _ hk6,hk,HP.out.2,HG2.out.high HH.out HLT.out hlj,←HP.out.2,←hk] at hcb
     have HK:Hid (k=i+h):=hk
     unfold fzF at hca hcb
     have HNX2:Hid (Xs h Z C1 C2 F b (j+1) (fun p=>if p=k then (((C2 z (F i) (F k)).val:Nat):Int) else if p=i then (((C1 z (F i) (F k)).val:Nat):Int) else G2 p)):=
      HG2.out.put HH.out HLT.out hlj HP.out.2 HK.out (by rw[HZB.out]) (by rw[HZB.out])
     clear hk
     go_wp2_with fail
     have hB:Below wr.heap.size wr wr.drew:=(Below.refl _ _).drew
     refine wpF_begin 19 (w0:=wr) (by kernel_rfl) ?_
     refine fP_ (.inr hB) 0 rfl ⟨_,by intro W;go_simp<;>with_reducible rfl,?_⟩
     try simp only[Act.put,pA_,pB_,pC_]
     refine fP_ (.inr hB) 1 rfl ⟨_,by intro W;go_simp<;>with_reducible rfl,?_⟩
     try simp only[Act.put,pA_,pB_,pC_]
     refine fP_ (.inr hB) 2 rfl ⟨_,by intro W;go_simp<;>with_reducible rfl,?_⟩
     try simp only[Act.put,pA_,pB_,pC_]
     refine fP_ (.inr hB) 3 rfl ⟨_,by intro W;go_simp<;>with_reducible rfl,?_⟩
     try simp only[Act.put,pA_,pB_,pC_]
     refine fP_ (.inr hB) 4 rfl ⟨_,by intro W;go_simp<;>with_reducible rfl,?_⟩
     try simp only[Act.put,pA_,pB_,pC_]
     refine fP_ (.inr hB) 5 rfl ⟨_,by intro W;go_simp<;>with_reducible rfl,?_⟩
     try simp only[Act.put,pA_,pB_,pC_]
     refine fP_ (.inr hB) 6 rfl ⟨_,by intro W;go_simp<;>with_reducible rfl,?_⟩
     try simp only[Act.put,pA_,pB_,pC_]
     refine fP_ (.inr hB) 7 rfl ⟨_,by intro W;go_simp<;>with_reducible rfl,?_⟩
     try simp only[Act.put,pA_,pB_,pC_]
     refine fU_ hB 8 rfl ⟨_,by intro W hW;have hcW:=cellB11 hca hW;go_simp<;>with_reducible rfl,?_⟩
     try simp only[Act.put,pA_,pB_,pC_]
     refine fP_ (.inr hB) 9 rfl ⟨_,by intro W;go_simp<;>with_reducible rfl,?_⟩
     try simp only[Act.put,pA_,pB_,pC_]
     refine fP_ (.inr hB) 10 rfl ⟨_,by intro W;go_simp<;>with_reducible rfl,?_⟩
     try simp only[Act.put,pA_,pB_,pC_]
     refine fP_ (.inr hB) 11 rfl ⟨_,by intro W;go_simp<;>with_reducible rfl,?_⟩
     try simp only[Act.put,pA_,pB_,pC_]
     refine fP_ (.inr hB) 12 rfl ⟨_,by intro W;go_simp<;>with_reducible rfl,?_⟩
     try simp only[Act.put,pA_,pB_,pC_]
     refine fU_ hB 13 rfl ⟨_,by intro W hW;have hcW:=cellB11 hcb hW;go_simp<;>with_reducible rfl,?_⟩
     try simp only[Act.put,pA_,pB_,pC_]
     refine fD_ 14 fun K hK=>?_
     go_simp
     refine(HC.out z (F i) (F k) _).mono ?_
     rintro e w5 ⟨rfl,b5⟩
     replace hB:=stepB hB b5
     have r5:=ra2.drew.kept b5
     refine hK.out _ _ (.inr hB) ?_
     clear hK K
     try simp only[Act.put,pA_,pB_,pC_]
     refine fP_ (.inr hB) 15 rfl ⟨_,by intro W;go_simp<;>with_reducible rfl,?_⟩
     try simp only[Act.put,pA_,pB_,pC_]
     refine fP_ (.inr hB) 16 rfl ⟨_,by intro W;go_simp<;>with_reducible rfl,?_⟩
     try simp only[Act.put,pA_,pB_,pC_]
     refine fP_ (.inr hB) 17 rfl ⟨_,by intro W;go_simp<;>with_reducible rfl,?_⟩
     try simp only[Act.put,pA_,pB_,pC_]
     refine fP_ (.inr hB) 18 rfl ⟨_,by intro W;go_simp<;>with_reducible rfl,?_⟩
     try simp only[Act.put,pA_,pB_,pC_]
     refine fD_ 19 fun K hK=>?_
     refine wp_store_int _ _ (by rfl) (by rfl) (((C1 z (F i) (F k)).val:Nat):Int) (by rfl) r5 (by rw[gI_length];exact hi6) ?_
     intro w6 r6 hw6
     rw[gI_set] at r6
     refine hK.out _ _ (.inl rfl) ?_
     clear hK K
     try simp only[Act.put,pA_,pB_,pC_]
     refine fP_ (.inl (by kernel_rfl)) 20 rfl ⟨_,by intro W;go_simp<;>with_reducible rfl,?_⟩
     try simp only[Act.put,pA_,pB_,pC_]
     refine fM_ 21 fun K hK=>?_
     refine wp_store_int _ _ (by rfl) (by rfl) (((C2 z (F i) (F k)).val:Nat):Int) (by rfl) r6 (by rw[gI_length];exact hk6) ?_
     intro w7 r7 hw7
     rw[gI_set] at r7
     refine hK.out _ _ ?_
     clear hK K
     try simp only[Act.put,pA_,pB_,pC_]
     refine wpF_done (by kernel_rfl) ?_
     have rz5:=(rz2.drew.kept b5)
     replace rz5:=rz5.wrote hw6 (by omega)
     replace rz5:=rz5.wrote hw7 (by omega)
     have hb5:=stepB hby.drew b5
     replace hb5:=hw6.below _ _ (Nat.le_refl _) hb5
     replace hb5:=hw7.below _ _ (Nat.le_refl _) hb5
     have x4:IntKind.i64.wrap ((i:Int)+1)=((i+1:Nat):Int):=by rw[IntWalk.i64_in _ (by omega)];omega
     clear ra2 rz2 hby hca hcb hw6 hw7 b5 r5 r6 hB
     go_wp2
     go_roundw
     case rel=>exact⟨j+1,i+1,_,by omega,by have:=HIJ.out;omega,by go_num,HNX2,r7,rz5,hb5⟩
     case measure=>have:=HIJ.out;simp[intOf]<;>omega
    ·have hje:j=h:=by omega
     have hil:¬i<t:=by have:=HIJ.out;have:=HT.out;omega
     have hdi:decide ((i:Int)<(t:Int))=false:=decide_eq_false (by omega)
     have hiI:(t:Int)≤(i:Int):=by omega
     have HG3:Hid (Xs h Z C1 C2 F (b+1) 0 G2):=by
      have h1:=HG2.out
      rw[hje] at h1
      exact h1.next HH.out
     clear hje
     go_wp2
     go_roundw
     case rel=>exact⟨b+1,_,by omega,by go_num,HG3,ra2,rz2,hby⟩
     case measure=>simp[intOf]<;>omega
  ·have hie:b=n:=by omega
   have hdb:decide ((b:Int)<(n:Int))=false:=decide_eq_false (by omega)
   have hbI:(n:Int)≤(b:Int):=by omega
   have HE:Hid (gI G=gI (fzF (xg h Z C1 C2 F))):=by
    have h1:=HG.out
    rw[hie,HN.out] at h1
    exact h1.done HH.out
   rw[HE.out] at ra1
   clear hie
   go_wp2_with (first|refine wpList_load_row rfl 224 _ rfl rfl ra1 _ Tryz.underlying224 rfl (poInfoA _) ?_|(refine wpList_store_row rfl 224 _ _ rfl (gI (fzF (xg h Z C1 C2 F))) rfl rfl rz1 (by rw[gI_length,gI_length]) (poInfoA _) ?_;intro w7 r7 hw7))
   refine bodyPost_row (k:=.i64) rfl rfl rfl r7 Tryz.underlying224 rfl (poInfoA _) ?_
   exact⟨rfl,hw7.below _ _ (by omega) hbx⟩

theorem bodyPost_po {k:IntKind} {e:TypeId} {g cap:Nat} {l:List Int} {P:Program} {fn:Func} {p q:Tmp} {ty:TypeId} {d:TypeDesc} {v:Value} {R:Ending→World→Prop} {a:Act} {w:World} (h:fn.results=#[.cell p ty,.tmp q]) (hd:a.defers=[])
  (hp:a.tmps.getD p undef=.pointer (some ⟨g,0,none⟩)) (hq:a.tmps.getD q undef=v) (hr:RowAt k e g cap l w) (hu:P.underlying ty=some d) (hrow:d.isRow=true) (hi:(P.info? ty).map (·.size)=some l.length)
  (hR:R (.returned (.tuple #[.agg (l.map (Value.int k)).toArray,v])) w):bodyPost P fn R .ret a w:=by
 refine bodyPost_ret ?_ hd hR
 have hp':a.tmps[p]?.getD undef=.pointer (some ⟨g,0,none⟩):=by simpa using hp
 have hq':a.tmps[q]?.getD undef=v:=by simpa using hq
 have hl:=hr.load (P:=P) hu hrow hi
 simp[results,h,hp',hq',asAddr,hl]

theorem poInfoS (F:Nat→Int):(Tryz.prog.info? 224).map (·.size)=some (gI F).length:=by rw[gI_length];kernel_rfl
theorem alloc_poS (w:World):(Instr.alloc 224 true (.tuple #[])).run Tryz.prog w=.ok (.pointer (some ⟨w.heap.size,0,none⟩)) (w.alloc (.cells ((gI fun _=>0).map (Value.int .i64)).toArray 224)):=by kernel_rfl
theorem put_placeS {f:Nat→FZ} {i:Nat} {G:Nat→Int} (h:∀k,k<i→G k=fzF f k):∀k,k<i+1→(if k=i then (((f i).val:Nat):Int) else G k)=fzF f k:=by
 intro k hk
 by_cases e:k=i
 ·rw[if_pos e,e]
  rfl
 ·rw[if_neg e,h k (by omega)]

theorem isEta_in (d:Int) (h1:1≤d) (h2:d≤3) (w:World):
  Calls Tryz.prog 362 #[.int .i64 d] w fun e w'=>e=.returned (.bool true)∧w'=w:=by
 have d1:decide (1≤d)=true:=decide_eq_true h1
 have d2:decide (d≤3)=true:=decide_eq_true h2
 go_enter Tryz.func362,Tryz.ntmps362
 go_wp2
 go_ret
 exact⟨rfl,rfl⟩

theorem packs_in (d:Int) (h1:1≤d) (h2:d≤12) (w:World):
  Calls Tryz.prog 272 #[.int .i64 d] w fun e w'=>e=.returned (.bool true)∧w'=w:=by
 have d1:decide (1≤d)=true:=decide_eq_true h1
 have d2:decide (d≤12)=true:=decide_eq_true h2
 go_enter Tryz.func272,Tryz.ntmps272
 go_wp2
 go_ret
 exact⟨rfl,rfl⟩

theorem size_facts (K c d:Nat) (h:K=8 * c) (hK:K≤1000) (hd:d≤12):∃a s:Nat,s=c * d∧IntKind.i64.wrap ((K:Int) * (d:Int))=(a:Int)∧(K:Int) * (d:Int)=(a:Int)∧((a:Nat):Int).tdiv 8=(s:Int)∧(a:Int) / 8=(s:Int)∧IntKind.i64.wrap (s:Int)=(s:Int):=by
 have e:K * d=8 * (c * d):=by rw[h,Nat.mul_assoc]
 have h2:c * d≤125 * 12:=Nat.mul_le_mul (by omega) hd
 have e2:(K:Int) * (d:Int)=((8 * (c * d):Nat):Int):=by rw[←e,Int.natCast_mul]
 refine⟨8 * (c * d),c * d,rfl,?_,e2,?_,?_,IntWalk.i64_in _ (by omega)⟩
 ·rw[e2,IntWalk.i64_in _ (by omega)]
 ·rw[Int.tdiv_eq_ediv_of_nonneg (by omega)]
  generalize c * d=z
  omega
 ·generalize c * d=z
  omega
theorem noiseSize_any (e:Nat) (E:Int) (hE:E=(e:Int)) (h:e≤12) (w:World):
  Calls Tryz.prog 364 #[.int .i64 E] w fun r w'=>r=.returned (.int .i64 ((64 * e:Nat):Int))∧w'=w:=by
 subst hE
 obtain⟨a,s,hs,f1,f2,f3,f4,f5⟩:=size_facts 512 64 e rfl (by omega) h
 have f1:IntKind.i64.wrap (512 * (e:Int))=(a:Int):=f1
 have f2:512 * (e:Int)=(a:Int):=f2
 have HS:Hid _:=hs
 clear hs
 go_enter Tryz.func364,Tryz.ntmps364
 go_wp2
 go_ret
 exact⟨retZ (by rw[HS.out]),rfl⟩
theorem packSize_any (e:Nat) (E:Int) (hE:E=(e:Int)) (h:e≤12) (w:World):
  Calls Tryz.prog 273 #[.int .i64 E] w fun r w'=>r=.returned (.int .i64 ((32 * e:Nat):Int))∧w'=w:=by
 subst hE
 obtain⟨a,s,hs,f1,f2,f3,f4,f5⟩:=size_facts 256 32 e rfl (by omega) h
 have f1:IntKind.i64.wrap (256 * (e:Int))=(a:Int):=f1
 have f2:256 * (e:Int)=(a:Int):=f2
 have HS:Hid _:=hs
 clear hs
 go_enter Tryz.func273,Tryz.ntmps273
 go_wp2
 go_ret
 exact⟨retZ (by rw[HS.out]),rfl⟩

theorem noise2_facts (e i:Nat) (h1:1≤e) (h3:e≤3) (hi:i<256):∃a2 ae ae2:Nat,ae=2 * i * e∧ae2=2 * i * e+e∧ae2+e≤512 * e∧
  IntKind.i64.wrap (2 * (i:Int))=(a2:Int)∧IntKind.i64.wrap ((a2:Int) * (e:Int))=(ae:Int)∧IntKind.i64.wrap ((ae:Int)+(e:Int))=(ae2:Int):=by
 have he:e=1∨e=2∨e=3:=by omega
 refine⟨2 * i,2 * i * e,2 * i * e+e,rfl,rfl,?_,?_,?_,?_⟩
 all_goals rcases he with rfl|rfl|rfl
 all_goals first|omega|(rw[IntWalk.i64_in _ (by omega)];omega)
theorem infoS5:(Tryz.prog.info? 5).map (fun i=>(i.zero,i.size,i.bytes))=some (some (.int .u8 0),1,1):=by kernel_rfl
theorem pk_at12 (d:Nat) (F:Nat→Int) (i j:Nat) (hj:j<d):pkB d F (d * i+j)=rsZ (F i) / 2 ^ j % 2:=by
 have hd:0<d:=by omega
 unfold pkB
 rw[Nat.mul_add_div hd,Nat.div_eq_of_lt hj,Nat.add_zero,Nat.mul_add_mod,Nat.mod_eq_of_lt hj]
theorem place12_facts (d i j:Nat) (h1:1≤d) (h2:d≤12) (hi:i<256) (hj:j<d):∃a m q r:Nat,m=d * i+j∧m<256 * d∧q=m / 8∧r=m % 8∧r<8∧IntKind.i64.wrap ((d:Int) * (i:Int))=(a:Int)∧IntKind.i64.wrap ((a:Int)+(j:Int))=(m:Int)∧
  ((m:Nat):Int).tdiv 8=(q:Int)∧(m:Int) / 8=(q:Int)∧((m:Nat):Int).tmod 8=(r:Int)∧(m:Int) % 8=(r:Int)∧IntKind.i64.wrap (q:Int)=(q:Int)∧IntKind.i64.wrap (r:Int)=(r:Int):=by
 have h3:d * i+d≤256 * d:=by
  have:=Nat.mul_le_mul_left d (show i+1≤256 by omega)
  rw[Nat.mul_succ,Nat.mul_comm d 256] at this
  exact this
 have e:(d:Int) * (i:Int)=((d * i:Nat):Int):=by rw[Int.natCast_mul]
 rw[e]
 generalize d * i=a at h3
 refine⟨a,a+j,(a+j) / 8,(a+j) % 8,rfl,by omega,rfl,rfl,by omega,IntWalk.i64_in _ (by omega),?_,?_,by omega,?_,by omega,IntWalk.i64_in _ (by omega),IntWalk.i64_in _ (by omega)⟩
 ·rw[IntWalk.i64_in _ (by omega)];omega
 ·rw[Int.tdiv_eq_ediv_of_nonneg (by omega)];omega
 ·rw[Int.tmod_eq_emod_of_nonneg (by omega)];omega
theorem low_facts (R j:Nat) (hR:R<3329):∃y p:Nat,p=R / 2 ^ j % 2∧(R:Int) / 2 ^ j=(y:Int)∧bits .and .i64 (y:Int) 1=(p:Int)∧IntKind.u8.wrap (p:Int)=(p:Int):=by
 have hy:R / 2 ^ j<3329:=Nat.lt_of_le_of_lt (Nat.div_le_self _ _) hR
 refine⟨R / 2 ^ j,R / 2 ^ j % 2,rfl,by simp,and_oneB _ (by omega),?_⟩
 rw[IntKind.wrap_u8']
 omega

set_option maxRecDepth 100000 in
set_option maxHeartbeats 4000000 in
theorem spack_any (d:Nat) (D:Int) (hD:D=(d:Int)) (h1:1≤d) (h3:d≤12) (A:Array Value) (F:Nat→Int) (hF:Po F) (hA:A=((gI F).map (Value.int .i64)).toArray) (w:World):
  Calls Tryz.prog 196 #[.int .i64 D,.agg A] w fun r w'=>∃v,r=.returned v∧New 5 w v (pkL d F) w':=by
 subst hD
 obtain⟨ti,hti,hz0,hz1,hz2⟩:=info_parts infoS5
 have HF:Hid (Po F):=hF
 clear hF
 go_enter Tryz.func196,Tryz.ntmps196
 go_wp2_with (refine wpList_box_row (k:=.i64) rfl 224 _ rfl (gI F) (by rw[←hA];rfl) (gI_ne _) (poMax _) ?_)
 intro w1 ra bn sn
 rw[gI_length] at ra
 have hbw:=bn
 have n1:w.heap.size<w1.heap.size:=by have:=sn.out;omega
 clear bn sn hA
 go_wp2_with fail
 refine(packs_in d (by omega) (by omega) _).mono ?_
 rintro r w1 ⟨rfl,rfl⟩
 go_wp2_with fail
 refine(packSize_any d _ rfl (by omega) _).mono ?_
 rintro r w1 ⟨rfl,rfl⟩
 have HC:Hid (∀k,k<256→w1.cell? ⟨w.heap.size,k,none⟩=some (.int .i64 (F k))):=by
  show ∀k,_
  intro k hk
  have:=ra.cell (j:=k) (by rw[gI_length];exact hk)
  rw[gI_get _ hk] at this
  exact this
 obtain⟨s,hs⟩:∃s:Nat,s=32 * d:=⟨_,rfl⟩
 rw[←hs]
 have HS:Hid (s=32 * d):=hs
 have hsb:s≤384:=by omega
 clear hs ra
 go_wp2_with (at_make;go_must (refine wpList_make_full _ rfl _ _ 26 rfl w1.heap.size 5 ti _ 1 Tryz.underlying26 hti hz0 hz1 _ _ _ _ s rfl rfl (by omega) (by omega) (by rw[hz2];omega) (by unfold maxLen;omega) (Nat.le_refl _) ?_))
 intro w2 hown hgr
 have hN0:=New.made hown hgr
 have e0:List.replicate s (0:UInt8)=ppL d F (d * 0):=by rw[HS.out,Nat.mul_zero,ppL_zero]
 rw[e0] at hN0
 clear hown hgr e0
 go_wp2
 go_loopw [16] (fun iv wx=>∃i:Nat,i≤256∧iv=.int .i64 (i:Int)∧New 5 w1 (.slice (some ⟨w1.heap.size,0,none⟩) s s) (ppL d F (d * i)) wx) (fun iv _=>256 - (intOf iv).toNat)
 case atStart=>exact⟨0,by omega,rfl,hN0⟩
 case round=>
  obtain⟨i,hi,rfl,hN⟩:=hrel
  clear hN0
  by_cases hlt:i<256
  ·have hd:decide ((i:Int)<256)=true:=decide_eq_true (by omega)
   have hiI:(i:Int)<256:=by omega
   have hc:=cellB11 (HC.out i hlt) hN.2
   have HIn:Hid (In64 (F i)):=HF.out.in64 i
   obtain⟨fi,hfi⟩:∃x:Int,x=F i:=⟨_,rfl⟩
   rw[←hfi] at hc HIn
   have HFi:Hid _:=hfi
   clear hfi
   go_wp2_with fail
   refine(zmod_any fi HIn.out _).mono ?_
   rintro e wq ⟨rfl,rfl⟩
   obtain⟨R,hR⟩:∃x:Nat,x=rsZ fi:=⟨_,rfl⟩
   have hRl:R<3329:=by rw[hR];exact rsZ_lt _
   rw[←hR]
   have HBt:Hid (∀j,j<d→pkB d F (d * i+j)=R / 2 ^ j % 2):=by
    show ∀j,_
    intro j hj
    rw[pk_at12 d F i j hj,hR,HFi.out]
   have hN1:New 5 w1 (.slice (some ⟨w1.heap.size,0,none⟩) s s) (ppL d F (d * i+0)) wq:=hN
   clear hN hR hc HIn
   rename World=>wv
   go_wp2
   go_loopw [24] (fun jv wx=>∃j:Nat,j≤d∧jv=.int .i64 (j:Int)∧New 5 w1 (.slice (some ⟨w1.heap.size,0,none⟩) s s) (ppL d F (d * i+j)) wx) (fun jv _=>d - (intOf jv).toNat)
   case atStart=>exact⟨0,by omega,rfl,hN1⟩
   case round=>
    obtain⟨j,hj,rfl,hN⟩:=hrel
    clear hN1
    by_cases hltj:j<d
    ·have hdj:decide ((j:Int)<(d:Int))=true:=decide_eq_true (by omega)
     have hjI:(j:Int)<(d:Int):=by omega
     obtain⟨a,m,q,r,hm,hm2,hq,hr,hr8,x1,x2,x3,x4,x5,x6,x7,x8⟩:=place12_facts d i j h1 h3 hlt hltj
     obtain⟨y,p,hp,y1,y2,y3⟩:=low_facts R j hRl
     rw[←HBt.out j hltj,←hm] at hp
     have HM1:Hid (m+1=d * i+(j+1)):=by show _=_;omega
     rw[←hm] at hN
     obtain⟨g',c',ev, -,hcell,hfree, -⟩:=hN.store (j:=q) (by rw[ppL_length];omega)
     simp only[Value.slice.injEq,Option.some.injEq,Addr.mk.injEq,and_true,true_and] at ev
     obtain⟨rfl, -,rfl⟩:=ev
     obtain⟨x,hx⟩:∃x:Nat,x=((ppL d F m).getD (m / 8) 0).toNat:=⟨_,rfl⟩
     obtain⟨P,z,f1,f2,f3,hz,hset⟩:=lay_facts d F m x p hx hp hm2
     rw[←hq] at hx hset
     rw[←hx] at hcell
     rw[←hr] at f1
     have HNx:Hid (∀W:World,Below wr.heap.size wr W→New 5 w1 (.slice (some ⟨w1.heap.size,0,none⟩) s s) (ppL d F (d * i+(j+1))) (W.setCell ⟨w1.heap.size,q,none⟩ (.int .u8 (z:Int)))):=by
      intro W hW
      obtain⟨g2,c2,ev2, -, -, -,hset2⟩:=(hN.kept hW).store (j:=q) (by rw[ppL_length];omega)
      simp only[Value.slice.injEq,Option.some.injEq,Addr.mk.injEq,and_true,true_and] at ev2
      obtain⟨rfl, -,rfl⟩:=ev2
      have:=hset2 (UInt8.ofNat z)
      rw[hset,UInt8.toNat_ofNat',Nat.mod_eq_of_lt (show z<2 ^ 8 from hz),HM1.out] at this
      exact this
     have hqI:(q:Int)<(s:Int):=by have:=HS.out;omega
     have hqs:q<s:=by omega
     clear hN hm hm2 hq hr hp hx hset hz HM1
     go_wp2_with fail
     have hB:Below wr.heap.size wr wr.drew:=(Below.refl _ _).drew
     refine wpF_begin 15 (w0:=wr) (by kernel_rfl) ?_
     refine fP_ (.inr hB) 0 rfl ⟨_,by intro W;go_simp<;>with_reducible rfl,?_⟩
     try simp only[Act.put,pA_,pB_,pC_]
     refine fP_ (.inr hB) 1 rfl ⟨_,by intro W;go_simp<;>with_reducible rfl,?_⟩
     try simp only[Act.put,pA_,pB_,pC_]
     refine fP_ (.inr hB) 2 rfl ⟨_,by intro W;go_simp<;>with_reducible rfl,?_⟩
     try simp only[Act.put,pA_,pB_,pC_]
     refine fP_ (.inr hB) 3 rfl ⟨_,by intro W;go_simp<;>with_reducible rfl,?_⟩
     try simp only[Act.put,pA_,pB_,pC_]
     refine fU_ hB 4 rfl ⟨_,by intro W hW;have hcW:=cellB11 hcell hW;go_simp<;>with_reducible rfl,?_⟩
     try simp only[Act.put,pA_,pB_,pC_]
     refine fP_ (.inr hB) 5 rfl ⟨_,by intro W;go_simp<;>with_reducible rfl,?_⟩
     try simp only[Act.put,pA_,pB_,pC_]
     refine fP_ (.inr hB) 6 rfl ⟨_,by intro W;go_simp<;>with_reducible rfl,?_⟩
     try simp only[Act.put,pA_,pB_,pC_]
     refine fP_ (.inr hB) 7 rfl ⟨_,by intro W;go_simp<;>with_reducible rfl,?_⟩
     try simp only[Act.put,pA_,pB_,pC_]
     refine fP_ (.inr hB) 8 rfl ⟨_,by intro W;go_simp<;>with_reducible rfl,?_⟩
     try simp only[Act.put,pA_,pB_,pC_]
     refine fP_ (.inr hB) 9 rfl ⟨_,by intro W;go_simp<;>with_reducible rfl,?_⟩
     try simp only[Act.put,pA_,pB_,pC_]
     refine fP_ (.inr hB) 10 rfl ⟨_,by intro W;go_simp<;>with_reducible rfl,?_⟩
     try simp only[Act.put,pA_,pB_,pC_]
     refine fP_ (.inr hB) 11 rfl ⟨_,by intro W;go_simp<;>with_reducible rfl,?_⟩
     try simp only[Act.put,pA_,pB_,pC_]
     refine fP_ (.inr hB) 12 rfl ⟨_,by intro W;go_simp<;>with_reducible rfl,?_⟩
     try simp only[Act.put,pA_,pB_,pC_]
     refine fP_ (.inr hB) 13 rfl ⟨_,by intro W;go_simp<;>with_reducible rfl,?_⟩
     try simp only[Act.put,pA_,pB_,pC_]
     refine fP_ (.inr hB) 14 rfl ⟨_,by intro W;go_simp<;>with_reducible rfl,?_⟩
     try simp only[Act.put,pA_,pB_,pC_]
     refine fD_ 15 fun K hK=>?_
     go_simp
     refine hK.out _ _ (.inl rfl) ?_
     clear hK K
     try simp only[Act.put,pA_,pB_,pC_]
     refine wpF_done (by kernel_rfl) ?_
     have hN2:=HNx.out _ hB
     go_wp2
     go_roundw
     case rel=>exact⟨j+1,by omega,by go_num,hN2⟩
     case measure=>simp[intOf]<;>omega
    ·have hje:j=d:=by omega
     have hdj:decide ((j:Int)<(d:Int))=false:=decide_eq_false (by omega)
     have hjI:(d:Int)≤(j:Int):=by omega
     rw[hje,←Nat.mul_succ] at hN
     clear hje
     go_wp2
     go_roundw
     case rel=>exact⟨i+1,by omega,by go_num,hN⟩
     case measure=>simp[intOf]<;>omega
  ·have hie:i=256:=by omega
   have hd:decide ((i:Int)<256)=false:=decide_eq_false (by omega)
   have hiI:(256:Int)≤(i:Int):=by omega
   rw[hie,ppL_done] at hN
   have hOf:=hN.from hbw
   clear hie hN
   go_wp2
   go_ret
   exact⟨_,rfl,hOf⟩
set_option maxRecDepth 100000 in
set_option maxHeartbeats 2000000 in
theorem ncleaned_any (A:Array Value) (F:Nat→Int) (hF:Po F) (hA:A=((gI F).map (Value.int .i64)).toArray) (w:World):
  Calls Tryz.prog 255 #[.agg A] w fun e w'=>e=.returned (poV (rF F))∧Below w.heap.size w w':=by
 have HF:Hid (Po F):=hF
 have hmf:∀(fn:Fn) (first cap:Array Value) (w:World),(Instr.makeFunc fn first cap).run Tryz.prog w=.ok (.func fn first cap) w:=fun _ _ _ _=>rfl
 clear hF
 go_enter Tryz.func255,Tryz.ntmps255
 go_wp2_with (refine wpList_box_row (k:=.i64) rfl 224 _ rfl (gI F) (by rw[←hA];rfl) (gI_ne _) (poMax _) ?_)
 intro w1 ra b1 s1
 rw[gI_length] at ra
 have hbw:=b1
 have n1:w.heap.size<w1.heap.size:=by have:=s1.out;omega
 clear b1 s1 hA
 go_wp2_with (refine wpList_alloc_row (k:=.i64) rfl 224 rfl (gI fun _=>0) (alloc_poA _) (gI_ne _) (poMax _) ?_)
 intro w2 rz b2 s2
 rw[gI_length] at rz
 replace ra:=ra.kept b2
 replace hbw:=stepB hbw b2
 clear b2 s2
 go_wp2_with fail
 refine(placed_any 325 _ (rF F) _ (enters_by Tryz.func325 (by kernel_rfl) rfl) fun i hi W hW=>by rw[app1];exact cclean_any F HF.out _ i hi W (ra.kept hW)).mono ?_
 rintro e w3 ⟨rfl,b3⟩
 replace rz:=rz.kept b3
 replace hbw:=stepB hbw b3
 clear b3 ra
 go_wp2_with (refine wpList_store_row rfl 224 _ _ rfl (gI (fzF (rF F))) rfl rfl rz (by rw[gI_length,gI_length]) (poInfoA _) ?_;intro w7 r7 hw7)
 refine bodyPost_row (k:=.i64) rfl rfl rfl r7 Tryz.underlying224 rfl (poInfoA _) ?_
 exact⟨rfl,hw7.below _ _ (by omega) hbw⟩

set_option maxRecDepth 100000 in
set_option maxHeartbeats 2000000 in
theorem nplus_any (A B:Array Value) (F G:Nat→Int) (hF:Po F) (hG:Po G) (hA:A=((gI F).map (Value.int .i64)).toArray) (hB:B=((gI G).map (Value.int .i64)).toArray) (w:World):
  Calls Tryz.prog 265 #[.agg A,.agg B] w fun e w'=>e=.returned (poV (fun k=>rF F k+rF G k))∧Below w.heap.size w w':=by
 have HF:Hid (Po F):=hF
 have HG:Hid (Po G):=hG
 have hmf:∀(fn:Fn) (first cap:Array Value) (w:World),(Instr.makeFunc fn first cap).run Tryz.prog w=.ok (.func fn first cap) w:=fun _ _ _ _=>rfl
 clear hF hG
 go_enter Tryz.func265,Tryz.ntmps265
 go_wp2_with (refine wpList_box_row (k:=.i64) rfl 224 _ rfl (gI F) (by rw[←hA];rfl) (gI_ne _) (poMax _) ?_)
 intro w1 ra b1 s1
 rw[gI_length] at ra
 have hbw:=b1
 have n1:w.heap.size<w1.heap.size:=by have:=s1.out;omega
 clear b1 s1 hA
 go_wp2_with (refine wpList_box_row (k:=.i64) rfl 224 _ rfl (gI G) (by rw[←hB];rfl) (gI_ne _) (poMax _) ?_)
 intro w2 rb b2 s2
 rw[gI_length] at rb
 replace ra:=ra.kept b2
 replace hbw:=stepB hbw b2
 have n2:w1.heap.size<w2.heap.size:=by have:=s2.out;omega
 clear b2 s2 hB
 go_wp2_with (refine wpList_alloc_row (k:=.i64) rfl 224 rfl (gI fun _=>0) (alloc_poA _) (gI_ne _) (poMax _) ?_)
 intro w3 rz b3 s3
 rw[gI_length] at rz
 replace ra:=ra.kept b3
 replace rb:=rb.kept b3
 replace hbw:=stepB hbw b3
 clear b3 s3
 go_wp2_with fail
 refine(placed_any 329 _ (fun k=>rF F k+rF G k) _ (enters_by Tryz.func329 (by kernel_rfl) rfl) fun i hi W hW=>by rw[app2];exact cplus_any F G HF.out HG.out _ _ i hi W (ra.kept hW) (rb.kept hW)).mono ?_
 rintro e w4 ⟨rfl,b4⟩
 replace rz:=rz.kept b4
 replace hbw:=stepB hbw b4
 clear b4 ra rb
 go_wp2_with (refine wpList_store_row rfl 224 _ _ rfl (gI (fzF (fun k=>rF F k+rF G k))) rfl rfl rz (by rw[gI_length,gI_length]) (poInfoA _) ?_;intro w7 r7 hw7)
 refine bodyPost_row (k:=.i64) rfl rfl rfl r7 Tryz.underlying224 rfl (poInfoA _) ?_
 exact⟨rfl,hw7.below _ _ (by omega) hbw⟩

theorem alloc_int11 (w:World):(Instr.alloc 3 true (.tuple #[])).run Tryz.prog w=.ok (.pointer (some ⟨w.heap.size,0,none⟩)) (w.alloc (.cells (([0]:List Int).map (Value.int .i64)).toArray 3)):=by kernel_rfl
theorem fw_facts (l:Nat) (hl:l<7):∃h m h2:Nat,h=2 ^ (7 - l)∧m=2 ^ l∧h2=2 ^ (7 - (l+1))∧Int.tdiv 128 (h:Int)=(m:Int)∧IntKind.i64.wrap (m:Int)=(m:Int)∧((h:Int)==0)=false∧Int.tdiv (h:Int) 2=(h2:Int)∧IntKind.i64.wrap (h2:Int)=(h2:Int)∧decide (1<(h:Int))=true∧(1:Int)<h∧h2<h∧256 / (2 * h)=m∧2 * m≤128∧Hf h:=by
 refine⟨_,_,_,rfl,rfl,rfl,?_⟩
 unfold Hf
 have:l=0∨l=1∨l=2∨l=3∨l=4∨l=5∨l=6:=by omega
 rcases this with rfl|rfl|rfl|rfl|rfl|rfl|rfl<;>decide

set_option maxHeartbeats 1000000 in
theorem cfwd_any (m b g:Nat) (h:m+b<128) (w:World) (hT:PwT w) (r:RowAt .i64 3 g 1 [(m:Int)] w):
  Calls Tryz.prog 257 #[.int .i64 (b:Int),.pointer (some ⟨g,0,none⟩)] w fun e w'=>e=.returned (.int .i64 (((zt (m+b)).val:Nat):Int))∧Below w.heap.size w w':=by
 have hc:=r.cell (j:=0) (by simp)
 simp only[List.getD_cons_zero] at hc
 obtain⟨k,hk⟩:∃k:Nat,k=m+b:=⟨_,rfl⟩
 have x1:IntKind.i64.wrap ((m:Int)+(b:Int))=(k:Int):=by rw[IntWalk.i64_in _ (by omega)];omega
 have HK:Hid (k=m+b):=hk
 have HT:Hid (PwT w):=hT
 have HL:Hid (k<128):=by show _<_;omega
 clear hk r hT h
 go_enter Tryz.func257,Tryz.ntmps257
 go_wp2_with fail
 refine(zzetaF k HL.out _ HT.out).mono ?_
 rintro e w1 ⟨rfl,rfl⟩
 go_wp2
 go_ret
 exact⟨retZ (by rw[HK.out]),Below.refl _ _⟩

set_option maxRecDepth 100000 in
set_option maxHeartbeats 4000000 in
theorem nforward_any (A:Array Value) (F:Nat→Int) (hF:Po F) (hA:A=((gI F).map (Value.int .i64)).toArray) (w:World) (hT:PwT w):
  Calls Tryz.prog 186 #[.agg A] w fun e w'=>e=.returned (poV (fwd (rF F)))∧Below w.heap.size w w':=by
 have HF:Hid (Po F):=hF
 have HT:Hid (PwT w):=hT
 have hmf:∀(fn:Fn) (first cap:Array Value) (w:World),(Instr.makeFunc fn first cap).run Tryz.prog w=.ok (.func fn first cap) w:=fun _ _ _ _=>rfl
 clear hF hT
 go_enter Tryz.func186,Tryz.ntmps186
 go_wp2_with (refine wpList_box_row (k:=.i64) rfl 224 _ rfl (gI F) (by rw[←hA];rfl) (gI_ne _) (poMax _) ?_)
 intro w1 ra b1 s1
 rw[gI_length] at ra
 have hbw:=b1
 have n1:w.heap.size<w1.heap.size:=by have:=s1.out;omega
 clear b1 s1 hA
 go_wp2_with (refine wpList_alloc_row (k:=.i64) rfl 224 rfl (gI fun _=>0) (alloc_poA _) (gI_ne _) (poMax _) ?_)
 intro w2 rz b2 s2
 rw[gI_length] at rz
 replace ra:=ra.kept b2
 replace hbw:=stepB hbw b2
 have n2:w1.heap.size<w2.heap.size:=by have:=s2.out;omega
 clear b2 s2
 go_wp2_with (refine wpList_load_row rfl 224 _ rfl rfl ra _ Tryz.underlying224 rfl (poInfoA _) ?_)
 refine(ncleaned_any _ F HF.out rfl _).mono ?_
 rintro e w3 ⟨rfl,b3⟩
 replace rz:=rz.kept b3
 replace hbw:=stepB hbw b3
 have n3:=b3.size
 clear b3 ra
 obtain⟨f,hf⟩:∃f:Nat→FZ,f=rF F:=⟨_,rfl⟩
 rw[←hf]
 have HFF:Hid (f=rF F):=hf
 clear hf
 go_wp2_with (refine wpList_alloc_row (k:=.i64) rfl 224 rfl (gI fun _=>0) (alloc_poA _) (gI_ne _) (poMax _) ?_)
 intro w4 ro b4 s4
 rw[gI_length] at ro
 replace rz:=rz.kept b4
 replace hbw:=stepB hbw b4
 have n4:w3.heap.size<w4.heap.size:=by have:=s4.out;omega
 clear b4 s4
 go_wp2_with (refine wpList_store_row rfl 224 _ _ rfl (gI (fzF f)) rfl rfl ro (by rw[gI_length,gI_length]) (poInfoA _) ?_)
 intro w5 r5 hw5
 replace rz:=rz.wrote hw5 (by omega)
 replace hbw:=hw5.below _ _ (by omega) hbw
 rw[show gI (fzF f)=gI (fzF (stg f 0)) from fz_congr fun k hk=>(stg_first f k hk).symm] at r5
 have hlt3:w3.heap.size≠w1.heap.size∧w.heap.size≤w3.heap.size∧w.heap.size≤w1.heap.size:=by omega
 have HNE:Hid _:=hlt3
 clear hw5 ro n1 n2 n3 n4 hlt3
 go_wp2
 go_loopw [4] (fun hv wx=>∃(l h:Nat),l≤7∧Hid (h=2 ^ (7 - l))∧hv=.int .i64 (h:Int)∧RowAt .i64 224 w3.heap.size 256 (gI (fzF (stg f l))) wx∧RowAt .i64 224 w1.heap.size 256 (gI fun _=>0) wx∧Below w.heap.size w wx) (fun hv _=>(intOf hv).toNat)
 case atStart=>exact⟨0,128,by omega,(by show _=_;rfl),rfl,r5,rz,hbw⟩
 case round=>
  obtain⟨l,h,hl,HHL,rfl,ro,rx,hbx⟩:=hrel
  clear r5 rz hbw
  by_cases hlt:l<7
  ·obtain⟨h',m,h2,e1,e2,e3,x1,x2,x3,x4,x5,x6,x7,x8,x9,x10,x11⟩:=fw_facts l hlt
   have he:h'=h:=by rw[e1];exact HHL.out.symm
   subst he
   have HM:Hid (m=2 ^ l):=e2
   have HH2:Hid (h2=2 ^ (7 - (l+1))):=e3
   have H9:Hid (256 / (2 * h')=m):=x9
   have H10:Hid (2 * m≤128):=x10
   have H11:Hid (Hf h'):=x11
   clear e1 e2 e3 x9 x10 x11
   have no:=ro.lt
   have nx:=rx.lt
   go_wp2_with (refine wpList_alloc_row (k:=.i64) rfl 3 rfl [0] (alloc_int11 _) (by decide) (by decide) ?_)
   intro w6 ri b6 s6
   replace ro:=ro.kept b6
   replace rx:=rx.kept b6
   have hsz:=hbx.size
   replace hbx:=stepB hbx b6
   have n6:wr.heap.size<w6.heap.size:=by have:=s6.out;omega
   clear b6 s6
   go_wp2_with (refine wpList_store_int rfl _ _ rfl rfl (m:Int) rfl ri (by decide) ?_)
   intro w7 ri7 hw7
   replace ri7:RowAt .i64 3 wr.heap.size 1 [(m:Int)] w7:=ri7
   replace ro:=ro.wrote hw7 (by omega)
   replace rx:=rx.wrote hw7 (by omega)
   replace hbx:=hw7.below _ _ (by omega) hbx
   have hsm:w.heap.size≤w3.heap.size:=HNE.out.2.1
   have hne:w1.heap.size≠w3.heap.size:=fun e=>HNE.out.1 e.symm
   have HS1:Hid (w.heap.size≤w3.heap.size∧w1.heap.size≠w3.heap.size):=⟨hsm,hne⟩
   clear hw7 ri n6 no nx hsz hsm hne
   go_wp2_with (refine wpList_load_row rfl 224 _ rfl rfl ro _ Tryz.underlying224 rfl (poInfoA _) ?_)
   refine(crossed_any 257 259 _ _ (stg f l) rfl h' H11.out (fun b=>zt (m+b)) sp1 sp2 _ (enters_by Tryz.func257 (by kernel_rfl) rfl) (enters_by Tryz.func259 (by kernel_rfl) rfl)
    (fun b hb W hW=>by rw[app1];exact cfwd_any m b _ (by have:=H9.out;have:=H10.out;omega) W ((HT.out.kept hbx).kept hW) (ri7.kept hW)) (fun z a b W=>split_any z a b W)).mono ?_
   rintro e w8 ⟨rfl,b8⟩
   replace ro:=ro.kept b8
   replace rx:=rx.kept b8
   replace hbx:=stepB hbx b8
   clear b8 ri7
   go_wp2_with (refine wpList_store_row rfl 224 _ _ rfl (gI (fzF (xg h' (fun b=>zt (m+b)) sp1 sp2 (stg f l)))) rfl rfl ro (by rw[gI_length,gI_length]) (poInfoA _) ?_)
   intro w9 r9 hw9
   replace rx:=rx.wrote hw9 HS1.out.2
   replace hbx:=hw9.below _ _ HS1.out.1 hbx
   have HX:Hid (gI (fzF (xg h' (fun b=>zt (m+b)) sp1 sp2 (stg f l)))=gI (fzF (stg f (l+1)))):=by
    show _=_
    rw[HHL.out,HM.out]
    exact fz_congr fun k hk=>xg_fwd f l k hlt hk
   rw[HX.out] at r9
   clear hw9 ro HX
   go_wp2
   go_roundw
   case rel=>exact⟨l+1,h2,by omega,HH2,by go_num,r9,rx,hbx⟩
   case measure=>simp[intOf]<;>omega
  ·have hl7:l=7:=by omega
   have hh1:h=1:=by have:=HHL.out;rw[hl7] at this;exact this
   have hd:decide (1<(h:Int))=false:=by rw[hh1];decide
   have hdI:(h:Int)≤1:=by omega
   have HE:Hid (gI (fzF (stg f l))=gI (fzF (fwd f))):=by
    show _=_
    rw[hl7]
    exact fz_congr fun k hk=>stg_last f k hk
   rw[HE.out] at ro
   clear hl7 hh1
   go_wp2_with (first|refine wpList_load_row rfl 224 _ rfl rfl ro _ Tryz.underlying224 rfl (poInfoA _) ?_|(refine wpList_store_row rfl 224 _ _ rfl (gI (fzF (fwd f))) rfl rfl rx (by rw[gI_length,gI_length]) (poInfoA _) ?_;intro w7 r7 hw7))
   refine bodyPost_row (k:=.i64) rfl rfl rfl r7 Tryz.underlying224 rfl (poInfoA _) ?_
   exact⟨by rw[HFF.out],hw7.below _ _ HNE.out.2.2 hbx⟩
theorem sq_zr:∀i:Fin 128,17 * (zt i.val * zt i.val)=zr i.val:=by decide+kernel
set_option maxHeartbeats 1000000 in
theorem square_any (i:Nat) (h:i<128) (w:World) (hT:PwT w):
  Calls Tryz.prog 338 #[.int .i64 (i:Int)] w fun e w'=>e=.returned (.int .i64 (((zr i).val:Nat):Int))∧w'=w:=by
 have H1:Hid (ni (((zt i).val:Nat):Int) * ni (((zt i).val:Nat):Int)=zt i * zt i):=by show _=_;rw[ni_fz]
 have H2:Hid (ni 17 * ni (((zt i * zt i).val:Nat):Int)=zr i):=by
  show _=_
  rw[ni_fz,show ni 17=17 from rfl]
  exact sq_zr ⟨i,h⟩
 have HT:Hid (PwT w):=hT
 clear hT
 go_enter Tryz.func338,Tryz.ntmps338
 go_wp2_with fail
 refine(zzetaF i h _ HT.out).mono ?_
 rintro e w1 ⟨rfl,rfl⟩
 go_wp2_with fail
 refine(zmulF _ _ (in64_fz (zt i)) (in64_fz (zt i)) _).mono ?_
 rintro e w1 ⟨rfl,rfl⟩
 rw[H1.out]
 go_wp2_with fail
 refine(zmulF 17 _ ⟨by omega,by omega⟩ (in64_fz (zt i * zt i)) _).mono ?_
 rintro e w1 ⟨rfl,rfl⟩
 rw[H2.out]
 go_wp2
 go_ret
 exact⟨rfl,rfl⟩
theorem and_not_all:allB (fun i=>bits .andNot .i64 (i:Int) 1==((i - i % 2:Nat):Int)) 256=true:=by decide+kernel
theorem and_not (i:Nat) (h:i<256):bits .andNot .i64 (i:Int) 1=((i - i % 2:Nat):Int):=by
 have:=allB_at and_not_all i h
 simpa using this

set_option maxRecDepth 100000 in
set_option maxHeartbeats 2000000 in
theorem ctimes_any (F G:Nat→Int) (hF:Po F) (hG:Po G) (g h:Nat) (i:Nat) (hi:i<256) (w:World) (hT:PwT w) (r:RowAt .i64 224 g 256 (gI F) w) (s:RowAt .i64 224 h 256 (gI G) w):
  Calls Tryz.prog 337 #[.int .i64 (i:Int),.pointer (some ⟨g,0,none⟩),.pointer (some ⟨h,0,none⟩)] w fun e w'=>e=.returned (.int .i64 (((tm (rF F) (rF G) i).val:Nat):Int))∧Below w.heap.size w w':=by
 have hev:=and_not i hi
 obtain⟨v,hv⟩:∃v:Nat,v=i - i % 2:=⟨_,rfl⟩
 rw[←hv] at hev
 obtain⟨u,hu⟩:∃u:Nat,u=v+1:=⟨_,rfl⟩
 have hu6:u<256:=by omega
 have hv6:v<256:=by omega
 have hvI:(v:Int)<256:=by omega
 have huI:(u:Int)<256:=by omega
 have x1:IntKind.i64.wrap ((v:Int)+1)=(u:Int):=by rw[IntWalk.i64_in _ (by omega)];omega
 have ha0:=r.cell (j:=v) (by rw[gI_length];exact hv6)
 have ha1:=r.cell (j:=u) (by rw[gI_length];exact hu6)
 have hb0:=s.cell (j:=v) (by rw[gI_length];exact hv6)
 have hb1:=s.cell (j:=u) (by rw[gI_length];exact hu6)
 rw[gI_get _ hv6] at ha0 hb0
 rw[gI_get _ hu6] at ha1 hb1
 have HFv:Hid _:=hF.in64 v
 have HFu:Hid _:=hF.in64 u
 have HGv:Hid _:=hG.in64 v
 have HGu:Hid _:=hG.in64 u
 have HT:Hid (PwT w):=hT
 have HU:Hid (u=v+1):=hu
 have HV:Hid (v=i - i % 2):=hv
 clear r s hF hG hT hu hv
 go_enter Tryz.func337,Tryz.ntmps337
 go_wp2_with fail
 refine wpG_begin (by kernel_rfl) ?_
 refine gU_ 0 rfl ⟨_,by intro W hW;go_simp<;>with_reducible rfl,?_⟩
 try simp only[Act.put,pA_,pB_,pC_]
 refine gU_ 1 rfl ⟨_,by intro W hW;go_simp<;>with_reducible rfl,?_⟩
 try simp only[Act.put,pA_,pB_,pC_]
 refine gU_ 2 rfl ⟨_,by intro W hW;have hcW:=cellD11 ha0 hW;go_simp<;>with_reducible rfl,?_⟩
 try simp only[Act.put,pA_,pB_,pC_]
 refine gU_ 3 rfl ⟨_,by intro W hW;go_simp<;>with_reducible rfl,?_⟩
 try simp only[Act.put,pA_,pB_,pC_]
 refine gU_ 4 rfl ⟨_,by intro W hW;go_simp<;>with_reducible rfl,?_⟩
 try simp only[Act.put,pA_,pB_,pC_]
 refine gU_ 5 rfl ⟨_,by intro W hW;go_simp<;>with_reducible rfl,?_⟩
 try simp only[Act.put,pA_,pB_,pC_]
 refine gU_ 6 rfl ⟨_,by intro W hW;have hcW:=cellD11 ha1 hW;go_simp<;>with_reducible rfl,?_⟩
 try simp only[Act.put,pA_,pB_,pC_]
 refine gU_ 7 rfl ⟨_,by intro W hW;go_simp<;>with_reducible rfl,?_⟩
 try simp only[Act.put,pA_,pB_,pC_]
 refine gU_ 8 rfl ⟨_,by intro W hW;go_simp<;>with_reducible rfl,?_⟩
 try simp only[Act.put,pA_,pB_,pC_]
 refine gU_ 9 rfl ⟨_,by intro W hW;have hcW:=cellD11 hb0 hW;go_simp<;>with_reducible rfl,?_⟩
 try simp only[Act.put,pA_,pB_,pC_]
 refine gU_ 10 rfl ⟨_,by intro W hW;go_simp<;>with_reducible rfl,?_⟩
 try simp only[Act.put,pA_,pB_,pC_]
 refine gU_ 11 rfl ⟨_,by intro W hW;go_simp<;>with_reducible rfl,?_⟩
 try simp only[Act.put,pA_,pB_,pC_]
 refine gU_ 12 rfl ⟨_,by intro W hW;go_simp<;>with_reducible rfl,?_⟩
 try simp only[Act.put,pA_,pB_,pC_]
 refine gU_ 13 rfl ⟨_,by intro W hW;have hcW:=cellD11 hb1 hW;go_simp<;>with_reducible rfl,?_⟩
 try simp only[Act.put,pA_,pB_,pC_]
 refine gU_ 14 rfl ⟨_,by intro W hW;go_simp<;>with_reducible rfl,?_⟩
 try simp only[Act.put,pA_,pB_,pC_]
 refine gU_ 15 rfl ⟨_,by intro W hW;go_simp<;>with_reducible rfl,?_⟩
 try simp only[Act.put,pA_,pB_,pC_]
 refine gU_ 16 rfl ⟨_,by intro W hW;go_simp<;>with_reducible rfl,?_⟩
 try simp only[Act.put,pA_,pB_,pC_]
 refine gU_ 17 rfl ⟨_,by intro W hW;go_simp<;>with_reducible rfl,?_⟩
 try simp only[Act.put,pA_,pB_,pC_]
 refine wpG_done (by kernel_rfl) ?_
 have HTd:Hid (PwT w.drew):=HT.out.kept (Below.refl _ _).drew
 clear ha0 ha1 hb0 hb1 hev
 by_cases hodd:i % 2=1
 ·have hne:((i:Int) !=(v:Int))=true:=by
   have:=HV.out
   simp
   omega
  have hneI:¬(i:Int)=(v:Int):=by have:=HV.out;omega
  have hneN:¬i=v:=by omega
  have HE:Hid (ni (((ni (F v) * ni (G u)).val:Nat):Int)+ni (((ni (F u) * ni (G v)).val:Nat):Int)=tm (rF F) (rF G) i):=by
   show _=_
   rw[ni_fz,ni_fz]
   unfold tm
   rw[if_neg (by omega)]
   have e1:u=i:=by have:=HU.out;have:=HV.out;omega
   have e2:v=i - 1:=by have:=HV.out;omega
   rw[e1,e2]
   rfl
  go_wp2_with fail
  refine(zmulF _ _ HFv.out HGu.out _).mono ?_
  rintro e w1 ⟨rfl,rfl⟩
  go_wp2_with fail
  refine(zmulF _ _ HFu.out HGv.out _).mono ?_
  rintro e w1 ⟨rfl,rfl⟩
  go_wp2_with fail
  refine(zaddF _ _ (in64_fz _) (in64_fz _) _).mono ?_
  rintro e w1 ⟨rfl,rfl⟩
  rw[HE.out]
  go_wp2
  go_ret
  exact⟨rfl,(Below.refl _ _).drew⟩
 ·have hie:v=i:=by have:=HV.out;omega
  subst hie
  obtain⟨q,hq⟩:∃q:Nat,q=v / 2:=⟨_,rfl⟩
  have x2:Int.tdiv (v:Int) 2=(q:Int):=by rw[Int.tdiv_eq_ediv_of_nonneg (by omega)];omega
  have x3:IntKind.i64.wrap (q:Int)=(q:Int):=IntWalk.i64_in _ (by omega)
  have HQ:Hid (q<128):=by show _<_;omega
  have HE:Hid (ni (((ni (F v) * ni (G v)).val:Nat):Int)+ni (((ni (((zr q).val:Nat):Int) * ni (((ni (F u) * ni (G u)).val:Nat):Int)).val:Nat):Int)=tm (rF F) (rF G) v):=by
   show _=_
   rw[ni_fz,ni_fz,ni_fz,ni_fz]
   unfold tm
   rw[if_pos (by omega),HU.out,hq,ni_rF,ni_rF,ni_rF,ni_rF]
   grind -lia
  clear hq
  go_wp2_with fail
  refine(zmulF _ _ HFv.out HGv.out _).mono ?_
  rintro e w1 ⟨rfl,rfl⟩
  go_wp2_with fail
  refine(square_any q HQ.out _ HTd.out).mono ?_
  rintro e w1 ⟨rfl,rfl⟩
  go_wp2_with fail
  refine(zmulF _ _ HFu.out HGu.out _).mono ?_
  rintro e w1 ⟨rfl,rfl⟩
  go_wp2_with fail
  refine(zmulF _ _ (in64_fz _) (in64_fz _) _).mono ?_
  rintro e w1 ⟨rfl,rfl⟩
  go_wp2_with fail
  refine(zaddF _ _ (in64_fz _) (in64_fz _) _).mono ?_
  rintro e w1 ⟨rfl,rfl⟩
  rw[HE.out]
  go_wp2
  go_ret
  exact⟨rfl,(Below.refl _ _).drew⟩
set_option maxRecDepth 100000 in
set_option maxHeartbeats 2000000 in
theorem ntimes_any (A B:Array Value) (F G:Nat→Int) (hF:Po F) (hG:Po G) (hA:A=((gI F).map (Value.int .i64)).toArray) (hB:B=((gI G).map (Value.int .i64)).toArray) (w:World) (hT:PwT w):
  Calls Tryz.prog 286 #[.agg A,.agg B] w fun e w'=>e=.returned (poV (tm (rF F) (rF G)))∧Below w.heap.size w w':=by
 have HF:Hid (Po F):=hF
 have HG:Hid (Po G):=hG
 have hmf:∀(fn:Fn) (first cap:Array Value) (w:World),(Instr.makeFunc fn first cap).run Tryz.prog w=.ok (.func fn first cap) w:=fun _ _ _ _=>rfl
 have HT:Hid (PwT w):=hT
 clear hF hG hT
 go_enter Tryz.func286,Tryz.ntmps286
 go_wp2_with (refine wpList_box_row (k:=.i64) rfl 224 _ rfl (gI F) (by rw[←hA];rfl) (gI_ne _) (poMax _) ?_)
 intro w1 ra b1 s1
 rw[gI_length] at ra
 have hbw:=b1
 have n1:w.heap.size<w1.heap.size:=by have:=s1.out;omega
 clear b1 s1 hA
 go_wp2_with (refine wpList_box_row (k:=.i64) rfl 224 _ rfl (gI G) (by rw[←hB];rfl) (gI_ne _) (poMax _) ?_)
 intro w2 rb b2 s2
 rw[gI_length] at rb
 replace ra:=ra.kept b2
 replace hbw:=stepB hbw b2
 have n2:w1.heap.size<w2.heap.size:=by have:=s2.out;omega
 clear b2 s2 hB
 go_wp2_with (refine wpList_alloc_row (k:=.i64) rfl 224 rfl (gI fun _=>0) (alloc_poA _) (gI_ne _) (poMax _) ?_)
 intro w3 rz b3 s3
 rw[gI_length] at rz
 replace ra:=ra.kept b3
 replace rb:=rb.kept b3
 replace hbw:=stepB hbw b3
 clear b3 s3
 go_wp2_with fail
 refine(placed_any 337 _ (tm (rF F) (rF G)) _ (enters_by Tryz.func337 (by kernel_rfl) rfl) fun i hi W hW=>by rw[app2];exact ctimes_any F G HF.out HG.out _ _ i hi W ((HT.out.kept hbw).kept hW) (ra.kept hW) (rb.kept hW)).mono ?_
 rintro e w4 ⟨rfl,b4⟩
 replace rz:=rz.kept b4
 replace hbw:=stepB hbw b4
 clear b4 ra rb
 go_wp2_with (refine wpList_store_row rfl 224 _ _ rfl (gI (fzF (tm (rF F) (rF G)))) rfl rfl rz (by rw[gI_length,gI_length]) (poInfoA _) ?_;intro w7 r7 hw7)
 refine bodyPost_row (k:=.i64) rfl rfl rfl r7 Tryz.underlying224 rfl (poInfoA _) ?_
 exact⟨rfl,hw7.below _ _ (by omega) hbw⟩

set_option maxRecDepth 100000 in
set_option maxHeartbeats 4000000 in
theorem snoise_any (e:Nat) (E:Int) (hE:E=(e:Int)) (h1:1≤e) (h3:e≤3) (v:Value) (b:List UInt8) (w:World) (hb:Rd w v b) (hbl:b.length=64 * e):
  Calls Tryz.prog 363 #[.int .i64 E,v] w fun r w'=>r=.returned (.tuple #[poV (nsF e b),.int .i64 0])∧Below w.heap.size w w':=by
 subst hE
 have HB:Hid (Rd w v b):=hb
 have HL:Hid (b.length=64 * e):=hbl
 obtain⟨ab,cb,rfl, -, -, -, -⟩:=id hb
 obtain⟨N,hN⟩:∃N:Nat,N=b.length:=⟨_,rfl⟩
 obtain⟨s,hs⟩:∃s:Nat,s=64 * e:=⟨_,rfl⟩
 have c6:((N:Int) !=(s:Int))=false:=by
  simp only[bne_eq_false_iff_eq]
  omega
 have c7:(N:Int)=(s:Int):=by omega
 rw[←hN]
 rw[←hN] at HB
 have HS:Hid (s=64 * e):=hs
 have HN:Hid (N=b.length):=hN
 clear hb hbl hs hN
 go_enter Tryz.func363,Tryz.ntmps363
 go_wp2_with (refine wpList_alloc_row (k:=.i64) rfl 224 rfl (gI fun _=>0) (alloc_poS _) (gI_ne _) (poMax _) ?_)
 intro w1 rz bn sn
 rw[gI_length] at rz
 have hbw:=bn
 have n1:w.heap.size<w1.heap.size:=by have:=sn.out;omega
 clear bn sn
 go_wp2_with fail
 refine(isEta_in e (by omega) (by omega) _).mono ?_
 rintro r w1 ⟨rfl,rfl⟩
 go_wp2_with fail
 refine(noiseSize_any e _ rfl (by omega) _).mono ?_
 rintro r w1 ⟨rfl,rfl⟩
 rw[←HS.out]
 go_wp2_with (refine wpList_alloc_row (k:=.i64) rfl 224 rfl (gI fun _=>0) (alloc_poS _) (gI_ne _) (poMax _) ?_)
 intro w2 rp bn sn
 rw[gI_length] at rp
 replace rz:=rz.kept bn
 replace hbw:=stepB hbw bn
 clear bn sn c6 c7
 go_wp2
 go_loopw [20] (fun iv wx=>∃(i:Nat) (H:Nat→Int),i≤256∧iv=.int .i64 (i:Int)∧Hid (∀k,k<i→H k=fzF (nsF e b) k)∧RowAt .i64 224 w.heap.size 256 (gI fun _=>0) wx∧RowAt .i64 224 w1.heap.size 256 (gI H) wx∧Below w.heap.size w wx) (fun iv _=>256 - (intOf iv).toNat)
 case atStart=>exact⟨0,fun _=>0,by omega,rfl,(by show ∀k,_;intro k hk;omega),rz,rp,hbw⟩
 case round=>
  obtain⟨i,H,hi,rfl,HH,rz',rp',hbx⟩:=hrel
  clear rz rp hbw
  by_cases hlt:i<256
  ·have hd:decide ((i:Int)<256)=true:=decide_eq_true (by omega)
   have hiI:(i:Int)<256:=by omega
   obtain⟨a2,ae,ae2,hae,hae2,hl,x1,x2,x3⟩:=noise2_facts e i h1 h3 hlt
   have HR:Hid (Rd wr (.slice ab N cb) b):=Rd.kept HB.out hbx
   have HE:Hid _:=ns_sub e b i h3
   rw[←hae2,←hae] at HE
   have HAe:Hid (ae2+e≤8 * b.length):=by have:=HL.out;show _≤_;omega
   have HAe0:Hid (ae+e≤ae2+e∧ae≤1000000∧ae2≤1000000):=by show _∧_;omega
   have HI:Hid (i<256):=hlt
   clear hae hae2 hl
   go_wp2_with fail
   refine(ones_any _ b ae e _ _ rfl rfl (by omega) (by have:=HAe.out;have:=HAe0.out;omega) (by have:=HAe0.out;omega) _ HR.out).mono ?_
   rintro r w4 ⟨rfl,rfl⟩
   go_wp2_with fail
   refine(ones_any _ b ae2 e _ _ rfl rfl (by omega) HAe.out (by have:=HAe0.out;omega) _ HR.out).mono ?_
   rintro r w4 ⟨rfl,rfl⟩
   have k1:=cn_le b ae e
   have k2:=cn_le b ae2 e
   generalize cn b ae e=p at HE k1
   generalize cn b ae2 e=q at HE k2
   go_wp2_with fail
   refine(zsub_any _ _ (by show _∧_;omega) (by show _∧_;omega) _).mono ?_
   rintro r w4 ⟨rfl,rfl⟩
   have HG:=put_placeS HH.out
   rw[←HE.out] at HG
   have HG5:Hid _:=HG
   clear HG
   generalize rsZ ((p:Int) - (q:Int))=z at HG5
   go_wp2_with (refine wpList_store_int rfl _ _ rfl rfl (z:Int) rfl rp' (by rw[gI_length];exact HI.out) ?_)
   intro w8 r8 hw8
   rw[gI_set] at r8
   have rz8:=rz'.wrote hw8 (by omega)
   have hb8:=hw8.below _ _ (by omega) hbx
   clear rz' rp' hbx hw8
   go_wp2
   go_roundw
   case rel=>exact⟨i+1,_,by omega,by go_num,HG5,rz8,r8,hb8⟩
   case measure=>simp[intOf]<;>omega
  ·have hie:i=256:=by omega
   have hd:decide ((i:Int)<256)=false:=decide_eq_false (by omega)
   have hiI:(256:Int)≤(i:Int):=by omega
   have HE:Hid (gI H=gI (fzF (nsF e b))):=by
    show _=_
    exact gI_congr fun k hk=>HH.out k (by omega)
   rw[HE.out] at rp'
   clear hie
   go_wp2_with (first|refine wpList_load_row rfl 224 _ rfl rfl rp' _ Tryz.underlying224 rfl (poInfoS _) ?_|(refine wpList_store_row rfl 224 _ _ rfl (gI (fzF (nsF e b))) rfl rfl rz' (by rw[gI_length,gI_length]) (poInfoS _) ?_;intro w7 r7 hw7))
   refine bodyPost_po (k:=.i64) rfl rfl rfl rfl r7 Tryz.underlying224 rfl (poInfoS _) ?_
   exact⟨rfl,hw7.below _ _ (Nat.le_refl _) hbx⟩

theorem mul_facts12 (d i:Nat) (h2:d≤12) (hi:i<256):∃a:Nat,a=d * i∧a+d≤256 * d∧IntKind.i64.wrap ((d:Int) * (i:Int))=(a:Int)∧(d:Int) * (i:Int)=(a:Int):=by
 have h3:d * i+d≤256 * d:=by
  have:=Nat.mul_le_mul_left d (show i+1≤256 by omega)
  rw[Nat.mul_succ,Nat.mul_comm d 256] at this
  exact this
 refine⟨d * i,rfl,h3,?_,by rw[Int.natCast_mul]⟩
 rw[←Int.natCast_mul]
 exact IntWalk.i64_in _ (by omega)
theorem bs_small12 (f:Nat→Nat) (hf:∀k,f k<2) (o n:Nat) (hn:n≤12):bs f o n<4096:=by
 have h1:=bs_lt f hf n o
 have h2:2 ^ n≤2 ^ 12:=Nat.pow_le_pow_right (by decide) hn
 have h3:(2:Nat) ^ 12=4096:=by decide
 omega

set_option maxRecDepth 100000 in
set_option maxHeartbeats 4000000 in
theorem sunpack_any (e:Nat) (E:Int) (hE:E=(e:Int)) (h1:1≤e) (h3:e≤12) (v:Value) (b:List UInt8) (w:World) (hb:Rd w v b) (hbl:b.length=32 * e):
  Calls Tryz.prog 195 #[.int .i64 E,v] w fun r w'=>r=.returned (.tuple #[poV (upF e b),.int .i64 0])∧Below w.heap.size w w':=by
 subst hE
 have HB:Hid (Rd w v b):=hb
 have HL:Hid (b.length=32 * e):=hbl
 obtain⟨ab,cb,rfl, -, -, -, -⟩:=id hb
 obtain⟨N,hN⟩:∃N:Nat,N=b.length:=⟨_,rfl⟩
 obtain⟨s,hs⟩:∃s:Nat,s=32 * e:=⟨_,rfl⟩
 have c6:((N:Int) !=(s:Int))=false:=by
  simp only[bne_eq_false_iff_eq]
  omega
 have c7:(N:Int)=(s:Int):=by omega
 rw[←hN]
 rw[←hN] at HB
 have HS:Hid (s=32 * e):=hs
 have HN:Hid (N=b.length):=hN
 clear hb hbl hs hN
 go_enter Tryz.func195,Tryz.ntmps195
 go_wp2_with (refine wpList_alloc_row (k:=.i64) rfl 224 rfl (gI fun _=>0) (alloc_poS _) (gI_ne _) (poMax _) ?_)
 intro w1 rz bn sn
 rw[gI_length] at rz
 have hbw:=bn
 have n1:w.heap.size<w1.heap.size:=by have:=sn.out;omega
 clear bn sn
 go_wp2_with fail
 refine(packs_in e (by omega) (by omega) _).mono ?_
 rintro r w1 ⟨rfl,rfl⟩
 go_wp2_with fail
 refine(packSize_any e _ rfl (by omega) _).mono ?_
 rintro r w1 ⟨rfl,rfl⟩
 rw[←HS.out]
 go_wp2_with (refine wpList_alloc_row (k:=.i64) rfl 224 rfl (gI fun _=>0) (alloc_poS _) (gI_ne _) (poMax _) ?_)
 intro w2 rp bn sn
 rw[gI_length] at rp
 replace rz:=rz.kept bn
 replace hbw:=stepB hbw bn
 clear bn sn c6 c7
 go_wp2
 go_loopw [19] (fun iv wx=>∃(i:Nat) (H:Nat→Int),i≤256∧iv=.int .i64 (i:Int)∧Hid (∀k,k<i→H k=fzF (upF e b) k)∧RowAt .i64 224 w.heap.size 256 (gI fun _=>0) wx∧RowAt .i64 224 w1.heap.size 256 (gI H) wx∧Below w.heap.size w wx) (fun iv _=>256 - (intOf iv).toNat)
 case atStart=>exact⟨0,fun _=>0,by omega,rfl,(by show ∀k,_;intro k hk;omega),rz,rp,hbw⟩
 case round=>
  obtain⟨i,H,hi,rfl,HH,rz',rp',hbx⟩:=hrel
  clear rz rp hbw
  by_cases hlt:i<256
  ·have hd:decide ((i:Int)<256)=true:=decide_eq_true (by omega)
   have hiI:(i:Int)<256:=by omega
   obtain⟨ae,hae,hl,x1, -⟩:=mul_facts12 e i h3 hlt
   have HR:Hid (Rd wr (.slice ab N cb) b):=Rd.kept HB.out hbx
   have HE:Hid (rsZ ((bs (btY b) ae e:Nat):Int)=(upF e b i).val):=by rw[hae];exact upF_val e b i
   have HAe:Hid (ae+e≤8 * b.length∧ae≤1000000):=by have:=HL.out;show _∧_;omega
   have HI:Hid (i<256):=hlt
   clear hae hl
   go_wp2_with fail
   refine(number_any _ b ae e _ _ rfl rfl (by omega) HAe.out.1 HAe.out.2 _ HR.out).mono ?_
   rintro r w4 ⟨rfl,rfl⟩
   have k1:=bs_small12 (btY b) (btY_lt b) ae e h3
   generalize bs (btY b) ae e=p at HE k1
   go_wp2_with fail
   refine(zmod_any _ (by show _∧_;omega) _).mono ?_
   rintro r w4 ⟨rfl,rfl⟩
   have HG:=put_placeS HH.out
   rw[←HE.out] at HG
   have HG5:Hid _:=HG
   clear HG
   generalize rsZ (p:Int)=z at HG5
   go_wp2_with (refine wpList_store_int rfl _ _ rfl rfl (z:Int) rfl rp' (by rw[gI_length];exact HI.out) ?_)
   intro w8 r8 hw8
   rw[gI_set] at r8
   have rz8:=rz'.wrote hw8 (by omega)
   have hb8:=hw8.below _ _ (by omega) hbx
   clear rz' rp' hbx hw8
   go_wp2
   go_roundw
   case rel=>exact⟨i+1,_,by omega,by go_num,HG5,rz8,r8,hb8⟩
   case measure=>simp[intOf]<;>omega
  ·have hie:i=256:=by omega
   have hd:decide ((i:Int)<256)=false:=decide_eq_false (by omega)
   have hiI:(256:Int)≤(i:Int):=by omega
   have HE:Hid (gI H=gI (fzF (upF e b))):=by
    show _=_
    exact gI_congr fun k hk=>HH.out k (by omega)
   rw[HE.out] at rp'
   clear hie
   go_wp2_with (first|refine wpList_load_row rfl 224 _ rfl rfl rp' _ Tryz.underlying224 rfl (poInfoS _) ?_|(refine wpList_store_row rfl 224 _ _ rfl (gI (fzF (upF e b))) rfl rfl rz' (by rw[gI_length,gI_length]) (poInfoS _) ?_;intro w7 r7 hw7))
   refine bodyPost_po (k:=.i64) rfl rfl rfl rfl r7 Tryz.underlying224 rfl (poInfoS _) ?_
   exact⟨rfl,hw7.below _ _ (Nat.le_refl _) hbx⟩
theorem gI_unG12 (l:List Nat) (n x:Nat) (h:n=l.length):(gI (unG l)).set n ((x:Nat):Int)=gI (unG (l++[x])):=by
 subst h
 rw[gI_set]
 exact gI_congr fun k _=>unG_put l x k
theorem entersS {f:FuncId} {fn:Func} {c:Code} (hf:Tryz.prog.funcs[f]?=some fn) (hn:(fn.name== "runtime.NumGoroutine")=false) (hb:fn.body=some c) (args:Array Value) (w:World):(callFunc f args).run Tryz.prog w=.ok (.enter f args) w:=enters_of hf hn hb args w

set_option maxRecDepth 100000 in
set_option maxHeartbeats 8000000 in
theorem chosen_any (K:FuncId) (gx:Nat) (f:Nat→Nat) (w:World) (hE:∀(args:Array Value) (w:World),(callFunc K args).run Tryz.prog w=.ok (.enter K args) w)
  (hK:∀(p:Nat) (W:World),XP gx f 168 p W→Tabs W→Calls Tryz.prog K #[.pointer (some ⟨gx,0,none⟩),.int .i64 3] W fun e w'=>∃v,e=.returned v∧w'.ownsRow W.heap.size 5 1 v (pcL f 168 p 3).length ((pcL f 168 p 3).map bv)∧XP gx f 168 (p+3) w'∧Chg (fun b=>b=gx) W w'∧Tabs w')
  (hX:XP gx f 168 0 w) (hT:Tabs w) (hg:7<gx):
  Calls Tryz.prog 327 #[.func (.func K) #[.pointer (some ⟨gx,0,none⟩)] #[]] w fun e w'=>e=.returned (poV (unF (smF f 168)))∧Chg (fun b=>b=gx) w w':=by
 have HK:Hid _:=hK
 have hgl:=hX.lt
 obtain⟨S,hS⟩:∃S:Nat→UInt8,S=smF f 168:=⟨_,rfl⟩
 have HS:Hid (S=smF f 168):=hS
 clear hK hS
 have hX0:XP gx f 168 (3 * 0) w:=hX
 clear hX
 go_enter Tryz.func327,Tryz.ntmps327
 go_wp2_with (refine wpList_alloc_row (k:=.i64) rfl 224 rfl (gI fun _=>0) (alloc_poS _) (gI_ne _) (poMax _) ?_)
 intro w1 rz b1 s1
 rw[gI_length] at rz
 go_wp2_with (refine wpList_alloc_row (k:=.i64) rfl 224 rfl (gI fun _=>0) (alloc_poS _) (gI_ne _) (poMax _) ?_)
 intro w2 ro b2 s2
 rw[gI_length] at ro
 replace rz:=rz.kept b2
 have hbw:=stepB b1 b2
 have n1:w.heap.size<w1.heap.size:=by have:=s1.out;omega
 have hX2:=hX0.kept hbw
 have hT2:=hT.kept hbw
 have hc2:Chg (fun b=>b=gx) w w2:=Chg.of_below hbw
 rw[←unG_nil] at ro
 clear b1 b2 s1 s2 hX0 hT hbw
 go_wp2
 go_loopw [4,5] (fun nv gv wx=>∃g n:Nat,g≤1344∧n≤256∧gv=.int .i64 (g:Int)∧nv=.int .i64 (n:Int)∧Hid (n=(unA S (2 * g)).length)∧XP gx f 168 (3 * g) wx∧Tabs wx∧RowAt .i64 224 w.heap.size 256 (gI fun _=>0) wx∧RowAt .i64 224 w1.heap.size 256 (gI (unG (unA S (2 * g)))) wx∧Chg (fun b=>b=gx) w wx) (fun _ gv _=>1344 - (intOf gv).toNat)
 case atStart=>exact⟨0,0,by omega,by omega,rfl,rfl,(by show _=_;rfl),hX2,hT2,rz,ro,hc2⟩
 case round=>
  obtain⟨g,n,hgr,hn,rfl,rfl,HN,hX,hT,rz',ro',hcx⟩:=hrel
  clear hX2 hT2 rz ro hc2
  by_cases hgo:g<1344∧n<256
  ·obtain⟨hg1,hn1⟩:=hgo
   have hd1:decide ((g:Int)<1344)=true:=decide_eq_true (by omega)
   have hd2:decide ((n:Int)<256)=true:=decide_eq_true (by omega)
   have hgI:(g:Int)<1344:=by omega
   have hnI:(n:Int)<256:=by omega
   have HBt:Hid (∀i,i<2→bs (btY (pcL f 168 (3 * g) 3)) (12 * i) 12=cdN S (2 * g+i)):=by
    show ∀i,_
    intro i hi
    rw[HS.out]
    exact two_of_three (smF f 168) g i hi
   have hsz:=hcx.size
   have HLo:Hid (w1.heap.size<wr.heap.size):=ro'.lt
   go_wp2_with fail
   refine(HK.out (3 * g) _ hX hT).mono ?_
   rintro e w3 ⟨vb,rfl,hown,hX3,hC3,hT3⟩
   replace rz':=rz'.chg hC3 (by omega)
   replace ro':=ro'.chg hC3 (by omega)
   obtain⟨Bs,hBs⟩:∃B:Nat,B=wr.heap.size:=⟨_,rfl⟩
   rw[←hBs] at hown
   have hB1:w1.heap.size<Bs∧w.heap.size<Bs:=by rw[hBs];exact⟨HLo.out,by have:=HLo.out;omega⟩
   replace hcx:=hcx.trans hC3
   obtain⟨bl,hbl⟩:∃bl:List UInt8,bl=pcL f 168 (3 * g) 3:=⟨_,rfl⟩
   have HLb:Hid (bl.length=3):=by show _=_;rw[hbl,pcL_length]
   rw[←hbl] at hown HBt
   have hoc:Hid (∃ab cb,vb=.slice ab bl.length cb):=by
    obtain⟨ab,cb,e,_⟩:=Rd.of_row hown
    exact⟨ab,cb,e⟩
   obtain⟨ab,cb,rfl⟩:=hoc.out
   rw[HLb.out] at hown ⊢
   have hX4:XP gx f 168 (3 * (g+1)) w3:=hX3
   have hN0:Hid (n=(unA S (2 * g+0)).length):=HN
   have ro0:RowAt .i64 224 w1.heap.size 256 (gI (unG (unA S (2 * g+0)))) w3:=ro'
   clear hBs hbl hoc hX hT hC3 hX3 HN ro' hd1 hd2 hgI hnI hn1 hsz HLo
   rename World=>wv
   go_wp2
   go_loopw [4,19] (fun nv iv wx=>∃i n:Nat,i≤2∧n≤256∧iv=.int .i64 (i:Int)∧nv=.int .i64 (n:Int)∧Hid (n=(unA S (2 * g+i)).length)∧XP gx f 168 (3 * (g+1)) wx∧Tabs wx∧wx.ownsRow Bs 5 1 (.slice ab 3 cb) 3 (bl.map bv)∧RowAt .i64 224 w.heap.size 256 (gI fun _=>0) wx∧RowAt .i64 224 w1.heap.size 256 (gI (unG (unA S (2 * g+i)))) wx∧Chg (fun b=>b=gx) w wx) (fun _ iv _=>2 - (intOf iv).toNat)
   case atStart=>exact⟨0,n,by omega,hn,rfl,rfl,hN0,hX4,hT3,hown,rz',ro0,hcx⟩
   case round=>
    obtain⟨i,m,hi,hm,rfl,rfl,HN,hX,hT,hO,rz2,ro2,hc2⟩:=hrel
    clear hN0 hX4 hT3 hown rz' ro0 hcx
    by_cases hlt:i<2
    ·have hd:decide ((i:Int)<2)=true:=decide_eq_true (by omega)
     have hiI:(i:Int)<2:=by omega
     obtain⟨t,ht⟩:∃t:Nat,t=12 * i:=⟨_,rfl⟩
     have xt:IntKind.i64.wrap (12 * (i:Int))=(t:Int):=by rw[IntWalk.i64_in _ (by omega)];omega
     have HR:Hid (Rd wr (.slice ab 3 cb) bl):=by
      have:=Rd.of_row (l:=bl) (by rw[HLb.out];exact hO)
      exact this
     have HE:Hid (bs (btY bl) t 12=cdN S (2 * g+i)):=by show _=_;rw[ht];exact HBt.out i hlt
     have htb:t≤12:=by omega
     clear ht
     go_wp2_with fail
     refine(number_any _ bl t 12 _ _ rfl rfl (by omega) (by rw[HLb.out];omega) (by omega) _ HR.out).mono ?_
     rintro e w4 ⟨rfl,rfl⟩
     rw[HE.out]
     obtain⟨X,hXe⟩:∃X:Nat,X=cdN S (2 * g+i):=⟨_,rfl⟩
     rw[←hXe]
     have HX:Hid (cdN S (2 * g+i)=X):=hXe.symm
     clear hXe HE HR
     by_cases hx:X<3329∧m<256
     ·obtain⟨hx1,hx2⟩:=hx
      have dx:decide ((X:Int)<3329)=true:=decide_eq_true (by omega)
      have dxI:(X:Int)<3329:=by omega
      have dm:decide ((m:Int)<256)=true:=decide_eq_true (by omega)
      have dmI:(m:Int)<256:=by omega
      have e1:unA S (2 * g+(i+1))=unA S (2 * g+i)++[X]:=by
       rw[←HX.out]
       exact unA_take (c:=2 * g+i) (by rw[HX.out];exact hx1) (by rw[←HN.out];exact hx2)
      have HPut:Hid ((gI (unG (unA S (2 * g+i)))).set m ((X:Nat):Int)=gI (unG (unA S (2 * g+(i+1))))):=by
       show _=_
       rw[gI_unG12 _ _ _ HN.out,e1]
      have HN1:Hid (m+1=(unA S (2 * g+(i+1))).length):=by
       show _=_
       rw[e1,List.length_append,List.length_singleton,←HN.out]
      have HML:Hid (m<256):=hx2
      clear e1
      go_wp2_with (refine wpList_store_int rfl _ _ rfl rfl (X:Int) rfl ro2 (by rw[gI_length];exact HML.out) ?_)
      intro ws rs hws
      rw[HPut.out] at rs
      have hch:=Chg.of_wrote hws
      have hX5:=hX.chg hch (by omega)
      have hT5:=hT.chg hch (fun k hk h=>by omega)
      have hO5:=own_past hO hch (by omega)
      have rz5:=rz2.wrote hws (by omega)
      have hc5:=hc2.step hch (fun k hk h=>by omega)
      clear hX hT hO rz2 ro2 hc2 hws HPut hch
      go_wp2
      go_roundw
      case rel=>exact⟨i+1,m+1,by omega,by omega,by go_num,by go_num,HN1,hX5,hT5,hO5,rz5,rs,hc5⟩
      case measure=>simp[intOf]<;>omega
     ·have hcy:(decide ((X:Int)<3329)=false∧(3329:Int)≤(X:Int))∨(decide ((X:Int)<3329)=true∧(X:Int)<3329∧decide ((m:Int)<256)=false∧(256:Int)≤(m:Int)):=by
       by_cases h1:X<3329
       ·exact .inr ⟨decide_eq_true (by omega),by omega,decide_eq_false (by omega),by omega⟩
       ·exact .inl ⟨decide_eq_false (by omega),by omega⟩
      have e1:unA S (2 * g+(i+1))=unA S (2 * g+i):=unA_pass (c:=2 * g+i) (by rw[HX.out,←HN.out];exact hx)
      have HN1:Hid (m=(unA S (2 * g+(i+1))).length):=by
       show _=_
       rw[e1,←HN.out]
      rw[←e1] at ro2
      clear e1 hx
      rcases hcy with ⟨g1,g2⟩|⟨g1,g2,g3,g4⟩
      all_goals
       go_wp2
       go_roundw
       case rel=>exact⟨i+1,m,by omega,hm,by go_num,rfl,HN1,hX,hT,hO,rz2,ro2,hc2⟩
       case measure=>simp[intOf]<;>omega
    ·have hie:i=2:=by omega
     have hd:decide ((i:Int)<2)=false:=decide_eq_false (by omega)
     have hiI:(2:Int)≤(i:Int):=by omega
     have e2:unA S (2 * g+i)=unA S (2 * (g+1)):=by rw[show 2 * g+i=2 * (g+1) by omega]
     rw[e2] at ro2
     have HN1:Hid (m=(unA S (2 * (g+1))).length):=by show _=_;rw[←e2];exact HN.out
     clear hie e2
     go_wp2
     go_roundw
     case rel=>exact⟨g+1,m,by omega,hm,by go_num,rfl,HN1,hX,hT,rz2,ro2,hc2⟩
     case measure=>simp[intOf]<;>omega
  ·have hcond:(decide ((g:Int)<1344)=false∧(1344:Int)≤(g:Int))∨(decide ((g:Int)<1344)=true∧(g:Int)<1344∧decide ((n:Int)<256)=false∧(256:Int)≤(n:Int)):=by
    by_cases h1:g<1344
    ·exact .inr ⟨decide_eq_true (by omega),by omega,decide_eq_false (by omega),by omega⟩
    ·exact .inl ⟨decide_eq_false (by omega),by omega⟩
   have HE:Hid (gI (unG (unA S (2 * g)))=gI (fzF (unF S))):=by
    show _=_
    refine un_done (by omega) ?_
    by_cases h1:g<1344
    ·right;rw[←HN.out];omega
    ·left;omega
   rw[HE.out] at ro'
   clear hgo
   rcases hcond with ⟨d1,d2⟩|⟨d1,d2,d3,d4⟩
   all_goals
    go_wp2_with (first|refine wpList_load_row rfl 224 _ rfl rfl ro' _ Tryz.underlying224 rfl (poInfoS _) ?_|(refine wpList_store_row rfl 224 _ _ rfl (gI (fzF (unF S))) rfl rfl rz' (by rw[gI_length,gI_length]) (poInfoS _) ?_;intro w7 r7 hw7))
    refine bodyPost_row (k:=.i64) rfl rfl rfl r7 Tryz.underlying224 rfl (poInfoS _) ?_
    exact⟨by rw[HS.out],hcx.step (Chg.of_wrote hw7) (fun k hk h=>by omega)⟩
theorem RdL.pair12 {w:World} {e:TypeId} {v1 v2:Value} {l1 l2:List UInt8} {b:Nat} (hb:b=w.heap.size) (h1:Rd w v1 l1) (h2:Rd w v2 l2):RdL (w.alloc (.cells #[v1,v2] e)) (.slice (some ⟨b,0,none⟩) 2 2) [v1,v2] [l1,l2]:=by
 subst hb
 refine RdL.lit [v1,v2] [l1,l2] rfl rfl rfl (by unfold maxLen;simp) rfl fun i hi=>?_
 match i,hi with
 |0,_=>exact h1
 |1,_=>exact h2
theorem New.pair12 {e:TypeId} {w w':World} {v:Value} {l1 l2:List UInt8} (h:New e w v [l1,l2].flatten w'):New e w v (l1++l2) w':=by
 simpa using h

set_option maxRecDepth 100000 in
set_option maxHeartbeats 2000000 in
theorem suniform_any (v:Value) (l:List UInt8) (w:World) (hr:Rd w v l) (hT:Tabs w):
  Calls Tryz.prog 261 #[v] w fun e w'=>e=.returned (poV (unF (smF (abF 168 31 l) 168)))∧Below w.heap.size w w':=by
 have hmf:∀(fn:Fn) (first cap:Array Value) (w:World),(Instr.makeFunc fn first cap).run Tryz.prog w=.ok (.func fn first cap) w:=fun _ _ _ _=>rfl
 have k2:=hT.two
 have HR:Hid (Rd w v l):=hr
 clear hr
 go_enter Tryz.func261,Tryz.ntmps261
 go_wp2_with (refine wpList_alloc_row (k:=.i64) rfl 224 rfl (gI fun _=>0) (alloc_poS _) (gI_ne _) (poMax _) ?_)
 intro w1 rz b1 s1
 rw[gI_length] at rz
 have n1:w.heap.size<w1.heap.size:=by have:=s1.out;omega
 replace hT:=hT.kept b1
 clear s1
 go_wp2_with fail
 refine(shake128_any _ l _ (Rd.kept HR.out b1) hT).mono ?_
 rintro e w2 ⟨gx,rfl,hgx,hX,b2⟩
 replace rz:=rz.kept b2
 replace hT:=hT.kept b2
 have n2:=b2.size
 have hbw:=stepB b1 b2
 clear b1 b2
 go_wp2_with fail
 refine(chosen_any 122 gx (abF 168 31 l) _ (entersS Tryz.func122 (by kernel_rfl) rfl) (fun p W hX hT=>read_any gx (abF 168 31 l) (abF_lt _ _ _) 168 p (by omega) (by omega) 3 3 rfl (by omega) W hX (by omega) hT) hX hT (by omega)).mono ?_
 rintro e w3 ⟨rfl,hC⟩
 replace rz:=rz.chg hC (by omega)
 have hbx:=hC.past hbw (by omega) (by omega)
 clear hX hT hC hbw
 go_wp2_with (refine wpList_store_row rfl 224 _ _ rfl (gI (fzF (unF (smF (abF 168 31 l) 168)))) rfl rfl rz (by rw[gI_length,gI_length]) (poInfoS _) ?_;intro w7 r7 hw7)
 refine bodyPost_row (k:=.i64) rfl rfl rfl r7 Tryz.underlying224 rfl (poInfoS _) ?_
 exact⟨rfl,hw7.below _ _ (by omega) hbx⟩

set_option maxRecDepth 100000 in
set_option maxHeartbeats 4000000 in
theorem sprf_any (e:Nat) (E:Int) (hE:E=(e:Int)) (h1:1≤e) (h3:e≤3) (v:Value) (l:List UInt8) (n:UInt8) (N:Int) (hN:N=(n.toNat:Int)) (hl:l.length≤900000) (w:World) (hr:Rd w v l) (hT:Tabs w):
  Calls Tryz.prog 324 #[.int .i64 E,v,.int .u8 N] w fun r w'=>r=.returned (.tuple #[poV (nsF e (otL (abF 136 31 (l++[n])) 136 (64 * e))),.int .i64 0])∧Below w.heap.size w w':=by
 subst hE
 obtain⟨av,cv,rfl, -, -, -, -⟩:=id hr
 have k2:=hT.two
 have HR:Hid (Rd w (.slice av l.length cv) l):=hr
 have HL:Hid (totL [l,[n]]≤1000000000):=by show _≤_;simp[totL];omega
 have HN:Hid (N=(n.toNat:Int)):=hN
 clear hr hl hN
 go_enter Tryz.func324,Tryz.ntmps324
 go_wp2_with (refine wpList_alloc_row (k:=.i64) rfl 224 rfl (gI fun _=>0) (alloc_poS _) (gI_ne _) (poMax _) ?_)
 intro w1 rz b1 s1
 rw[gI_length] at rz
 have m1:w.heap.size<w1.heap.size:=by have:=s1.out;omega
 clear s1
 go_wp2_with fail
 refine(isEta_in e (by omega) (by omega) _).mono ?_
 rintro r w1 ⟨rfl,rfl⟩
 have g1:=growB (w:=w1) (.cells #[.int .u8 N] 5)
 have hc:Rd (w1.alloc (.cells #[.int .u8 N] 5)) (.slice (some ⟨w1.heap.size,0,none⟩) 1 1) [n]:=Rd.lit1 n HN.out
 have hL:=RdL.pair12 (e:=26) (b:=w1.heap.size+1) (by simp) ((Rd.kept HR.out b1).kept g1) hc
 have g2:=stepB g1 (growB (w:=w1.alloc (.cells #[.int .u8 N] 5)) (.cells #[.slice av l.length cv,.slice (some ⟨w1.heap.size,0,none⟩) 1 1] 26))
 replace rz:=rz.kept g2
 replace hT:=(hT.kept b1).kept g2
 have hbw:=stepB b1 g2
 clear g1 g2 hc b1
 go_wp2_with fail
 refine(join_any _ _ _ _ hL HL.out).mono ?_
 rintro r w3 ⟨v3,rfl,hN3⟩
 have hR3:=hN3.pair12.rd
 replace rz:=rz.kept hN3.2
 replace hT:=hT.kept hN3.2
 replace hbw:=stepB hbw hN3.2
 have z3:=hbw.size
 have r3:=rz.lt
 clear hN3 hL
 go_wp2_with fail
 refine(shake256_any _ (l++[n]) _ hR3 hT).mono ?_
 rintro r w4 ⟨gx,rfl,hgx,hX,b4⟩
 replace rz:=rz.kept b4
 replace hT:=hT.kept b4
 replace hbw:=stepB hbw b4
 have z4:=b4.size
 have r4:=rz.lt
 clear b4 hR3
 obtain⟨m,hm⟩:∃m:Nat,m=64 * e:=⟨_,rfl⟩
 have HM:Hid (m=64 * e):=hm
 have hmb:m≤192:=by omega
 go_wp2_with fail
 refine(noiseSize_any e _ rfl (by omega) _).mono ?_
 rintro r w4 ⟨rfl,rfl⟩
 rw[←hm]
 clear hm
 go_wp2_with fail
 refine(read_any gx (abF 136 31 (l++[n])) (abF_lt _ _ _) 136 0 (by omega) (by omega) (m:Int) m (by omega) (by omega) _ hX (by omega) hT).mono ?_
 rintro r w5 ⟨v5,rfl,hO, -,hC, -⟩
 replace rz:=rz.chg hC (by omega)
 have hbx:=hC.past hbw (by omega) (by omega)
 have hR5:=Rd.of_row hO
 rw[pcL_first] at hR5
 clear hC hO hX hT hbw
 go_wp2_with fail
 refine(snoise_any e _ rfl h1 h3 _ _ _ hR5 (by rw[otL_length];exact HM.out)).mono ?_
 rintro r w6 ⟨rfl,b6⟩
 replace rz:=rz.kept b6
 replace hbx:=stepB hbx b6
 rw[HM.out]
 clear b6 hR5
 obtain⟨g,hg⟩:∃g:Nat→FZ,g=nsF e (otL (abF 136 31 (l++[n])) 136 (64 * e)):=⟨_,rfl⟩
 rw[←hg]
 have HG:Hid _:=hg
 clear hg
 go_wp2_with (refine wpList_store_row rfl 224 _ _ rfl (gI (fzF g)) rfl rfl rz (by rw[gI_length,gI_length]) (poInfoS _) ?_;intro w7 r7 hw7)
 refine bodyPost_po (k:=.i64) rfl rfl rfl rfl r7 Tryz.underlying224 rfl (poInfoS _) ?_
 exact⟨by rw[HG.out];rfl,hw7.below _ _ (Nat.le_refl _) hbx⟩
end Go.Proofs.YtpgjobpmafbigaaGreatDoor

namespace Go.Proofs.YtpgjobpmafbigaaGreatDoor
set_option linter.unusedSimpArgs false
set_option linter.unusedVariables false

theorem ckE_yes (ek:List UInt8) (hl:ek.length=1184) (h:∀k,k<768→upN 12 (ek.take 1152) k<3329):ckE ek=0:=by
 unfold ckE ckB
 rw[if_pos hl,if_pos]
 rw[List.all_eq_true]
 intro k hk
 exact decide_eq_true (h k (List.mem_range.1 hk))
theorem ckE_no (ek:List UInt8) (hl:ek.length=1184) (k:Nat) (hk:k<768) (h:¬upN 12 (ek.take 1152) k<3329):ckE ek=12:=by
 unfold ckE ckB
 rw[if_pos hl,if_neg]
 rw[List.all_eq_true]
 intro ha
 exact h (of_decide_eq_true (ha k (List.mem_range.2 hk)))
def tdL (ek:List UInt8) (i:Nat):List UInt8:=(ek.drop (384 * i)).take 384
theorem tdL_length (ek:List UInt8) (hl:ek.length=1184) (i:Nat) (hi:i<3):(tdL ek i).length=384:=by
 unfold tdL
 rw[List.length_take,List.length_drop,hl]
 omega
def rdQ (b:List UInt8):Bool:=decide (pkL 12 (fzF (upF 12 b))=b)
theorem rs_up (b:List UInt8) (k:Nat):rsZ (fzF (upF 12 b) k)=upN 12 b k % 3329:=by
 unfold fzF upF
 rw[nz_val,rsZ_nat,Nat.mod_mod]
theorem rdQ_yes (b:List UInt8) (hb:b.length=384) (h:∀k,k<256→upN 12 b k<3329):rdQ b=true:=by
 refine decide_eq_true (pk_up 12 (by decide) b hb _ fun k hk=>?_)
 rw[rs_up,Nat.mod_eq_of_lt (h k hk)]
theorem pk_lt (F:Nat→Int) (k:Nat) (hk:k<256):upN 12 (pkL 12 F) k<3329:=by
 rw[up_pk 12 (by decide) F k hk]
 have h1:=rsZ_lt (F k)
 have h2:=Nat.mod_le (rsZ (F k)) (2 ^ 12)
 omega
theorem rdQ_lt (b:List UInt8) (h:rdQ b=true) (k:Nat) (hk:k<256):upN 12 b k<3329:=by
 have e:pkL 12 (fzF (upF 12 b))=b:=of_decide_eq_true h
 rw[←e]
 exact pk_lt _ k hk
theorem up_third (ek:List UInt8) (i k:Nat) (hi:i<3) (hk:k<256):upN 12 (tdL ek i) k=upN 12 (ek.take 1152) (256 * i+k):=by
 unfold upN
 refine bs_congr 12 _ _ fun s hs=>?_
 unfold btY
 have e1:(12 * (256 * i+k)+s) / 8=384 * i+(12 * k+s) / 8:=by omega
 have e2:(12 * (256 * i+k)+s) % 8=(12 * k+s) % 8:=by omega
 have e3:(tdL ek i).getD ((12 * k+s) / 8) 0=(ek.take 1152).getD (384 * i+(12 * k+s) / 8) 0:=by
  unfold tdL
  rw[List.getD_eq_getElem?_getD,List.getD_eq_getElem?_getD,List.getElem?_take_of_lt (by omega),List.getElem?_take_of_lt (by omega),List.getElem?_drop]
 rw[e1,e2,e3]
theorem ckE_thirds (ek:List UInt8) (hl:ek.length=1184) (h:∀i,i<3→rdQ (tdL ek i)=true):ckE ek=0:=by
 refine ckE_yes ek hl fun k hk=>?_
 have h1:=rdQ_lt _ (h (k / 256) (by omega)) (k % 256) (Nat.mod_lt _ (by decide))
 rw[up_third ek _ _ (by omega) (Nat.mod_lt _ (by decide)),Nat.div_add_mod] at h1
 exact h1
theorem ckE_third (ek:List UInt8) (hl:ek.length=1184) (i:Nat) (hi:i<3) (h:rdQ (tdL ek i)=false):ckE ek=12:=by
 by_cases ha:∀k,k<256→upN 12 (tdL ek i) k<3329
 ·rw[rdQ_yes _ (tdL_length ek hl i hi) ha] at h
  cases h
 ·obtain⟨k,hk⟩:=Classical.not_forall.1 ha
  have hk1:k<256:=Classical.byContradiction fun h=>hk fun h2=>absurd h2 h
  refine ckE_no ek hl (256 * i+k) (by omega) ?_
  rw[←up_third ek i k hi hk1]
  exact fun h=>hk fun _=>h
theorem ckE_len (ek:List UInt8) (hl:ek.length≠1184):ckE ek=1:=by
 unfold ckE
 rw[if_neg hl]
theorem td_key (d:List UInt8):∀i,i<3→tdL (ekL d) i=pkL 12 (fzF (tF ((gnS d).take 32) ((gnS d).drop 32) i)):=by
 intro i hi
 have hk:=fun F=>pkL_length 12 F
 generalize hr:(gnS d).take 32=rho
 generalize hs:(gnS d).drop 32=s
 have e:ekL d=pkL 12 (fzF (tF rho s 0))++(pkL 12 (fzF (tF rho s 1))++(pkL 12 (fzF (tF rho s 2))++rho)):=by
  unfold ekL
  rw[hr,hs]
  simp only[ekP,List.nil_append,List.append_assoc]
 rw[e]
 unfold tdL
 have l0:=hk (fzF (tF rho s 0))
 have l1:=hk (fzF (tF rho s 1))
 have l2:=hk (fzF (tF rho s 2))
 match i,hi with
 |0,_=>
  rw[Nat.mul_zero,List.drop_zero]
  exact List.take_left' l0
 |1,_=>
  rw[List.drop_left' (by rw[l0])]
  exact List.take_left' l1
 |2,_=>
  rw[show 384 * 2=384+384 from rfl,←List.drop_drop,List.drop_left' l0,List.drop_left' l1]
  exact List.take_left' l2
theorem ckE_key (d:List UInt8):ckE (ekL d)=0:=by
 refine ckE_thirds _ (ekL_length d) fun i hi=>rdQ_yes _ (tdL_length _ (ekL_length d) i hi) fun k hk=>?_
 rw[td_key d i hi]
 exact pk_lt _ k hk
end Go.Proofs.YtpgjobpmafbigaaGreatDoor

namespace Go.Proofs.YtpgjobpmafbigaaGreatDoor
open Go.ChangeShapes Go.WideShapes Go.ChangeAt Go.RowKit
set_option linter.unusedSimpArgs false
set_option linter.unusedVariables false

theorem Rd.part {w:World} {b o n cap:Nat} {l:List UInt8} (h:Rd w (.slice (some ⟨b,o,none⟩) n cap) l) (i k:Nat) (hi:i≤k) (hk:k≤n):Rd w (.slice (some ⟨b,o+i,none⟩) (k - i) (k - i)) ((l.drop i).take (k - i)):=by
 obtain⟨a',cap',e,h2,h3,h4,h5⟩:=h.sub i k hi hk
 simp only[Value.slice.injEq] at e
 obtain⟨rfl,e2,rfl⟩:=e
 exact⟨_,_,by rw[←e2],by omega,by omega,(fun h=>by cases h),h5⟩
theorem wpList_valK {P:Program} {ops:Array Oper} {rest:List Oper} {op:Oper} {a:Act} {w:World} {Q:Exit→Act→World→Prop} {v:Value} (hy:(execOp a.eval op).run P w=.ok (.value v) w) (hw:Region.wanted op (yielded ops a.tmps)=true)
  (h:wpList P ops Q rest (a.put op.dst v) w):wpList P ops Q (op :: rest) a w:=by
 refine wpList_step fun K hK=>?_
 rw[if_pos hw]
 unfold Oper.wp
 rw[hy]
 exact hK _ _ h

set_option maxRecDepth 100000 in
set_option maxHeartbeats 2000000 in
theorem kpart_any (b o n cap i k d:Nat) (I K:Int) (hI:I=(i:Int)) (hK:K=(k:Int)) (hd:d=k - i) (w:World) (hik:i<k) (hk:k≤n) (hn:n≤cap) (hc:cap≤maxLen):
  Calls Tryz.prog 118 #[.slice (some ⟨b,o,none⟩) n cap,.int .i64 I,.int .i64 K] w fun e w'=>e=.returned (.slice (some ⟨b,o+i,none⟩) d d)∧w'=w:=by
 subst hI hK
 unfold maxLen at hc
 have h1:(i:Int)≤(k:Int):=by omega
 have h2:(k:Int)≤(cap:Int):=by omega
 have h3:¬k=i:=by omega
 have h4:¬k - i=0:=by omega
 have HD:Hid _:=hd
 clear hd
 go_enter Tryz.func118,Tryz.ntmps118
 go_wp2
 go_ret
 exact⟨by rw[HD.out];rfl,rfl⟩
theorem infoP13 (f:Nat→FZ):(Tryz.prog.info? 224).map (·.size)=some (poC f).length:=by rw[poC_length];kernel_rfl
theorem infoW13 (g:Nat→Nat→FZ):(Tryz.prog.info? 226).map (·.size)=some (rwC g).length:=by rw[prC13_length];kernel_rfl
theorem allocP13 (w:World):(Instr.alloc 224 true (.tuple #[])).run Tryz.prog w=.ok (.pointer (some ⟨w.heap.size,0,none⟩)) (w.alloc (.cells (poC fun _=>0).toArray 224)):=by kernel_rfl
theorem allocW13 (w:World):(Instr.alloc 226 true (.tuple #[])).run Tryz.prog w=.ok (.pointer (some ⟨w.heap.size,0,none⟩)) (w.alloc (.cells (rwC fun _ _=>0).toArray 226)):=by kernel_rfl
theorem whole13 (l:List Value):l=[]++l++[]:=by simp

set_option maxRecDepth 100000 in
set_option maxHeartbeats 2000000 in
theorem rowOf_any (K:FuncId) (caps:Array Value) (g:Nat→Nat→FZ) (w:World) (hE:∀(args:Array Value) (w:World),(callFunc K args).run Tryz.prog w=.ok (.enter K args) w)
  (hK:∀i:Nat,i<3→∀W,Below w.heap.size w W→Calls Tryz.prog K (#[Value.int .i64 (i:Int)]++caps) W fun e w'=>e=.returned (poV (g i))∧Below W.heap.size W w'):
  Calls Tryz.prog 251 #[.func (.func K) #[] caps] w fun e w'=>e=.returned (rwV g)∧Below w.heap.size w w':=by
 have HK:Hid _:=hK
 clear hK
 go_enter Tryz.func251,Tryz.ntmps251
 go_wp2_with (refine wpList_alloc_blk rfl 226 rfl (rwC fun _ _=>0) (allocW13 _) ?_)
 intro w1 rz b1 s1
 go_wp2_with (refine wpList_alloc_blk rfl 226 rfl (rwC fun _ _=>0) (allocW13 _) ?_)
 intro w2 ro b2 s2
 replace rz:=rz.kept b2
 have hbw:=stepB b1 b2
 have n1:w.heap.size<w1.heap.size:=by have:=s1.out;omega
 rw[←ftR_zero g] at ro
 clear b1 b2 s1 s2
 go_wp2
 go_loopw [5] (fun iv wx=>∃i:Nat,i≤3∧iv=.int .i64 (i:Int)∧BlkAt w.heap.size 226 (rwC fun _ _=>0) wx∧BlkAt w1.heap.size 226 (rwC (ftR g i)) wx∧Below w.heap.size w wx) (fun iv _=>3 - (intOf iv).toNat)
 case atStart=>exact⟨0,by omega,rfl,rz,ro,hbw⟩
 case round=>
  obtain⟨i,hi,rfl,rx,ra,hbx⟩:=hrel
  clear rz ro hbw
  by_cases hlt:i<3
  ·have hd:decide ((i:Int)<3)=true:=decide_eq_true (by omega)
   have hiI:(i:Int)<3:=by omega
   obtain⟨post,hp0,hp1⟩:=ftR_step g i hlt
   have HP1:Hid _:=hp1
   have HP0:Hid _:=hp0
   clear hp0 hp1
   go_wp2_with fail
   refine(HK.out i hlt _ hbx).mono ?_
   rintro e w3 ⟨rfl,b3⟩
   replace ra:=ra.kept b3
   replace rx:=rx.kept b3
   replace hbx:=stepB hbx b3
   clear b3
   go_wp2_with (refine wpList_store_part rfl 224 _ _ rfl rfl (poC (g i)) rfl (prC13 g i) (poC fun _=>0) post _ ra HP0.out HP1.out (by rw[prC13_length];omega) (by rw[poC_length,poC_length]) (infoP13 _) (poC_all _) ?_)
   intro w4 r4 hw4
   replace rx:=rx.wrote hw4 (by omega)
   replace hbx:=hw4.below _ _ (by omega) hbx
   clear ra hw4
   go_wp2
   go_roundw
   case rel=>exact⟨i+1,by omega,by go_num,rx,r4,hbx⟩
   case measure=>simp[intOf]<;>omega
  ·have hie:i=3:=by omega
   have hd:decide ((i:Int)<3)=false:=decide_eq_false (by omega)
   have hiI:(3:Int)≤(i:Int):=by omega
   rw[hie,ftR_end] at ra
   clear hie
   go_wp2_with (first|refine wpList_load_part rfl 226 _ rfl rfl [] (rwC g) [] ra (whole13 _) rfl Tryz.underlying226 rfl (infoW13 _) ?_|(refine wpList_store_part rfl 226 _ _ rfl rfl (rwC g) rfl [] (rwC fun _ _=>0) [] (rwC g) rx (whole13 _) (whole13 _) rfl (by rw[prC13_length,prC13_length]) (infoW13 _) (rwC_all _) ?_;intro w7 r7 hw7))
   refine bodyPost_blk rfl rfl rfl r7 Tryz.underlying226 rfl (infoW13 _) ?_
   exact⟨rfl,hw7.below _ _ (Nat.le_refl _) hbx⟩
end Go.Proofs.YtpgjobpmafbigaaGreatDoor

namespace Go.Proofs.YtpgjobpmafbigaaGreatDoor
set_option linter.unusedSimpArgs false
set_option linter.unusedVariables false

def rpL (d:Nat) (g:Nat→Nat→FZ):Nat→List UInt8
 |0=>[]
 |i+1=>rpL d g i++pkL d (fzF (g i))
theorem rpL_length (d:Nat) (g:Nat→Nat→FZ):∀i,(rpL d g i).length=32 * d * i
 |0=>rfl
 |i+1=>by
  rw[rpL,List.length_append,rpL_length d g i,pkL_length,Nat.mul_succ]
theorem dkP_row (s:List UInt8):∀n,dkP s n=rpL 12 (rwF s) n
 |0=>rfl
 |n+1=>by rw[dkP,rpL,dkP_row s n]
theorem ekP_row (rho s:List UInt8):∀n,ekP rho s n=rpL 12 (tF rho s) n
 |0=>rfl
 |n+1=>by rw[ekP,rpL,ekP_row rho s n]
theorem acF_from (e:Nat→FZ) (g:Nat→Nat→FZ) (k:Nat):∀n,acF (fun _=>0) g n k+e k=acF e g n k
 |0=>by
  show(0:FZ)+e k=e k
  generalize e k=x
  grind -lia
 |n+1=>by
  show acF (fun _=>0) g n k+g n k+e k=acF e g n k+g n k
  rw[←acF_from e g k n]
  generalize acF (fun _=>0) g n k=x
  generalize g n k=y
  generalize e k=z
  grind -lia
theorem acF_eq (e:Nat→FZ) (g:Nat→Nat→FZ) (n:Nat):(fun k=>acF (fun _=>0) g n k+e k)=acF e g n:=funext fun k=>acF_from e g k n
end Go.Proofs.YtpgjobpmafbigaaGreatDoor
