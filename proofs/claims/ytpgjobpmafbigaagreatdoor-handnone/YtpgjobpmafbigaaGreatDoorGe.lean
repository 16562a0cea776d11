/- What functions of the program, or of the reference, answer: contracts; several texts in one. -/
import Derived.Test.YtpgjobpmafbigaaGreatDoorGb
import Derived.OwnWalk
import Derived.Test.YtpgjobpmafbigaaGreatDoorGd
import Derived.Shelf.Abstract

namespace Go.Proofs.YtpgjobpmafbigaaGreatDoor
open Go.ChangeShapes Go.WideShapes Go.ChangeAt Go.RowKit
set_option linter.unusedSimpArgs false
set_option linter.unusedVariables false

def RdE (w:World) (v:Value) (sz n:Nat) (xs:List Value):Prop:=
 xs.length=n * sz∧∃a cap,v=.slice a n cap∧n≤cap∧cap≤maxLen∧(xs=[]∨∃b off,a=some ⟨b,off,none⟩∧∀i,i<xs.length→w.cell? ⟨b,off+i,none⟩=xs[i]?)
theorem RdE.nil (w:World) (sz:Nat):RdE w (.slice none 0 0) sz 0 []:=⟨by simp,none,0,rfl,Nat.le_refl _,by simp[maxLen],.inl rfl⟩
theorem RdE.kept {w w':World} {v:Value} {sz n:Nat} {xs:List Value} (h:RdE w v sz n xs) (hb:Below w.heap.size w w'):RdE w' v sz n xs:=by
 obtain⟨hl,a,c,e1,h2,h3,h5⟩:=h
 refine⟨hl,a,c,e1,h2,h3,h5.imp id ?_⟩
 rintro⟨b,off,e2,hc⟩
 refine⟨b,off,e2,fun i hi=>?_⟩
 have h6:=hc i hi
 have h7:xs[i]?=some xs[i]:=by simp[hi]
 rw[h7] at h6
 rw[hb.cell (World.block_lt_of_cell? _ _ h6),h6,h7]
theorem RdE.len {w:World} {v:Value} {sz n:Nat} {xs:List Value} (h:RdE w v sz n xs):∃a c,v=.slice a n c∧n≤c∧c≤maxLen:=by
 obtain⟨hl,a,c,e1,h2,h3,h5⟩:=h
 exact⟨a,c,e1,h2,h3⟩
theorem RdE.cellAt {w:World} {a:Option Addr} {m c sz n:Nat} {xs:List Value} (h:RdE w (.slice a m c) sz n xs) {i:Nat} (hi:i<xs.length):∃b off,a=some ⟨b,off,none⟩∧w.cell? ⟨b,off+i,none⟩=some xs[i]:=by
 obtain⟨hl,a',c',e1,h2,h3,h5⟩:=h
 simp only[Value.slice.injEq] at e1
 obtain⟨rfl, -, -⟩:=e1
 rcases h5 with h|⟨b,off,e2,hc⟩
 ·rw[h] at hi
  cases hi
 ·refine⟨b,off,e2,?_⟩
  rw[hc i hi]
  simp[hi]
theorem RdE.of_own {w:World} {base sz:Nat} {e:TypeId} {v:Value} {n:Nat} {xs:List Value} (h:w.ownsRow base e sz v n xs):RdE w v sz n xs:=by
 refine⟨h.1,?_⟩
 rcases h.2 with ⟨rfl,h0⟩|⟨g,cap,cur,hv,hb,hg,hle,hm,hss,htk⟩
 ·subst h0
  have:xs=[]:=List.eq_nil_of_length_eq_zero (by have:=h.1;simpa using this)
  subst this
  exact⟨none,0,rfl,Nat.le_refl _,by simp[maxLen],.inl rfl⟩
 ·refine⟨some ⟨g,0,none⟩,cap,hv,hle,hm,?_⟩
  by_cases h0:xs=[]
  ·exact .inl h0
  ·right
   refine⟨g,0,rfl,fun i hi=>?_⟩
   have h7:xs[i]?=some xs[i]:=by simp[hi]
   have:=h.cells (by rw[hv];rfl) i xs[i] h7
   have hp:(⟨g,0,none⟩:Addr).add i=⟨g,0+i,none⟩:=by unfold Addr.add;split<;>simp_all
   rw[h7,←hp]
   exact this
theorem RdE.lit {w:World} {e:TypeId} {sz:Nat} (xs:List Value) {cs:Array Value} {n b:Nat} (h:cs=xs.toArray) (hn:xs.length=n * sz) (hb:b=w.heap.size) (hm:n≤maxLen):RdE (w.alloc (.cells cs e)) (.slice (some ⟨b,0,none⟩) n n) sz n xs:=by
 subst h hb
 refine⟨hn,_,_,rfl,Nat.le_refl _,hm,?_⟩
 right
 refine⟨_,0,rfl,fun i hi=>?_⟩
 have hh:(w.alloc (.cells xs.toArray e)).heap[w.heap.size]?=some (.cells xs.toArray e):=by
  show(w.heap.push _)[w.heap.size]?=_
  simp
 unfold World.cell?
 rw[hh]
 simp[hi]
abbrev ScL:=List ((Int×List (Bool×Int))×Value)
theorem seX_len (l:ScL):(seX l).length=l.length * 2:=by
 induction l with
 |nil=>rfl
 |cons e l ih=>simp[seX] at ih ⊢;omega
theorem kyC_len (l:List (Bool×Int)):(kyC l).length=l.length * 2:=by
 induction l with
 |nil=>rfl
 |cons e l ih=>simp[kyC] at ih ⊢;omega
theorem seX_at (l:ScL):∀i (h:i<l.length),(seX l)[2 * i]?=some (.int .i64 l[i].1.1)∧(seX l)[2 * i+1]?=some l[i].2:=by
 induction l with
 |nil=>intro i h;cases h
 |cons e l ih=>
  intro i h
  cases i with
  |zero=>exact⟨rfl,rfl⟩
  |succ i=>
   have:=ih i (by simpa using h)
   have e1:2 * (i+1)=2 * i+2:=by omega
   rw[e1]
   exact this
theorem kyC_at (l:List (Bool×Int)):∀i (h:i<l.length),(kyC l)[2 * i]?=some (.bool l[i].1)∧(kyC l)[2 * i+1]?=some (.int .i64 l[i].2):=by
 induction l with
 |nil=>intro i h;cases h
 |cons e l ih=>
  intro i h
  cases i with
  |zero=>exact⟨rfl,rfl⟩
  |succ i=>
   have:=ih i (by simpa using h)
   have e1:2 * (i+1)=2 * i+2:=by omega
   rw[e1]
   exact this
structure ScR (w:World) (v:Value) (l:ScL):Prop where
 row:RdE w v 2 l.length (seX l)
 keys:∀e∈l,RdE w e.2 2 e.1.2.length (kyC e.1.2)
theorem ScR.of_own {w0 w:World} {ts tk:TypeId} {v:Value} {l:ScL} (h:OwnG w0 (⟨ts,2,v,l.length,seX l⟩ :: seK tk l) w):ScR w v l:=
 ⟨RdE.of_own (h.rows _ (List.mem_cons_self ..)),fun e he=>RdE.of_own (h.rows ⟨tk,2,e.2,e.1.2.length,kyC e.1.2⟩ (List.mem_cons_of_mem _ (List.mem_map.2 ⟨e,List.mem_reverse.2 he,rfl⟩)))⟩
theorem ScR.kept {w w':World} {v:Value} {l:ScL} (h:ScR w v l) (hb:Below w.heap.size w w'):ScR w' v l:=⟨h.row.kept hb,fun e he=>(h.keys e he).kept hb⟩
theorem ScR.at {w:World} {a:Option Addr} {n c:Nat} {l:ScL} (h:ScR w (.slice a n c) l) (i:Nat) (hi:i<l.length):∃b off,a=some ⟨b,off,none⟩∧w.cell? ⟨b,off+2 * i,none⟩=some (.int .i64 l[i].1.1)∧w.cell? ⟨b,off+(2 * i+1),none⟩=some l[i].2:=by
 have hl:=seX_len l
 have hs:=seX_at l i hi
 obtain⟨b,off,e,h1⟩:=h.row.cellAt (i:=2 * i) (by omega)
 obtain⟨b',off',e',h2⟩:=h.row.cellAt (i:=2 * i+1) (by omega)
 rw[e] at e'
 simp only[Option.some.injEq,Addr.mk.injEq,and_true] at e'
 obtain⟨rfl,rfl⟩:=e'
 refine⟨b,off,e,?_,?_⟩
 ·rw[h1,←hs.1]
  simp
 ·rw[h2,←hs.2]
  simp
theorem RdE.keyAt {w:World} {a:Option Addr} {n c:Nat} {l:List (Bool×Int)} (h:RdE w (.slice a n c) 2 l.length (kyC l)) (i:Nat) (hi:i<l.length):∃b off,a=some ⟨b,off,none⟩∧w.cell? ⟨b,off+2 * i,none⟩=some (.bool l[i].1)∧w.cell? ⟨b,off+(2 * i+1),none⟩=some (.int .i64 l[i].2):=by
 have hl:=kyC_len l
 have hs:=kyC_at l i hi
 obtain⟨b,off,e,h1⟩:=h.cellAt (i:=2 * i) (by omega)
 obtain⟨b',off',e',h2⟩:=h.cellAt (i:=2 * i+1) (by omega)
 rw[e] at e'
 simp only[Option.some.injEq,Addr.mk.injEq,and_true] at e'
 obtain⟨rfl,rfl⟩:=e'
 refine⟨b,off,e,?_,?_⟩
 ·rw[h1,←hs.1]
  simp
 ·rw[h2,←hs.2]
  simp
end Go.Proofs.YtpgjobpmafbigaaGreatDoor

namespace Go.Proofs.YtpgjobpmafbigaaGreatDoor
set_option linter.unusedSimpArgs false
set_option linter.unusedVariables false

abbrev Say:=Bool×Int
def syR (p:Ptn) (i j:Nat):List Say:=((p.tk i).take j).map fun t=>(p.ini i,t)
def syS (p:Ptn):Nat→List Say
 |0=>[]
 |i+1=>syS p i++syR p i (p.tk i).length
def syL (p:Ptn):List Say:=syS p p.n
theorem syR_zero (p:Ptn) (i:Nat):syR p i 0=[]:=rfl
theorem syR_next (p:Ptn) (i j:Nat) (h:j<(p.tk i).length):syR p i (j+1)=syR p i j++[(p.ini i,(p.tk i).getD j 0)]:=by
 unfold syR
 rw[List.take_add_one,List.getElem?_eq_getElem h,List.map_append]
 simp[h]
theorem syR_len (p:Ptn) (i j:Nat):(syR p i j).length≤j:=by
 unfold syR
 rw[List.length_map,List.length_take]
 omega
theorem syS_len {p:Ptn} (h:PtS p):∀i,i≤p.n→(syS p i).length≤12 * i
 |0,_=>Nat.le_refl _
 |i+1,hi=>by
  have h1:=syS_len h i (by omega)
  have h2:=syR_len p i (p.tk i).length
  have h3:=h.t i (by omega)
  unfold syS
  rw[List.length_append]
  omega
theorem syL_len {p:Ptn} (h:PtS p):(syL p).length≤96:=by
 have:=syS_len h p.n (Nat.le_refl _)
 have:=h.n
 unfold syL
 omega
def cvB (t:Int):Bool:=decide (t=3)||decide (t=4)||decide (t=5)||decide (t=6)
def kmB (t:Int):Bool:=decide (t=9)||decide (t=10)
def pkB15 (t:Int):Bool:=decide (t=7)
def scB (t:Int):Bool:=cvB t||kmB t||pkB15 t
def rpB (s o:Say):Bool:=decide (s.2=o.2)&&(decide (s.1=o.1)|| !kmB s.2)
def adC (c:List Say×List Say) (s:Say):List Say×List Say:=if scB s.2 then (c.1,c.2++[s]) else (c.1++[s],c.2)
def lkB (ks:List Say) (k:Say):Bool:= !ks.any fun q=>q==k
def tkS (c:List Say×List Say) (s:Say):Bool:=
 if scB s.2=false then lkB c.1 s
 else if c.2.any (rpB s) then false
 else if pkB15 s.2 then !lkB c.1 (s.1,1)|| !lkB c.1 (s.1,8)
 else !(scK s.2 (!s.1)).any (lkB c.1)
def knL (p:Ptn):List Say:=(if p.ki then [(true,2)] else [])++(if p.kr then [(false,2)] else [])
def crS (c:List Say×List Say) (l:List Say):List Say×List Say:=l.foldl adC c
def ioB (p:Ptn):Bool:=(List.range (syL p).length).all fun j=>tkS (crS (knL p,[]) ((syL p).take j)) ((syL p).getD j (false,0))
theorem crS_eq (l:List Say):∀c,crS c l=(c.1++l.filter (fun s=> !scB s.2),c.2++l.filter fun s=>scB s.2):=by
 induction l with
 |nil=>intro c;simp[crS]
 |cons s l ih=>
  intro c
  show crS (adC c s) l=_
  rw[ih]
  unfold adC
  cases h:scB s.2<;>simp[h]
theorem crS_next (c:List Say×List Say) (l:List Say) (j:Nat) (h:j<l.length):crS c (l.take (j+1))=adC (crS c (l.take j)) (l.getD j (false,0)):=by
 have e:l.take (j+1)=l.take j++[l.getD j (false,0)]:=by
  rw[List.take_add_one,List.getElem?_eq_getElem h]
  simp[h]
 rw[e]
 unfold crS
 rw[List.foldl_append]
 rfl
theorem crS_len (l:List Say) (ks:List Say):(crS (ks,[]) l).1.length+(crS (ks,[]) l).2.length=ks.length+l.length:=by
 rw[crS_eq]
 simp
 have:∀l:List Say,(l.filter (fun s=> !scB s.2)).length+(l.filter fun s=>scB s.2).length=l.length:=by
  intro l
  induction l with
  |nil=>rfl
  |cons s l ih=>cases h:scB s.2<;>simp[h]<;>omega
 have:=this l
 omega
end Go.Proofs.YtpgjobpmafbigaaGreatDoor

namespace Go.Proofs.YtpgjobpmafbigaaGreatDoor
open Go.ChangeShapes Go.WideShapes Go.ChangeAt Go.RowKit
set_option linter.unusedSimpArgs false
set_option linter.unusedVariables false

def tkN (p:List UInt8):Nat→Nat
 |0=>0
 |k+1=>if 1≤k∧wdL.getD k []=p then k else tkN p k

def tokN (p:List UInt8):Nat:=tkN p 11

def msgL (s:List UInt8):List Nat:=(splL 44 (s.drop 2)).map fun p=>tokN (tmT p)

def msgH (s:List UInt8):Bool:=decide (2≤s.length)&&(decide (s.take 2=[45,62])||decide (s.take 2=[60,45]))

def msgB (s:List UInt8):Bool:=msgH s&&(msgL s).all fun n=>n !=0

def nIs (l:List Nat):List Int:=l.map fun n=>((n:Nat):Int)

theorem tfT_len:∀s:List UInt8,(tfT s).length≤s.length
 |[]=>Nat.le_refl _
 |x :: t=>by
  unfold tfT
  split
  ·have:=tfT_len t
   simp
   omega
  ·exact Nat.le_refl _
theorem tmT_len (s:List UInt8):(tmT s).length≤s.length:=by
 unfold tmT teT
 rw[List.length_reverse]
 have h1:=tfT_len (tfT s).reverse
 have h2:=tfT_len s
 rw[List.length_reverse] at h1
 omega
def lnT (ps:List (List UInt8)) (i:Nat):List (List UInt8):=((ps.take i).map tmT).filter fun l=> !l.isEmpty
def lnS (s:List UInt8):List (List UInt8):=((splL 10 s).map tmT).filter fun l=> !l.isEmpty
theorem lnT_next (ps:List (List UInt8)) (i:Nat) (h:i<ps.length):lnT ps (i+1)=if tmT ps[i]=[] then lnT ps i else lnT ps i++[tmT ps[i]]:=by
 unfold lnT
 rw[List.take_add_one,List.getElem?_eq_getElem h,List.map_append,List.filter_append]
 split
 ·rename_i h2
  simp[h2]
 ·rename_i h2
  have h3:(tmT ps[i]).isEmpty=false:=by simpa using h2
  simp[h3]
theorem lnT_end (s:List UInt8):lnT (splL 10 s) (splL 10 s).length=lnS s:=by
 unfold lnT lnS
 rw[List.take_length]
theorem lnT_le (ps:List (List UInt8)) (i:Nat):(lnT ps i).length≤i:=by
 unfold lnT
 refine Nat.le_trans (List.length_filter_le _ _) ?_
 rw[List.length_map,List.length_take]
 omega
theorem lnL_mem {s x:List UInt8} (h:x∈lnS s):x≠[]∧x.length≤s.length:=by
 unfold lnS at h
 obtain⟨h1,h2⟩:=List.mem_filter.1 h
 obtain⟨y,hy,rfl⟩:=List.mem_map.1 h1
 exact⟨by simpa using h2,Nat.le_trans (tmT_len y) (splL_len 10 s y hy)⟩
def dotT:List UInt8:=[46,46,46]
def zeP:Ptn:=⟨[],false,false,[]⟩
theorem st_at {w:World} {a:Option Addr} {n c:Nat} {ls:List (List UInt8)} (h:RdC w (.slice a n c) (stC ls)) {k:Nat} (hk:k<ls.length):∃b off,a=some ⟨b,off,none⟩∧w.cell? ⟨b,off+k,none⟩=some (.string ⟨(ls.getD k []).toArray⟩):=by
 obtain⟨b,off,c',ev, -, -,hc⟩:=h.cellAt (i:=k) (by rw[stC_length15];exact hk)
 simp only[Value.slice.injEq] at ev
 obtain⟨rfl, -, -⟩:=ev
 refine⟨b,off,rfl,?_⟩
 rw[hc]
 simp[stC,hk]
theorem st_len {w:World} {v:Value} {ls:List (List UInt8)} (h:RdC w v (stC ls)):∃a c,v=.slice a ls.length c∧ls.length≤c∧c≤maxLen∧(a=none→c=0):=by
 obtain⟨a,c,e,h1,h2,h3, -⟩:=h
 rw[stC_length15] at e h1
 exact⟨a,c,e,h1,h2,h3⟩

set_option maxRecDepth 100000 in
set_option maxHeartbeats 8000000 in
theorem linesOf_any (s:List UInt8) (hs:s.length≤4096) (w:World) (hT:TkT w):
  Calls Tryz.prog 34 #[.string ⟨s.toArray⟩] w fun e w'=>∃v,e=.returned v∧OwnG w [Rw.st v (lnS s)] w':=by
 obtain⟨ti,hti,hz0,hz1,hz2⟩:=info_parts infoStr
 have HC:Hid (Calls Tryz.prog 87 #[.string ⟨s.toArray⟩,.string ⟨#[10]⟩] w fun e w'=>∃v,e=.returned v∧OwnG w [Rw.st v (splL 10 s)] w'):=split15_any 10 s (by omega) w hT
 have HP:Hid (∀p∈splL 10 s,p.length≤4096):=fun p hp=>Nat.le_trans (splL_len 10 s p hp) hs
 have HE:Hid (lnT (splL 10 s) (splL 10 s).length=lnS s):=lnT_end s
 have hcnt:=splL_count 10 s
 obtain⟨ps,hps⟩:∃l:List (List UInt8),l=splL 10 s:=⟨_,rfl⟩
 rw[←hps] at HC HP HE hcnt
 generalize (⟨s.toArray⟩:ByteArray)=SB at HC ⊢
 have hpl:ps.length≤4097:=by omega
 clear hps hcnt hT
 go_enter Tryz.func34,Tryz.ntmps34
 go_wp2_with fail
 refine HC.out.mono ?_
 rintro e w1 ⟨v,rfl,hO⟩
 obtain⟨a,c,rfl,h1,h2, -⟩:=st_len (hO.rdC rfl)
 obtain⟨n,hn⟩:∃n:Nat,n=ps.length:=⟨_,rfl⟩
 have HN:Hid (n=ps.length):=hn
 have hO0:OwnG w [Rw.st (.slice none 0 0) (lnT ps 0),⟨9,1,.slice a n c,n,stC ps⟩] w1:=by
  have:OwnG w [⟨9,1,.slice a n c,n,stC ps⟩] w1:=by rw[hn];exact hO
  exact this.nil 9 1
 rw[←hn] at h1 hpl ⊢
 unfold maxLen at h2
 clear hO HC hn
 go_wp2
 go_loopw [3,9] (fun ov iv wx=>∃i:Nat,i≤n∧iv=.int .i64 (i:Int)∧OwnG w [Rw.st ov (lnT ps i),⟨9,1,.slice a n c,n,stC ps⟩] wx) (fun _ iv _=>n - (intOf iv).toNat)
 case atStart=>exact⟨0,by omega,rfl,hO0⟩
 case round=>
  obtain⟨i,hi,rfl,hO⟩:=hrel
  clear hO0
  by_cases hlt:i<n
  ·have hd:decide ((i:Int)<(n:Int))=true:=decide_eq_true (by omega)
   have hiI:(i:Int)<(n:Int):=by omega
   have HIn:Hid (i<ps.length):=by show _<_;rw[←HN.out];exact hlt
   obtain⟨b,off,rfl,g1⟩:=st_at (hO.tail.rdC rfl) HIn.out
   obtain⟨x,hx⟩:∃x:List UInt8,x=ps.getD i []:=⟨_,rfl⟩
   rw[←hx] at g1
   have HXl:Hid (x.length≤1000000):=by
    have h3:=HP.out x (by rw[hx];have:=HIn.out;simp[this])
    show _≤_
    omega
   have HNx:Hid (lnT ps (i+1)=if tmT x=[] then lnT ps i else lnT ps i++[tmT x]):=by
    show _=_
    rw[lnT_next ps i HIn.out,hx]
    have:=HIn.out
    simp[this]
   obtain⟨LL,hLL⟩:∃L:List (List UInt8),L=lnT ps i:=⟨_,rfl⟩
   rw[←hLL] at hO HNx
   have hLn:LL.length≤4097:=by rw[hLL];have:=lnT_le ps i;omega
   have HC2:Hid (∀W:World,Calls Tryz.prog 88 #[.string ⟨x.toArray⟩,.string ⟨#[32]⟩] W fun e w'=>e=.returned (.string ⟨(tmT x).toArray⟩)∧Below W.heap.size W w'):=fun W=>trim_any x HXl.out W
   generalize (⟨x.toArray⟩:ByteArray)=XB at g1 HC2
   clear hx hLL
   go_wp2_with fail
   refine(HC2.out _).mono ?_
   rintro e w2 ⟨rfl,b2⟩
   have hO2:=hO.kept b2
   obtain⟨T,hTe⟩:∃t:List UInt8,t=tmT x:=⟨_,rfl⟩
   rw[←hTe] at HNx ⊢
   obtain⟨TB,hTB⟩:∃B:ByteArray,B=⟨T.toArray⟩:=⟨_,rfl⟩
   rw[←hTB]
   have hTl:TB.toList=T:=by rw[hTB];exact str_toList _
   have HTB:Hid (TB=⟨T.toArray⟩):=hTB
   clear b2 hO HC2 hTe hTB
   by_cases hte:T=[]
   ·have hTn:TB.toList=[]:=by rw[hTl,hte]
    have hO5:OwnG w [Rw.st u3 (lnT ps (i+1)),⟨9,1,.slice (some ⟨b,off,none⟩) n c,n,stC ps⟩] w2:=by
     rw[HNx.out,if_pos hte]
     exact hO2
    clear hTl hte hO2
    go_wp2
    go_roundw
    case rel=>exact⟨i+1,by omega,by go_num,hO5⟩
    case measure=>simp[intOf]<;>omega
   ·have hTn:(TB.toList==[])=false:=by rw[hTl];simpa using hte
    have hTn2:¬TB.toList=[]:=by rw[hTl];exact hte
    have hTn3:(TB.toList !=[])=true:=by rw[bne,hTn];rfl
    have HN2:Hid (stC LL++[.string TB]=stC (lnT ps (i+1))):=by show _=_;rw[HNx.out,if_neg hte,HTB.out,stC_next]
    have HL2:Hid (LL.length+1=(lnT ps (i+1)).length):=by show _=_;rw[HNx.out,if_neg hte];simp
    clear hTl hte
    go_wp2_with (at_builtin;go_must (refine wpList_append_E rfl _ _ 105 rfl 9 ti _ 1 16 Tryz.underlying105 hti hz0 hz1 hz2 rfl (by decide) _ LL.length (stC LL) rfl (hO2.kept (growB _)) ⟨w2.heap.size,0,none⟩ 1 1 [.string TB] rfl rfl (news1 _ rfl) (by intro u hu;simp at hu;subst hu;rfl) (by unfold maxLen;omega) (by omega) ?_))
    intro v6 w6 hO6 hC6
    rw[HN2.out,HL2.out] at hO6
    clear hO2 hC6
    go_wp2
    go_roundw
    case rel=>exact⟨i+1,by omega,by go_num,hO6⟩
    case measure=>simp[intOf]<;>omega
  ·have hd:decide ((i:Int)<(n:Int))=false:=decide_eq_false (by omega)
   have hiI:(n:Int)≤(i:Int):=by omega
   have HF:Hid (OwnG w [Rw.st u3 (lnS s)] wr):=by
    rw[←HE.out,←HN.out,show n=i by omega]
    exact hO.swap.tail
   clear hO
   go_wp2
   go_ret
   exact⟨_,rfl,HF.out⟩

theorem tok_hit:∀k:Nat,1≤k→k≤10→tokN (wdL.getD k [])=k:=by
 intro k h1 h2
 have:∀j:Fin 11,1≤j.val→tokN (wdL.getD j.val [])=j.val:=by decide
 exact this ⟨k,by omega⟩ h1
theorem tok_miss (x:List UInt8) (h:∀k,1≤k→k≤10→wdL.getD k []≠x):tokN x=0:=by
 have:∀m,m≤11→tkN x m=0:=by
  intro m
  induction m with
  |zero=>intro _;rfl
  |succ k ih=>
   intro hk
   unfold tkN
   rw[if_neg (fun e=>h k e.1 (by omega) e.2)]
   exact ih (by omega)
 exact this 11 (by omega)

set_option maxHeartbeats 4000000 in
theorem tokenOf_any (x:List UInt8) (w:World) (hT:TkT w):
  Calls Tryz.prog 341 #[.string ⟨x.toArray⟩] w fun e w'=>e=.returned (.int .i64 ((tokN x:Nat):Int))∧w'=w:=by
 have HT:Hid (TkT w):=hT
 obtain⟨XB,hXB⟩:∃B:ByteArray,B=⟨x.toArray⟩:=⟨_,rfl⟩
 have HXl:Hid (XB.toList=x):=by show _=_;rw[hXB];exact str_toList _
 rw[←hXB]
 clear hT hXB
 go_enter Tryz.func341,Tryz.ntmps341
 go_wp2
 go_loop [3] (fun iv=>∃i:Nat,1≤i∧i≤11∧iv=.int .i64 (i:Int)∧Hid (∀k,1≤k→k<i→wdL.getD k []≠x)) (fun iv=>11 - (intOf iv).toNat)
 case atStart=>exact⟨1,by omega,by omega,rfl,(by show ∀k,_;intro k h1 h2;omega)⟩
 case round=>
  obtain⟨i,hi1,hi,rfl,HI⟩:=hrel
  by_cases hlt:i≤10
  ·have hd:decide ((i:Int)≤10)=true:=decide_eq_true (by omega)
   have hiI:(i:Int)≤10:=by omega
   have hiJ:(i:Int)<11:=by omega
   have hw:=HT.out.words i (by omega)
   obtain⟨WB,hWB⟩:∃B:ByteArray,B=⟨(wdL.getD i []).toArray⟩:=⟨_,rfl⟩
   rw[←hWB] at hw
   have HWl:Hid (WB.toList=wdL.getD i []):=by show _=_;rw[hWB];exact str_toList _
   clear hWB
   by_cases he:wdL.getD i []=x
   ·have c1:(WB.toList==XB.toList)=true:=by rw[HWl.out,HXl.out,he];simp
    have c2:WB.toList=XB.toList:=by rw[HWl.out,HXl.out,he]
    have HF:Hid (tokN x=i):=by show _=_;rw[←he];exact tok_hit i hi1 hlt
    clear he
    go_wp2
    go_ret
    exact⟨by rw[HF.out];rfl,rfl⟩
   ·have c1:(WB.toList==XB.toList)=false:=by rw[HWl.out,HXl.out];simpa using he
    have c2:¬WB.toList=XB.toList:=by rw[HWl.out,HXl.out];exact he
    have HI2:Hid (∀k,1≤k→k<i+1→wdL.getD k []≠x):=by
     show ∀k,_
     intro k h1 h2
     rcases Nat.lt_or_ge k i with h|h
     ·exact HI.out k h1 h
     ·rw[show k=i by omega];exact he
    clear he
    go_wp2
    go_round
    case rel=>exact⟨i+1,by omega,by omega,by go_num,HI2⟩
    case measure=>simp[intOf]<;>omega
  ·have hd:decide ((i:Int)≤10)=false:=decide_eq_false (by omega)
   have hiI:(10:Int)<(i:Int):=by omega
   have HF:Hid (tokN x=0):=tok_miss x fun k h1 h2=>HI.out k h1 (by omega)
   go_wp2
   go_ret
   exact⟨by rw[HF.out];rfl,rfl⟩
theorem oneCell2 (b:Bool) (a:Option Addr) (n c:Nat):([.bool b,.slice a n c]:List Value).toArray.all (·.oneCell')=true:=all_oneCell_toArray (by
 intro v hv
 simp only[List.mem_cons,List.not_mem_nil,or_false] at hv
 rcases hv with rfl|rfl<;>rfl)

theorem wrB_eq (p:Ptn):wrB p=(nmB p.name&&(decide (1≤((p.n:Nat):Int))&&decide (((p.n:Nat):Int)≤8))&&p.ms.all fun m=>wrM m.2):=by
 unfold wrB
 have e1:decide (1≤p.n)=decide (1≤(p.n:Int)):=by by_cases h:1≤p.n<;>simp[h]<;>omega
 have e2:decide (p.n≤8)=decide ((p.n:Int)≤8):=by by_cases h:p.n≤8<;>simp[h]<;>omega
 rw[e1,e2,Bool.and_assoc (nmB p.name)]
theorem all_true {p:Ptn} (h:∀k,k<p.n→wrM (p.tk k)=true):(p.ms.all fun m=>wrM m.2)=true:=by
 rw[List.all_eq_true]
 intro m hm
 obtain⟨k,hk,rfl⟩:=List.mem_iff_getElem.1 hm
 have:=h k hk
 unfold Ptn.tk at this
 simpa [hk] using this

set_option maxRecDepth 100000 in
set_option maxHeartbeats 4000000 in
theorem writable_any (p:Ptn) (vm:Value) (A:Array Value) (hA:A=(paC p vm).toArray) (hnm:p.name.length≤maxLen) (w:World) (h:MsR w vm p):
  Calls Tryz.prog 86 #[.agg A] w fun e w'=>e=.returned (.bool (wrB p))∧Below w.heap.size w w':=by
 obtain⟨a,cap,rfl,hl,hm, -⟩:=id h.form
 obtain⟨n,hn⟩:∃n:Nat,n=p.n:=⟨_,rfl⟩
 have HW:Hid (wrB p=(nmB p.name&&(decide (1≤(n:Int))&&decide ((n:Int)≤8))&&p.ms.all fun m=>wrM m.2)):=by show _=_;rw[wrB_eq,hn]
 rw[←hn] at h hl hA
 have HN:Hid (n=p.n):=hn
 unfold maxLen at hm
 have HM:Hid (MsR w (.slice a n cap) p):=h
 obtain⟨SB,hSB⟩:∃B:ByteArray,B=⟨p.name.toArray⟩:=⟨_,rfl⟩
 have HSB:Hid (SB=⟨p.name.toArray⟩):=hSB
 have HNm:Hid (p.name.length≤maxLen):=hnm
 clear h hn hnm
 go_enter Tryz.func86,Tryz.ntmps86
 go_wp2_with (refine wpList_box_blk rfl 25 _ rfl (paC p (.slice a n cap)) (by rw[←hA];rfl) ?_)
 intro w1 r1 b1 s1
 have c2:w1.cell? ⟨w.heap.size,3,none⟩=some (.slice a n cap):=r1.cell 3
 have c0:w1.cell? ⟨w.heap.size,0,none⟩=some (.string SB):=by rw[hSB];exact r1.cell 0
 have HM1:Hid (MsR w1 (.slice a n cap) p):=HM.out.kept b1
 have hbw:=b1
 clear b1 s1 hA hSB r1 HM
 go_wp2_with fail
 rw[HSB.out]
 refine(isName_any p.name HNm.out _).mono ?_
 rintro e w1 ⟨rfl,rfl⟩
 obtain⟨nb,hnb⟩:∃b:Bool,b=nmB p.name:=⟨_,rfl⟩
 rw[←hnb]
 rw[←hnb] at HW
 clear hnb
 cases nb with
 |false=>
  go_wp2
  go_ret
  exact⟨by rw[HW.out];rfl,hbw⟩
 |true=>
  go_wp2_with fail
  refine(fits_any _ _ _).mono ?_
  rintro e w1 ⟨rfl,rfl⟩
  obtain⟨f,hf⟩:∃f:Bool,f=(decide (1≤(n:Int))&&decide ((n:Int)≤8)):=⟨_,rfl⟩
  rw[←hf]
  rw[←hf] at HW
  clear hf
  cases f with
  |false=>
   go_wp2
   go_ret
   exact⟨by rw[HW.out];rfl,hbw⟩
  |true=>
   go_wp2
   go_loopw [19] (fun iv wx=>∃i:Nat,i≤n∧iv=.int .i64 (i:Int)∧Hid (∀k,k<i→wrM (p.tk k)=true)∧Below w1.heap.size w1 wx) (fun iv _=>n - (intOf iv).toNat)
   case atStart=>exact⟨0,by omega,rfl,(by show ∀k,_;intro k hk;omega),Below.refl _ _⟩
   case round=>
    obtain⟨i,hi,rfl,HI,hbx⟩:=hrel
    by_cases hlt:i<n
    ·have hd:decide ((i:Int)<(n:Int))=true:=decide_eq_true (by omega)
     have hiI:(i:Int)<(n:Int):=by omega
     obtain⟨b,off,a',c',rfl,g1,g2,g3,g4,g5⟩:=ms_at (HM1.out.kept hbx) (k:=i) (by rw[←HN.out];exact hlt)
     obtain⟨t,ht⟩:∃t:List Int,t=p.tk i:=⟨_,rfl⟩
     rw[←ht] at g2 g3 g4
     obtain⟨M,hM⟩:∃M:Nat,M=t.length:=⟨_,rfl⟩
     rw[←hM] at g2 g3 g4
     obtain⟨q,hq⟩:∃q:Bool,q=p.ini i:=⟨_,rfl⟩
     rw[←hq] at g1
     have HT:Hid (t=p.tk i):=ht
     have hrg:=range_two g1 g2
     have HR:Hid (RdI .i64 wr (.slice a' M c') t):=g3
     clear ht hM hq g1 g2 g3 g4 g5
     go_wp2_with (first
      |refine wpList_load_mid rfl 74 _ rfl b (off+i * 2) rfl [.bool q,.slice a' M c'] _ hrg Tryz.underlying74 rfl infoMsg ?_
      |refine wpList_alloc_blk rfl 74 rfl [.bool false,.slice none 0 0] (allocMsg _) ?_)
     intro w2 r2 b2 s2
     go_wp2_with (refine wpList_store_part rfl 74 _ _ rfl rfl [.bool q,.slice a' M c'] rfl [] [.bool false,.slice none 0 0] [] [.bool q,.slice a' M c'] r2 rfl rfl rfl rfl infoMsg (oneCell2 _ _ _ _) ?_)
     intro w3 r3 hw3
     have b3:Below wr.heap.size wr w3:=hw3.below _ _ (Nat.le_refl _) b2
     have hbx3:=stepB hbx b3
     have HR3:Hid (RdI .i64 w3 (.slice a' M c') t):=HR.out.kept b3
     clear b2 s2 r2 hw3 b3 hrg
     go_wp2_with (refine wpList_load_part rfl 74 _ rfl rfl [] [.bool q,.slice a' M c'] [] r3 rfl rfl Tryz.underlying74 rfl infoMsg ?_)
     refine(wrMsg_any q _ t _ rfl _ HR3.out).mono ?_
     rintro e w4 ⟨rfl,b4⟩
     replace hbx3:=stepB hbx3 b4
     obtain⟨m,hm⟩:∃m:Bool,m=wrM t:=⟨_,rfl⟩
     rw[←hm]
     have HM':Hid (m=wrM t):=hm
     clear hm r3 HR3 b4
     cases m with
     |false=>
      have HF:Hid (wrB p=false):=wr_false (k:=i) (by rw[←HN.out];exact hlt) (by rw[←HT.out];exact HM'.out.symm)
      go_wp2
      go_ret
      exact⟨by rw[HF.out];rfl,stepB hbw hbx3⟩
     |true=>
      go_wp2
      go_roundw
      case rel=>exact⟨i+1,by omega,by go_num,(by show ∀k,_;intro k hk;rcases Nat.lt_or_ge k i with h|h;exact HI.out k h;rw[show k=i by omega,←HT.out];exact HM'.out.symm),hbx3⟩
      case measure=>simp[intOf]<;>omega
    ·have hd:decide ((i:Int)<(n:Int))=false:=decide_eq_false (by omega)
     have hiI:(n:Int)≤(i:Int):=by omega
     have HO:Hid (wrB p=true):=by
      show _=_
      rw[HW.out,all_true fun k hk=>HI.out k (by rw[←HN.out] at hk;omega)]
      rfl
     go_wp2
     go_ret
     exact⟨by rw[HO.out];rfl,stepB hbw hbx⟩

def tnB (p:Ptn):Bool:=(List.range p.n).all fun m=>decide (p.ini m=decide (m % 2=0))

set_option maxRecDepth 100000 in
set_option maxHeartbeats 4000000 in
theorem byTurns_any (p:Ptn) (vm:Value) (w:World) (h:MsR w vm p):
  Calls Tryz.prog 89 #[vm] w fun e w'=>e=.returned (.bool (tnB p))∧Below w.heap.size w w':=by
 obtain⟨a,cap,rfl,hl,hm, -⟩:=id h.form
 obtain⟨n,hn⟩:∃n:Nat,n=p.n:=⟨_,rfl⟩
 rw[←hn] at h hl
 have HN:Hid (n=p.n):=hn
 unfold maxLen at hm
 have HM1:Hid (MsR w (.slice a n cap) p):=h
 rw[←hn]
 clear h hn
 go_enter Tryz.func89,Tryz.ntmps89
 go_wp2
 go_loopw [7] (fun iv wx=>∃i:Nat,i≤n∧iv=.int .i64 (i:Int)∧Hid (∀k,k<i→p.ini k=decide (k % 2=0))∧Below w.heap.size w wx) (fun iv _=>n - (intOf iv).toNat)
 case atStart=>exact⟨0,by omega,rfl,(by show ∀k,_;intro k hk;omega),Below.refl _ _⟩
 case round=>
  obtain⟨i,hi,rfl,HI,hbx⟩:=hrel
  by_cases hlt:i<n
  ·have hd:decide ((i:Int)<(n:Int))=true:=decide_eq_true (by omega)
   have hiI:(i:Int)<(n:Int):=by omega
   obtain⟨b,off,a',c',rfl,g1,g2,g3,g4,g5⟩:=ms_at (HM1.out.kept hbx) (k:=i) (by rw[←HN.out];exact hlt)
   obtain⟨M,hM⟩:∃M:Nat,M=(p.tk i).length:=⟨_,rfl⟩
   rw[←hM] at g2
   obtain⟨q,hq⟩:∃q:Bool,q=p.ini i:=⟨_,rfl⟩
   rw[←hq] at g1
   have HQ:Hid (q=p.ini i):=hq
   have hrg:=range_two g1 g2
   have hr0:(i:Int).tmod 2=((i % 2:Nat):Int):=by rw[Int.tmod_eq_emod_of_nonneg (by omega)];omega
   obtain⟨e0,he0⟩:∃e:Bool,e=decide (i % 2=0):=⟨_,rfl⟩
   have HE:Hid (e0=decide (i % 2=0)):=he0
   have hr1:(((i % 2:Nat):Int)==0)=e0:=by
    rw[he0]
    rcases Nat.mod_two_eq_zero_or_one i with h|h<;>rw[h]<;>rfl
   obtain⟨r,hr⟩:∃r:Nat,r=i % 2:=⟨_,rfl⟩
   rw[←hr] at hr0 hr1
   clear hM hq g1 g2 g3 g4 g5 he0 hr
   go_wp2_with (first
    |refine wpList_load_mid rfl 74 _ rfl b (off+i * 2) rfl [.bool q,.slice a' M c'] _ hrg Tryz.underlying74 rfl infoMsg ?_
    |refine wpList_alloc_blk rfl 74 rfl [.bool false,.slice none 0 0] (allocMsg _) ?_)
   intro w2 r2 b2 s2
   go_wp2_with (refine wpList_store_part rfl 74 _ _ rfl rfl [.bool q,.slice a' M c'] rfl [] [.bool false,.slice none 0 0] [] [.bool q,.slice a' M c'] r2 rfl rfl rfl rfl infoMsg (oneCell2 _ _ _ _) ?_)
   intro w3 r3 hw3
   have b3:Below wr.heap.size wr w3:=hw3.below _ _ (Nat.le_refl _) b2
   have hbx3:=stepB hbx b3
   have c3:w3.cell? ⟨wr.heap.size,0,none⟩=some (.bool q):=r3.cell 0
   clear b2 s2 r2 hw3 b3 hrg r3
   by_cases hqe:q=e0
   ·have hne:(q !=e0)=false:=by rw[hqe];simp
    have HI2:Hid (∀k,k<i+1→p.ini k=decide (k % 2=0)):=by
     show ∀k,_
     intro k hk
     rcases Nat.lt_or_ge k i with h|h
     ·exact HI.out k h
     ·rw[show k=i by omega,←HQ.out,←HE.out];exact hqe
    clear hqe
    cases q<;>cases e0<;>simp at hne
    all_goals
     go_wp2
     go_roundw
     case rel=>exact⟨i+1,by omega,by go_num,HI2,hbx3⟩
     case measure=>simp[intOf]<;>omega
   ·have HF:Hid (tnB p=false):=by
     show _=_
     unfold tnB
     rw[List.all_eq_false]
     refine⟨i,List.mem_range.2 (by rw[←HN.out];exact hlt),?_⟩
     rw[←HQ.out,←HE.out]
     simpa using hqe
    cases q<;>cases e0<;>simp at hqe
    all_goals
     go_wp2
     go_ret
     exact⟨by rw[HF.out];rfl,hbx3⟩
  ·have hd:decide ((i:Int)<(n:Int))=false:=decide_eq_false (by omega)
   have hiI:(n:Int)≤(i:Int):=by omega
   have HO:Hid (tnB p=true):=by
    show _=_
    unfold tnB
    rw[List.all_eq_true]
    intro k hk
    have:=HI.out k (by have:=List.mem_range.1 hk;rw[←HN.out] at this;omega)
    exact decide_eq_true this
   go_wp2
   go_ret
   exact⟨by rw[HO.out];rfl,hbx⟩

set_option maxHeartbeats 1000000 in
theorem sideOf_any (b:Bool) (w:World):
  Calls Tryz.prog 221 #[.bool b] w fun e w'=>e=.returned (.int .i64 (if b then 0 else 1))∧w'=w:=by
 cases b
 all_goals
  go_enter Tryz.func221,Tryz.ntmps221
  go_wp2
  go_ret
  exact⟨rfl,rfl⟩
structure Rst (rest:List Rw) (vs:List Value) (p:Ptn) (lines:Rw):Prop where
 len:vs.length=p.n
 toks:∀k (h:k<vs.length),(⟨3,1,vs[k],(p.tk k).length,(p.tk k).map (Value.int .i64)⟩:Rw)∈rest
 lines:lines∈rest
 kinds:∀q∈rest,q.ty=3∨q.ty=9

theorem Rst.next {rest:List Rw} {vs:List Value} {p:Ptn} {ln:Rw} (h:Rst rest vs p ln) (b:Bool) (t:List Int) (v:Value):Rst (⟨3,1,v,t.length,t.map (Value.int .i64)⟩ :: rest) (vs++[v]) ⟨p.name,p.ki,p.kr,p.ms++[(b,t)]⟩ ln:=by
 have hl:vs.length=p.ms.length:=h.len
 refine⟨by simp[Ptn.n,hl],fun k hk=>?_,List.mem_cons_of_mem _ h.lines,fun q hq=>?_⟩
 ·by_cases hk2:k<vs.length
  ·have e1:(vs++[v])[k]=vs[k]:=List.getElem_append_left hk2
   have e2:Ptn.tk ⟨p.name,p.ki,p.kr,p.ms++[(b,t)]⟩ k=p.tk k:=by
    unfold Ptn.tk
    have:k<p.ms.length:=by omega
    simp[List.getD,List.getElem?_append_left this]
   rw[e1,e2]
   exact List.mem_cons_of_mem _ (h.toks k hk2)
  ·have hke:k=vs.length:=by simp at hk;omega
   subst hke
   have e1:(vs++[v])[vs.length]=v:=by simp
   have e2:Ptn.tk ⟨p.name,p.ki,p.kr,p.ms++[(b,t)]⟩ vs.length=t:=by
    unfold Ptn.tk
    rw[hl]
    simp[List.getD]
   rw[e1,e2]
   exact List.mem_cons_self ..
 ·rcases List.mem_cons.1 hq with rfl|hq
  ·exact .inl rfl
  ·exact h.kinds q hq

theorem bodyPost_blk2 {P:Program} {fn:Func} {p q:Tmp} {ty bt:TypeId} {g:Nat} {cs:List Value} {d:TypeDesc} {v:Value} {R:Ending→World→Prop} {a:Act} {w:World} (h:fn.results=#[.cell p ty,.tmp q]) (hd:a.defers=[])
  (hp:a.tmps.getD p undef=.pointer (some ⟨g,0,none⟩)) (hq:a.tmps.getD q undef=v) (hb:BlkAt g bt cs w) (hu:P.underlying ty=some d) (hrow:d.isRow=true) (hi:(P.info? ty).map (·.size)=some cs.length)
  (hR:R (.returned (.tuple #[.agg cs.toArray,v])) w):bodyPost P fn R .ret a w:=by
 refine bodyPost_ret ?_ hd hR
 have hp':a.tmps[p]?.getD undef=.pointer (some ⟨g,0,none⟩):=by simpa using hp
 have hq':a.tmps[q]?.getD undef=v:=by simpa using hq
 have hb':BlkAt g bt (([]:List Value)++cs++[]) w:=by simpa using hb
 have hl:=run_loadVar_mid (P:=P) w g 0 ty cs d hb'.range hu hrow hi
 simp[results,h,hp',hq',asAddr,hl]

theorem row_not_blk {w:World} {base sz n g:Nat} {e ty:TypeId} {v:Value} {xs cs:List Value} (h:w.ownsRow base e sz v n xs) (hb:BlkAt g ty cs w) (hne:e≠ty):v.ownBlock≠some g:=by
 rcases h.2 with ⟨rfl,h0⟩|⟨g',cap,cur,rfl,hb',hg,hn,hm,hs,ht⟩
 ·simp[Value.ownBlock]
 ·intro h
  have h1:g'=g:=by simpa [Value.ownBlock] using h
  subst h1
  unfold BlkAt at hb
  rw[hg] at hb
  simp at hb
  exact hne hb.2

theorem Rst.far {rest:List Rw} {vs:List Value} {p:Ptn} {ln:Rw} (h:Rst rest vs p ln) {w w':World} {g:Nat} {v1 v2:Value} {n1 n2:Nat} {x1 x2 cs:List Value} (hO:OwnG w (⟨4,1,v1,n1,x1⟩ :: ⟨117,1,v2,n2,x2⟩ :: rest) w') (hb:BlkAt g 38 cs w'):
  ∀q∈(⟨4,1,v1,n1,x1⟩ :: ⟨117,1,v2,n2,x2⟩ :: rest:List Rw),∀b,q.v.ownBlock=some b→b≠g:=fun q hq b hqb e=>by
 have hty:q.ty≠38:=by
  rcases List.mem_cons.1 hq with rfl|hq
  ·exact(show(4:TypeId)≠38 by decide)
  ·rcases List.mem_cons.1 hq with rfl|hq
   ·exact(show(117:TypeId)≠38 by decide)
   ·rcases h.kinds q hq with h|h<;>rw[h]<;>decide
 exact row_not_blk (hO.rows q hq) hb hty (by rw[hqb,e])

theorem whole15 (l:List Value):l=[]++l++[]:=by simp

theorem cellDK15 {w W:World} {p:Addr} {v:Value} (h:w.cell? p=some v) (hb:Below w.drew.heap.size w.drew W):W.cell? p=some v:=by
 have h2:w.drew.cell? p=some v:=h
 rw[hb.cell (World.block_lt_of_cell? _ _ h2)]
 exact h2

def tkX (x:List UInt8):List Nat:=(splL 44 x).map fun p=>tokN (tmT p)
theorem infoTok:(Tryz.prog.info? 111).map (fun i=>(i.zero,i.size,i.bytes))=some (some (.int .i64 0),1,8):=by kernel_rfl
abbrev Rw.tk (v:Value) (l:List Nat):Rw:=⟨111,1,v,l.length,(nIs l).map (Value.int .i64)⟩
theorem tk_next (l:List Nat) (k:Nat):(nIs l).map (Value.int .i64)++[Value.int .i64 ((k:Nat):Int)]=(nIs (l++[k])).map (Value.int .i64):=by simp[nIs]
theorem take_tokN (l:List Nat) (i:Nat) (h:i<l.length):l.take (i+1)=l.take i++[l.getD i 0]:=by
 rw[List.take_add_one,List.getElem?_eq_getElem h]
 simp[h]

set_option maxRecDepth 100000 in
set_option maxHeartbeats 8000000 in
theorem readTokens_any (x:List UInt8) (hx:x.length≤4096) (w:World) (hT:TkT w):
  Calls Tryz.prog 291 #[.string ⟨x.toArray⟩] w fun e w'=>(((tkX x).all fun n=>n !=0)=true∧∃v,e=.returned (.tuple #[v,.bool true])∧OwnG w [Rw.tk v (tkX x)] w')∨(((tkX x).all fun n=>n !=0)=false∧e=.returned (.tuple #[.slice none 0 0,.bool false])∧Below w.heap.size w w'):=by
 obtain⟨ti,hti,hz0,hz1,hz2⟩:=info_parts infoTok
 have HC:Hid (Calls Tryz.prog 87 #[.string ⟨x.toArray⟩,.string ⟨#[44]⟩] w fun e w'=>∃v,e=.returned v∧OwnG w [Rw.st v (splL 44 x)] w'):=split15_any 44 x (by omega) w hT
 have HP:Hid (∀p∈splL 44 x,p.length≤4096):=fun p hp=>Nat.le_trans (splL_len 44 x p hp) hx
 have HT:Hid (TkT w):=hT
 have hcnt:=splL_count 44 x
 obtain⟨NS,hNS⟩:∃NS:List Nat,NS=tkX x:=⟨_,rfl⟩
 have HNS:Hid (NS=(splL 44 x).map fun p=>tokN (tmT p)):=hNS
 rw[←hNS]
 obtain⟨ps,hps⟩:∃l:List (List UInt8),l=splL 44 x:=⟨_,rfl⟩
 rw[←hps] at HC HP HNS hcnt
 generalize (⟨x.toArray⟩:ByteArray)=SB at HC ⊢
 have hpl:ps.length≤4097:=by omega
 clear hps hcnt hT hNS
 go_enter Tryz.func291,Tryz.ntmps291
 go_wp2_with fail
 refine HC.out.mono ?_
 rintro e w1 ⟨v,rfl,hO⟩
 obtain⟨a,c,rfl,h1,h2, -⟩:=st_len (hO.rdC rfl)
 obtain⟨n,hn⟩:∃n:Nat,n=ps.length:=⟨_,rfl⟩
 have HN:Hid (n=ps.length):=hn
 have HNl:Hid (n=NS.length):=by show _=_;rw[HNS.out,List.length_map];exact hn
 have hO0:OwnG w [Rw.tk (.slice none 0 0) (NS.take 0),⟨9,1,.slice a n c,n,stC ps⟩] w1:=by
  have:OwnG w [⟨9,1,.slice a n c,n,stC ps⟩] w1:=by rw[hn];exact hO
  exact this.nil 111 1
 rw[←hn] at h1 hpl ⊢
 unfold maxLen at h2
 clear hO HC hn
 go_wp2
 go_loopw [4,11] (fun ov iv wx=>∃i:Nat,i≤n∧iv=.int .i64 (i:Int)∧Hid ((NS.take i).all (fun n=>n !=0)=true)∧OwnG w [Rw.tk ov (NS.take i),⟨9,1,.slice a n c,n,stC ps⟩] wx) (fun _ iv _=>n - (intOf iv).toNat)
 case atStart=>exact⟨0,by omega,rfl,(by show _=_;rfl),hO0⟩
 case round=>
  obtain⟨i,hi,rfl,HA,hO⟩:=hrel
  clear hO0
  by_cases hlt:i<n
  ·have hd:decide ((i:Int)<(n:Int))=true:=decide_eq_true (by omega)
   have hiI:(i:Int)<(n:Int):=by omega
   have HIn:Hid (i<ps.length):=by show _<_;rw[←HN.out];exact hlt
   obtain⟨b,off,rfl,g1⟩:=st_at (hO.tail.rdC rfl) HIn.out
   obtain⟨y,hy⟩:∃y:List UInt8,y=ps.getD i []:=⟨_,rfl⟩
   rw[←hy] at g1
   have HYl:Hid (y.length≤1000000):=by
    have h3:=HP.out y (by rw[hy];have:=HIn.out;simp[this])
    show _≤_
    omega
   have HNi:Hid (NS.getD i 0=tokN (tmT y)):=by
    show _=_
    rw[HNS.out,hy]
    have:=HIn.out
    simp[this]
   have HC2:Hid (∀W:World,Calls Tryz.prog 88 #[.string ⟨y.toArray⟩,.string ⟨#[32]⟩] W fun e w'=>e=.returned (.string ⟨(tmT y).toArray⟩)∧Below W.heap.size W w'):=fun W=>trim_any y HYl.out W
   generalize (⟨y.toArray⟩:ByteArray)=YB at g1 HC2
   clear hy
   go_wp2_with fail
   refine(HC2.out _).mono ?_
   rintro e w2 ⟨rfl,b2⟩
   have hO2:=hO.kept b2
   go_wp2_with fail
   refine(tokenOf_any (tmT y) _ (HT.out.kept hO2.below)).mono ?_
   rintro e w2 ⟨rfl,rfl⟩
   rw[←HNi.out]
   obtain⟨k,hk⟩:∃k:Nat,k=NS.getD i 0:=⟨_,rfl⟩
   rw[←hk]
   have HK:Hid (k=NS.getD i 0):=hk
   clear b2 hO HC2 hk
   by_cases hk0:k=0
   ·have c1:((k:Int)==0)=true:=by rw[hk0];rfl
    have c2:(k:Int)=0:=by omega
    have HF:Hid ((NS.all fun n=>n !=0)=false):=by
     show _=_
     rw[List.all_eq_false]
     refine⟨NS.getD i 0,?_,by rw[←HK.out,hk0];simp⟩
     have:i<NS.length:=by rw[←HNl.out];exact hlt
     simp[this]
    have HB:Hid (Below w.heap.size w w2):=hO2.below
    clear hk0 hO2
    go_wp2
    go_ret2
    exact .inr ⟨HF.out,rfl,HB.out⟩
   ·have c1:((k:Int)==0)=false:=by
     have:¬(k:Int)=0:=by omega
     simpa using this
    have c2:¬(k:Int)=0:=by omega
    obtain⟨LL,hLL⟩:∃L:List Nat,L=NS.take i:=⟨_,rfl⟩
    rw[←hLL] at hO2
    have hLn:LL.length≤4097:=by rw[hLL,List.length_take];omega
    have HL:Hid (LL++[k]=NS.take (i+1)):=by show _=_;rw[take_tokN NS i (by rw[←HNl.out];exact hlt),hLL,HK.out]
    have HA2:Hid ((NS.take (i+1)).all (fun n=>n !=0)=true):=by
     show _=_
     rw[←HL.out,List.all_append,hLL,HA.out]
     simp[hk0]
    clear hk0 hLL
    go_wp2_with (at_builtin;go_must (refine wpList_append_E rfl _ _ 72 rfl 111 ti _ 1 8 Tryz.underlying72 hti hz0 hz1 hz2 rfl (by decide) _ LL.length ((nIs LL).map (Value.int .i64)) rfl (hO2.kept (growB _)) ⟨w2.heap.size,0,none⟩ 1 1 [.int .i64 (k:Int)] rfl rfl (news1 _ rfl) (by intro u hu;simp at hu;subst hu;rfl) (by unfold maxLen;omega) (by omega) ?_))
    intro v6 w6 hO6 hC6
    have hO7:OwnG w [Rw.tk v6 (NS.take (i+1)),⟨9,1,.slice (some ⟨b,off,none⟩) n c,n,stC ps⟩] w6:=by
     rw[tk_next] at hO6
     rw[←HL.out]
     have e:LL.length+1=(LL++[k]).length:=by simp
     rw[e] at hO6
     exact hO6
    clear hO2 hC6 hO6
    go_wp2
    go_roundw
    case rel=>exact⟨i+1,by omega,by go_num,HA2,hO7⟩
    case measure=>simp[intOf]<;>omega
  ·have hd:decide ((i:Int)<(n:Int))=false:=decide_eq_false (by omega)
   have hiI:(n:Int)≤(i:Int):=by omega
   have hie:NS.take i=NS:=List.take_of_length_le (by have:=HNl.out;omega)
   have HF:Hid (OwnG w [Rw.tk u4 NS] wr):=by
    rw[hie] at hO
    exact hO.swap.tail
   have HA2:Hid ((NS.all fun n=>n !=0)=true):=by
    have:=HA.out
    rw[hie] at this
    exact this
   clear hO hie
   go_wp2
   go_ret2
   exact .inl ⟨HA2.out,_,rfl,HF.out⟩
theorem infoAr:(Tryz.prog.info? 253).map (·.size)=some 2:=by kernel_rfl
theorem idx_ar0 (a b:ByteArray) (w:World):(Instr.index 253 (.agg #[.string a,.string b]) (.int .i64 0)).run Tryz.prog w=.ok (.string a) w:=by kernel_rfl
theorem idx_ar1 (a b:ByteArray) (w:World):(Instr.index 253 (.agg #[.string a,.string b]) (.int .i64 1)).run Tryz.prog w=.ok (.string b) w:=by kernel_rfl
theorem build_ms (q:Bool) (a:Option Addr) (n c:Nat) (w:World):(Instr.build 74 #[(0,.bool q),(1,.slice a n c)]).run Tryz.prog w=.ok (.agg #[.bool q,.slice a n c]) w:=by kernel_rfl
theorem build_m0 (w:World):(Instr.build 74 #[]).run Tryz.prog w=.ok (.agg #[.bool false,.slice none 0 0]) w:=by kernel_rfl
def ar0:List UInt8:=[45,62]
def ar1:List UInt8:=[60,45]
theorem pre_take (a x:List UInt8):a.isPrefixOf x=true↔x.take a.length=a:=by
 rw[List.isPrefixOf_iff_prefix,List.prefix_iff_eq_take]
 exact⟨fun h=>h.symm,fun h=>h.symm⟩
theorem pre_len {a x:List UInt8} (h:a.isPrefixOf x=true):a.length≤x.length:=by
 rw[List.isPrefixOf_iff_prefix] at h
 exact h.length_le
theorem msg_in {x:List UInt8} (h:ar0.isPrefixOf x=true):msgH x=true∧decide (x.getD 0 0=45)=true:=by
 have h1:=(pre_take _ _).1 h
 have h2:=pre_len h
 have h1':x.take 2=[45,62]:=h1
 have h2':2≤x.length:=h2
 refine⟨?_,?_⟩
 ·unfold msgH
  rw[decide_eq_true h2',h1']
  rfl
 ·match x,h1' with
  |y :: z :: l,h1'=>
   simp at h1'
   rw[h1'.1]
   rfl
theorem msg_re {x:List UInt8} (h:ar1.isPrefixOf x=true):msgH x=true∧decide (x.getD 0 0=45)=false:=by
 have h1:=(pre_take _ _).1 h
 have h2:=pre_len h
 have h1':x.take 2=[60,45]:=h1
 have h2':2≤x.length:=h2
 refine⟨?_,?_⟩
 ·unfold msgH
  rw[decide_eq_true h2',h1']
  rfl
 ·match x,h1' with
  |y :: z :: l,h1'=>
   simp at h1'
   rw[h1'.1]
   rfl
theorem msg_no {x:List UInt8} (h0:ar0.isPrefixOf x=false) (h1:ar1.isPrefixOf x=false):msgB x=false:=by
 have e0:¬x.take 2=[45,62]:=fun e=>by
  have:=(pre_take ar0 x).2 e
  rw[h0] at this
  cases this
 have e1:¬x.take 2=[60,45]:=fun e=>by
  have:=(pre_take ar1 x).2 e
  rw[h1] at this
  cases this
 unfold msgB msgH
 rw[decide_eq_false e0,decide_eq_false e1]
 simp
def MsgP (x:List UInt8) (w:World) (e:Ending) (w':World):Prop:=
 (msgB x=true∧∃v,e=.returned (.tuple #[.agg #[.bool (decide (x.getD 0 0=45)),v],.bool true])∧OwnG w [Rw.tk v (msgL x)] w')∨(msgB x=false∧∃q,e=.returned (.tuple #[.agg #[.bool q,.slice none 0 0],.bool false])∧Below w.heap.size w w')
theorem tk_len {w0 w:World} {v:Value} {l:List Nat} {L:List Rw} (h:OwnG w0 (Rw.tk v l :: L) w):∃a c,v=.slice a l.length c:=by
 obtain⟨a,c,e, -⟩:=h.rdC rfl
 have e':v=.slice a ((nIs l).map (Value.int .i64)).length c:=e
 refine⟨a,c,?_⟩
 rw[e']
 simp[nIs]

set_option maxRecDepth 100000 in
set_option maxHeartbeats 8000000 in
theorem readMessage_any (x:List UInt8) (hx:x.length≤4096) (w:World) (hT:TkT w):
  Calls Tryz.prog 212 #[.string ⟨x.toArray⟩] w fun e w'=>MsgP x w e w':=by
 have HT:Hid (TkT w):=hT
 have HX:Hid (x.length≤4096):=hx
 have HC0:Hid (∀W:World,Calls Tryz.prog 290 #[.string ⟨x.toArray⟩,.string ⟨#[45,62]⟩] W fun e w'=>e=.returned (.tuple #[.string ⟨(if ar0.isPrefixOf x then x.drop 2 else x).toArray⟩,.bool (ar0.isPrefixOf x)])∧w'=W):=fun W=>cutP_any x ar0 W
 have HC1:Hid (∀W:World,Calls Tryz.prog 290 #[.string ⟨x.toArray⟩,.string ⟨#[60,45]⟩] W fun e w'=>e=.returned (.tuple #[.string ⟨(if ar1.isPrefixOf x then x.drop 2 else x).toArray⟩,.bool (ar1.isPrefixOf x)])∧w'=W):=fun W=>cutP_any x ar1 W
 generalize (⟨x.toArray⟩:ByteArray)=XB at HC0 HC1 ⊢
 clear hT hx
 go_enter Tryz.func212,Tryz.ntmps212
 go_wp2_with (refine wpList_alloc_blk rfl 74 rfl [.bool false,.slice none 0 0] (allocMsg _) ?_)
 intro w1 r1 b1 s1
 have HT1:Hid (TkT w1):=HT.out.kept b1
 have HB1:Hid (Below w.heap.size w w1):=b1
 have HR1:Hid (BlkAt w.heap.size 74 [.bool false,.slice none 0 0] w1):=r1
 have hrg:=range_two HT1.out.ar0 (show w1.cell? ⟨0,0+1,none⟩=_ from HT1.out.ar1)
 have hlt1:w.heap.size<w1.heap.size:=r1.lt
 clear b1 r1 s1 HT
 go_wp2_with (refine wpList_load_mid rfl 253 _ rfl 0 0 rfl [.string ⟨#[45,62]⟩,.string ⟨#[60,45]⟩] _ hrg Tryz.underlying253 rfl infoAr ?_)
 clear hrg
 have ix0:=fun w=>idx_ar0 ⟨#[45,62]⟩ ⟨#[60,45]⟩ w
 have ix1:=fun w=>idx_ar1 ⟨#[45,62]⟩ ⟨#[60,45]⟩ w
 go_loop [11] (fun iv=>∃i:Nat,i≤2∧iv=.int .i64 (i:Int)∧Hid ((1≤i→ar0.isPrefixOf x=false)∧(2≤i→ar1.isPrefixOf x=false))) (fun iv=>2 - (intOf iv).toNat)
 case atStart=>exact⟨0,by omega,rfl,(by show _∧_;exact⟨fun h=>by omega,fun h=>by omega⟩)⟩
 case round=>
  obtain⟨i,hi,rfl,HI⟩:=hrel
  have hi3:i=0∨i=1∨i=2:=by omega
  rcases hi3 with rfl|rfl|rfl
  ·obtain⟨z,hz⟩:∃z:Bool,z=ar0.isPrefixOf x:=⟨_,rfl⟩
   have HZ:Hid (z=ar0.isPrefixOf x):=hz
   go_wp2_with fail
   refine(HC0.out _).mono ?_
   rintro e w1 ⟨rfl,rfl⟩
   rw[←hz]
   clear hz
   cases z with
   |false=>
    have HI2:Hid ((1≤1→ar0.isPrefixOf x=false)∧(2≤1→ar1.isPrefixOf x=false)):=⟨fun _=>HZ.out.symm,fun h=>by omega⟩
    rw[if_neg (by simp)]
    go_wp2
    go_round
    case rel=>exact⟨1,by omega,by go_num,HI2⟩
    case measure=>simp[intOf]
   |true=>
    rw[if_pos rfl]
    have HM:Hid (msgB x=((tkX (x.drop 2)).all fun n=>n !=0)):=by
     show _=_
     unfold msgB
     rw[(msg_in HZ.out.symm).1]
     rfl
    have HD:Hid (decide (x.getD 0 0=45)=true):=(msg_in HZ.out.symm).2
    go_wp2_with fail
    refine(readTokens_any (x.drop 2) (by rw[List.length_drop];have:=HX.out;omega) _ HT1.out).mono ?_
    rintro e w2 (⟨hall,v,rfl,hO⟩|⟨hall,rfl,b2⟩)
    ·obtain⟨a,c,rfl⟩:=tk_len hO
     have HO:Hid (OwnG w1 [Rw.tk (.slice a (tkX (x.drop 2)).length c) (tkX (x.drop 2))] w2):=hO
     have HMt:Hid (msgB x=true):=by show _=_;rw[HM.out,hall]
     have HR2:Hid (BlkAt w.heap.size 74 [.bool false,.slice none 0 0] w2):=HR1.out.kept hO.below
     have HLm:Hid (tkX (x.drop 2)=msgL x):=rfl
     obtain⟨TX,hTX⟩:∃l:List Nat,l=tkX (x.drop 2):=⟨_,rfl⟩
     rw[←hTX] at HO HLm ⊢
     have bm:=fun w=>build_ms true a TX.length c w
     clear hO hall hTX
     go_wp2_with fail
     refine(sideOf_any true _).mono ?_
     rintro e w2 ⟨rfl,rfl⟩
     go_wp2_with (refine wpList_store_part rfl 74 _ _ rfl rfl [.bool true,.slice a TX.length c] rfl [] [.bool false,.slice none 0 0] [] [.bool true,.slice a TX.length c] HR2.out rfl rfl rfl rfl infoMsg (oneCell2 _ _ _ _) ?_)
     intro w3 r3 hw3
     have HO3:Hid (OwnG w [Rw.tk (.slice a TX.length c) TX] w3):=by
      refine(HO.out.from HB1.out).wrote hw3 (Nat.le_refl _) fun r hr b hb=>?_
      rcases List.mem_cons.1 hr with rfl|hr
      ·have:=((HO.out.rows _ (List.mem_cons_self ..)).lt b hb).1
       omega
      ·cases hr
     go_wp2
     refine bodyPost_blk2 rfl rfl rfl rfl r3 Tryz.underlying74 rfl infoMsg ?_
     exact .inl ⟨HMt.out,_,by rw[HD.out];rfl,by rw[←HLm.out];exact HO3.out⟩
    ·have HMf:Hid (msgB x=false):=by show _=_;rw[HM.out,hall]
     have HR2:Hid (BlkAt w.heap.size 74 [.bool false,.slice none 0 0] w2):=HR1.out.kept b2
     have HB2:Hid (Below w.heap.size w w2):=stepB HB1.out b2
     have bm:=fun w=>build_ms true none 0 0 w
     clear b2 hall
     go_wp2_with fail
     refine(sideOf_any true _).mono ?_
     rintro e w2 ⟨rfl,rfl⟩
     go_wp2_with (refine wpList_store_part rfl 74 _ _ rfl rfl [.bool true,.slice none 0 0] rfl [] [.bool false,.slice none 0 0] [] [.bool true,.slice none 0 0] HR2.out rfl rfl rfl rfl infoMsg (oneCell2 _ _ _ _) ?_)
     intro w3 r3 hw3
     have HB3:Hid (Below w.heap.size w w3):=hw3.below _ _ (Nat.le_refl _) HB2.out
     go_wp2
     refine bodyPost_blk2 rfl rfl rfl rfl r3 Tryz.underlying74 rfl infoMsg ?_
     exact .inr ⟨HMf.out,_,rfl,HB3.out⟩
  ·obtain⟨z,hz⟩:∃z:Bool,z=ar1.isPrefixOf x:=⟨_,rfl⟩
   have HZ:Hid (z=ar1.isPrefixOf x):=hz
   go_wp2_with fail
   refine(HC1.out _).mono ?_
   rintro e w1 ⟨rfl,rfl⟩
   rw[←hz]
   clear hz
   cases z with
   |false=>
    have HI2:Hid ((1≤2→ar0.isPrefixOf x=false)∧(2≤2→ar1.isPrefixOf x=false)):=⟨fun _=>HI.out.1 (by omega),fun _=>HZ.out.symm⟩
    rw[if_neg (by simp)]
    go_wp2
    go_round
    case rel=>exact⟨2,by omega,by go_num,HI2⟩
    case measure=>simp[intOf]
   |true=>
    rw[if_pos rfl]
    have HM:Hid (msgB x=((tkX (x.drop 2)).all fun n=>n !=0)):=by
     show _=_
     unfold msgB
     rw[(msg_re HZ.out.symm).1]
     rfl
    have HD:Hid (decide (x.getD 0 0=45)=false):=(msg_re HZ.out.symm).2
    go_wp2_with fail
    refine(readTokens_any (x.drop 2) (by rw[List.length_drop];have:=HX.out;omega) _ HT1.out).mono ?_
    rintro e w2 (⟨hall,v,rfl,hO⟩|⟨hall,rfl,b2⟩)
    ·obtain⟨a,c,rfl⟩:=tk_len hO
     have HO:Hid (OwnG w1 [Rw.tk (.slice a (tkX (x.drop 2)).length c) (tkX (x.drop 2))] w2):=hO
     have HMt:Hid (msgB x=true):=by show _=_;rw[HM.out,hall]
     have HR2:Hid (BlkAt w.heap.size 74 [.bool false,.slice none 0 0] w2):=HR1.out.kept hO.below
     have HLm:Hid (tkX (x.drop 2)=msgL x):=rfl
     obtain⟨TX,hTX⟩:∃l:List Nat,l=tkX (x.drop 2):=⟨_,rfl⟩
     rw[←hTX] at HO HLm ⊢
     have bm:=fun w=>build_ms false a TX.length c w
     clear hO hall hTX
     go_wp2_with fail
     refine(sideOf_any true _).mono ?_
     rintro e w2 ⟨rfl,rfl⟩
     go_wp2_with (refine wpList_store_part rfl 74 _ _ rfl rfl [.bool false,.slice a TX.length c] rfl [] [.bool false,.slice none 0 0] [] [.bool false,.slice a TX.length c] HR2.out rfl rfl rfl rfl infoMsg (oneCell2 _ _ _ _) ?_)
     intro w3 r3 hw3
     have HO3:Hid (OwnG w [Rw.tk (.slice a TX.length c) TX] w3):=by
      refine(HO.out.from HB1.out).wrote hw3 (Nat.le_refl _) fun r hr b hb=>?_
      rcases List.mem_cons.1 hr with rfl|hr
      ·have:=((HO.out.rows _ (List.mem_cons_self ..)).lt b hb).1
       omega
      ·cases hr
     go_wp2
     refine bodyPost_blk2 rfl rfl rfl rfl r3 Tryz.underlying74 rfl infoMsg ?_
     exact .inl ⟨HMt.out,_,by rw[HD.out];rfl,by rw[←HLm.out];exact HO3.out⟩
    ·have HMf:Hid (msgB x=false):=by show _=_;rw[HM.out,hall]
     have HR2:Hid (BlkAt w.heap.size 74 [.bool false,.slice none 0 0] w2):=HR1.out.kept b2
     have HB2:Hid (Below w.heap.size w w2):=stepB HB1.out b2
     have bm:=fun w=>build_ms false none 0 0 w
     clear b2 hall
     go_wp2_with fail
     refine(sideOf_any true _).mono ?_
     rintro e w2 ⟨rfl,rfl⟩
     go_wp2_with (refine wpList_store_part rfl 74 _ _ rfl rfl [.bool false,.slice none 0 0] rfl [] [.bool false,.slice none 0 0] [] [.bool false,.slice none 0 0] HR2.out rfl rfl rfl rfl infoMsg (oneCell2 _ _ _ _) ?_)
     intro w3 r3 hw3
     have HB3:Hid (Below w.heap.size w w3):=hw3.below _ _ (Nat.le_refl _) HB2.out
     go_wp2
     refine bodyPost_blk2 rfl rfl rfl rfl r3 Tryz.underlying74 rfl infoMsg ?_
     exact .inr ⟨HMf.out,_,rfl,HB3.out⟩
  ·have HM:Hid (msgB x=false):=msg_no (HI.out.1 (by omega)) (HI.out.2 (by omega))
   have bm:=fun w=>build_m0 w
   go_wp2_with (refine wpList_store_part rfl 74 _ _ rfl rfl [.bool false,.slice none 0 0] rfl [] [.bool false,.slice none 0 0] [] [.bool false,.slice none 0 0] HR1.out rfl rfl rfl rfl infoMsg (oneCell2 _ _ _ _) ?_)
   intro w3 r3 hw3
   have HB3:Hid (Below w.heap.size w w3):=hw3.below _ _ (Nat.le_refl _) HB1.out
   go_wp2
   refine bodyPost_blk2 rfl rfl rfl rfl r3 Tryz.underlying74 rfl infoMsg ?_
   exact .inr ⟨HM.out,false,rfl,HB3.out⟩
theorem infoSay:(Tryz.prog.info? 192).map (fun i=>(i.zero,i.size,i.bytes))=some (some (.agg #[.bool false,.int .i64 0]),2,16):=by kernel_rfl
theorem infoSay2:(Tryz.prog.info? 192).map (·.size)=some 2:=by kernel_rfl
theorem infoKey:(Tryz.prog.info? 269).map (fun i=>(i.zero,i.size,i.bytes))=some (some (.agg #[.bool false,.int .i64 0]),2,16):=by kernel_rfl
theorem infoKey2:(Tryz.prog.info? 269).map (·.size)=some 2:=by kernel_rfl
theorem kyC_next (l:List Say) (b:Bool) (t:Int):kyC l++[.bool b,.int .i64 t]=kyC (l++[(b,t)]):=by simp[kyC]
theorem oneSay (b:Bool) (t:Int):∀u∈([.bool b,.int .i64 t]:List Value),u.oneCell'=true:=by
 intro v hv
 simp only[List.mem_cons,List.not_mem_nil,or_false] at hv
 rcases hv with rfl|rfl<;>rfl
theorem oneSayA (b:Bool) (t:Int):([.bool b,.int .i64 t]:List Value).toArray.all (·.oneCell')=true:=all_oneCell_toArray (oneSay b t)
theorem OwnG.chgRow {w0 w w':World} {p:Rw} {L:List Rw} (h:OwnG w0 (p :: L) w) {g:Nat} {ty:TypeId} {cs:List Value} (hb:BlkAt g ty cs w) (hne:p.ty≠ty) (c:Chg (fun b=>some b=p.v.ownBlock) w w'):BlkAt g ty cs w':=
 hb.chg c fun e=>row_not_blk (h.rows p (List.mem_cons_self ..)) hb hne e.symm
theorem KyR.of_rdE {w:World} {v:Value} {l:List (Bool×Int)} (h:RdE w v 2 l.length (kyC l)):KyR w v l:=by
 obtain⟨-,a,cap,rfl,h1,h2,h3⟩:=id h
 refine⟨a,cap,rfl,h1,h2,?_⟩
 by_cases h0:l=[]
 ·exact .inl h0
 ·right
  have hl:0<l.length:=List.length_pos_iff.2 h0
  obtain⟨b,off,e, -, -⟩:=h.keyAt 0 hl
  refine⟨b,off,e,fun k hk=>?_⟩
  obtain⟨b',off',e',h4,h5⟩:=h.keyAt k hk
  rw[e] at e'
  simp only[Option.some.injEq,Addr.mk.injEq,and_true] at e'
  obtain⟨rfl,rfl⟩:=e'
  exact⟨h4,h5⟩
theorem OwnG.ky {w0 w:World} {ty:TypeId} {v:Value} {n:Nat} {l:List (Bool×Int)} {L:List Rw} (h:OwnG w0 (⟨ty,2,v,n,kyC l⟩ :: L) w) (hn:n=l.length):KyR w v l:=by
 subst hn
 exact KyR.of_rdE (RdE.of_own (h.rows _ (List.mem_cons_self ..)))
theorem ky_len15 {w:World} {v:Value} {l:List (Bool×Int)} (h:KyR w v l):∃a c,v=.slice a l.length c∧l.length≤c∧c≤maxLen:=by
 obtain⟨a,c,e,h1,h2, -⟩:=h
 exact⟨a,c,e,h1,h2⟩
theorem KyR.at {w:World} {a:Option Addr} {n c:Nat} {l:List (Bool×Int)} (h:KyR w (.slice a n c) l) {k:Nat} (hk:k<l.length):∃b off,a=some ⟨b,off,none⟩∧w.cell? ⟨b,off+k * 2,none⟩=some (.bool (l.getD k (false,0)).1)∧w.cell? ⟨b,off+k * 2+1,none⟩=some (.int .i64 (l.getD k (false,0)).2):=by
 obtain⟨a',cap',ev, -, -,h5⟩:=h
 simp only[Value.slice.injEq] at ev
 obtain⟨rfl, -,rfl⟩:=ev
 rcases h5 with h5|⟨b,off,rfl,hc⟩
 ·rw[h5] at hk
  cases hk
 obtain⟨g1,g2⟩:=hc k hk
 rw[show off+(2 * k+1)=off+k * 2+1 by omega] at g2
 rw[show off+2 * k=off+k * 2 by omega] at g1
 refine⟨b,off,rfl,?_,?_⟩
 ·rw[g1];simp[hk]
 ·rw[g2];simp[hk]

set_option maxRecDepth 100000 in
set_option maxHeartbeats 8000000 in
theorem sayings_any (p:Ptn) (vm:Value) (A:Array Value) (hA:A=(paC p vm).toArray) (hS:PtS p) (w:World) (h:MsR w vm p):
  Calls Tryz.prog 145 #[.agg A] w fun e w'=>∃v,e=.returned v∧OwnG w [⟨192,2,v,(syL p).length,kyC (syL p)⟩] w':=by
 obtain⟨ti,hti,hz0,hz1,hz2⟩:=info_parts infoSay
 obtain⟨a,cap,rfl,hl,hm, -⟩:=id h.form
 obtain⟨n,hn⟩:∃n:Nat,n=p.n:=⟨_,rfl⟩
 rw[←hn] at h hl hA
 have HN:Hid (n=p.n):=hn
 unfold maxLen at hm
 have HM:Hid (MsR w (.slice a n cap) p):=h
 have HS:Hid (PtS p):=hS
 have HL:Hid (syL p=syS p n):=by show _=_;rw[hn];rfl
 clear h hn hS
 go_enter Tryz.func145,Tryz.ntmps145
 go_wp2_with (refine wpList_box_blk rfl 25 _ rfl (paC p (.slice a n cap)) (by rw[←hA];rfl) ?_)
 intro w1 r1 b1 s1
 have c2:w1.cell? ⟨w.heap.size,3,none⟩=some (.slice a n cap):=r1.cell 3
 have HM1:Hid (MsR w1 (.slice a n cap) p):=HM.out.kept b1
 have HB1:Hid (Below w.heap.size w w1):=b1
 have hO0:OwnG w1 [⟨192,2,.slice none 0 0,(syS p 0).length,kyC (syS p 0)⟩] w1:=(OwnG.start w1).nil 192 2
 clear b1 s1 hA r1 HM
 go_wp2
 go_loopw [3,11] (fun ov iv wx=>∃i:Nat,i≤n∧iv=.int .i64 (i:Int)∧OwnG w1 [⟨192,2,ov,(syS p i).length,kyC (syS p i)⟩] wx) (fun _ iv _=>n - (intOf iv).toNat)
 case atStart=>exact⟨0,by omega,rfl,hO0⟩
 case round=>
  obtain⟨i,hi,rfl,hO⟩:=hrel
  clear hO0
  by_cases hlt:i<n
  ·have hd:decide ((i:Int)<(n:Int))=true:=decide_eq_true (by omega)
   have hiI:(i:Int)<(n:Int):=by omega
   have HMn:Hid (i<p.n):=by show _<_;rw[←HN.out];exact hlt
   obtain⟨b,off,a',c',rfl,g1,g2,g3,g4,g5⟩:=ms_at HM1.out (k:=i) HMn.out
   replace g1:=cellKP g1 hO.below
   replace g2:=cellKP g2 hO.below
   obtain⟨M,hM⟩:∃M:Nat,M=(p.tk i).length:=⟨_,rfl⟩
   rw[←hM] at g2 g3 g4
   have hM12:M≤12:=by rw[hM];exact HS.out.t i HMn.out
   obtain⟨q,hq⟩:∃q:Bool,q=p.ini i:=⟨_,rfl⟩
   rw[←hq] at g1
   have HQ:Hid (q=p.ini i):=hq
   have HMl:Hid (M=(p.tk i).length):=hM
   have hrg:=range_two g1 g2
   have HR:Hid (RdI .i64 w1 (.slice a' M c') (p.tk i)):=g3
   have HSl:Hid ((syS p i).length≤96):=by have h1:=syS_len HS.out i (by have:=HMn.out;omega);have h2:=HS.out.n;have h3:=HMn.out;show _≤_;omega
   unfold maxLen at g5
   clear hM hq g1 g2 g3
   go_wp2_with (first
    |refine wpList_load_mid rfl 74 _ rfl b (off+i * 2) rfl [.bool q,.slice a' M c'] _ hrg Tryz.underlying74 rfl infoMsg ?_
    |refine wpList_alloc_blk rfl 74 rfl [.bool false,.slice none 0 0] (allocMsg _) ?_)
   intro w2 r2 b2 s2
   have hO2:=hO.kept b2
   go_wp2_with (refine wpList_store_part rfl 74 _ _ rfl rfl [.bool q,.slice a' M c'] rfl [] [.bool false,.slice none 0 0] [] [.bool q,.slice a' M c'] r2 rfl rfl rfl rfl infoMsg (oneCell2 _ _ _ _) ?_)
   intro w3 r3 hw3
   have hO3:=hO2.wrote hw3 hO.below.size (fun r hr b hb e=>row_not_blk (hO2.rows r hr) r2 (by rcases List.mem_cons.1 hr with rfl|hr;exact(show(192:TypeId)≠74 by decide);cases hr) (by rw[hb,e]))
   have b3:Below wr.heap.size wr w3:=hw3.below _ _ (Nat.le_refl _) b2
   obtain⟨gm,hgm⟩:∃g:Nat,g=wr.heap.size:=⟨_,rfl⟩
   rw[←hgm] at r3 ⊢
   have c3:w3.cell? ⟨gm,1,none⟩=some (.slice a' M c'):=r3.cell 1
   have hJ0:OwnG w1 [⟨192,2,u3,(syS p i++syR p i 0).length,kyC (syS p i++syR p i 0)⟩] w3:=by rw[syR_zero,List.append_nil];exact hO3
   clear b2 s2 r2 hw3 b3 hrg hO hO2 hO3 hgm
   rename World=>wv
   go_wp2
   go_loopw [3,18] (fun ov jv wx=>∃j:Nat,j≤M∧jv=.int .i64 (j:Int)∧BlkAt gm 74 [.bool q,.slice a' M c'] wx∧OwnG w1 [⟨192,2,ov,(syS p i++syR p i j).length,kyC (syS p i++syR p i j)⟩] wx) (fun _ jv _=>M - (intOf jv).toNat)
   case atStart=>exact⟨0,by omega,rfl,r3,hJ0⟩
   case round=>
    obtain⟨j,hj,rfl,rb,hO⟩:=hrel
    clear hJ0 r3
    by_cases hltj:j<M
    ·have hdj:decide ((j:Int)<(M:Int))=true:=decide_eq_true (by omega)
     have hjI:(j:Int)<(M:Int):=by omega
     obtain⟨gr,or,c2',ev, -,hcj, -⟩:=(HR.out.kept hO.below).cellAt (i:=j) (by rw[←HMl.out];exact hltj)
     simp only[Value.slice.injEq] at ev
     obtain⟨rfl, -,rfl⟩:=ev
     obtain⟨x,hx⟩:∃x:Int,x=(p.tk i).getD j 0:=⟨_,rfl⟩
     rw[←hx] at hcj
     have HX:Hid (syR p i (j+1)=syR p i j++[(q,x)]):=by show _=_;rw[syR_next p i j (by rw[←HMl.out];exact hltj),←HQ.out,←hx]
     have d0:wr.cell? ⟨gm,0,none⟩=some (.bool q):=rb.cell 0
     obtain⟨LL,hLL⟩:∃L:List Say,L=syS p i++syR p i j:=⟨_,rfl⟩
     rw[←hLL] at hO
     have hLn:LL.length≤108:=by
      rw[hLL,List.length_append]
      have h1:=syR_len p i j
      have h2:=HSl.out
      omega
     have HLL:Hid (LL++[(q,x)]=syS p i++syR p i (j+1)):=by show _=_;rw[hLL,HX.out,List.append_assoc]
     clear hx hLL
     go_wp2_with (at_builtin;go_must (refine wpList_append_E rfl _ _ 189 rfl 192 ti _ 2 16 Tryz.underlying189 hti hz0 hz1 hz2 rfl (by decide) _ LL.length (kyC LL) rfl (hO.kept (growB _)) ⟨wr.heap.size,0,none⟩ 1 1 [.bool q,.int .i64 x] rfl rfl (news2 _ _ rfl) (oneSay q x) (by unfold maxLen;omega) (by omega) ?_))
     intro v6 w6 hO6 hC6
     have rb6:BlkAt gm 74 [.bool q,.slice (some ⟨gr,or,none⟩) M c'] w6:=(hO.kept (growB _)).chgRow (rb.kept (growB _)) (show(192:TypeId)≠74 by decide) hC6
     rw[kyC_next,HLL.out] at hO6
     have hO7:OwnG w1 [⟨192,2,v6,(syS p i++syR p i (j+1)).length,kyC (syS p i++syR p i (j+1))⟩] w6:=by
      have e:LL.length+1=(syS p i++syR p i (j+1)).length:=by rw[←HLL.out];simp
      rw[e] at hO6
      exact hO6
     clear hO hO6 rb hC6
     go_wp2
     go_roundw
     case rel=>exact⟨j+1,by omega,by go_num,rb6,hO7⟩
     case measure=>simp[intOf]<;>omega
    ·have hdj:decide ((j:Int)<(M:Int))=false:=decide_eq_false (by omega)
     have hjI:(M:Int)≤(j:Int):=by omega
     have hO8:OwnG w1 [⟨192,2,u3,(syS p (i+1)).length,kyC (syS p (i+1))⟩] wr:=by
      have e:syS p (i+1)=syS p i++syR p i j:=by
       show syS p i++syR p i (p.tk i).length=_
       rw[←HMl.out,show M=j by omega]
      rw[e]
      exact hO
     go_wp2
     go_roundw
     case rel=>exact⟨i+1,by omega,by go_num,hO8⟩
     case measure=>simp[intOf]<;>omega
  ·have hd:decide ((i:Int)<(n:Int))=false:=decide_eq_false (by omega)
   have hiI:(n:Int)≤(i:Int):=by omega
   have hO9:OwnG w [⟨192,2,u3,(syL p).length,kyC (syL p)⟩] wr:=by
    rw[HL.out,show n=i by omega]
    exact hO.from HB1.out
   go_wp2
   go_ret
   exact⟨_,rfl,hO9⟩
def StP (base g:Nat) (s:Sta) (w:World):Prop:=∃vc vh vk,BlkAt g 97 (stD vc vh vk s.c.n) w∧Ow 5 base vc s.ck w∧Ow 5 base vh s.h w∧Ow 5 base vk s.c.key w
theorem ne_state:(5:TypeId)≠97:=by decide
theorem StP.kept {base g:Nat} {s:Sta} {w w':World} (h:StP base g s w) (hb:Below w.heap.size w w'):StP base g s w':=by
 obtain⟨vc,vh,vk,h1,h2,h3,h4⟩:=h
 exact⟨vc,vh,vk,h1.kept hb,h2.kept hb,h3.kept hb,h4.kept hb⟩
theorem StP.lt {base g:Nat} {s:Sta} {w:World} (h:StP base g s w):g<w.heap.size:=by
 obtain⟨vc,vh,vk,h1, -⟩:=h
 exact h1.lt
theorem StP.other {base g g2:Nat} {s s2:Sta} {w w':World} (h:StP base g s w) (h2:StP base g2 s2 w) (c:Chg (fun b=>b=g2) w w') (hne:g≠g2):StP base g s w':=by
 obtain⟨vc,vh,vk,q1,q2,q3,q4⟩:=h
 obtain⟨uc,uh,uk,p1, -⟩:=h2
 exact⟨vc,vh,vk,q1.chg c hne,q2.chg p1 ne_state c,q3.chg p1 ne_state c,q4.chg p1 ne_state c⟩
theorem StP.row {base g b:Nat} {s:Sta} {w w':World} (h:StP base g s w) (c:Chg (fun i=>i=b) w w') (hg:g≠b) (hb:∀v l,Ow 5 base v l w→(l=s.ck∨l=s.h∨l=s.c.key)→v.ownBlock≠some b):StP base g s w':=by
 obtain⟨vc,vh,vk,q1,q2,q3,q4⟩:=h
 exact⟨vc,vh,vk,q1.chg c hg,q2.other c (hb _ _ q2 (.inl rfl)),q3.other c (hb _ _ q3 (.inr (.inl rfl))),q4.other c (hb _ _ q4 (.inr (.inr rfl)))⟩
theorem StP.far {base g:Nat} {s:Sta} {w w':World} {v:Value} {l:List UInt8} (h:Rd w v l) (hs:StP base g s w) (c:Chg (fun b=>b=g) w w'):Rd w' v l:=by
 obtain⟨vc,vh,vk,h1,h2,h3,h4⟩:=hs
 obtain⟨a1,c1,rfl, -⟩:=h2.rd
 obtain⟨a2,c2,rfl, -⟩:=h3.rd
 obtain⟨a3,c3,rfl, -⟩:=h4.rd
 exact h.past16 h1 (stD_no8 _ _ _ _ _ _ _ _ _ _) c
theorem StP.own {base base2 g:Nat} {s:Sta} {w w':World} {v:Value} {l:List UInt8} (h:Ow 5 base2 v l w) (hs:StP base g s w) (c:Chg (fun b=>b=g) w w'):Ow 5 base2 v l w':=by
 obtain⟨vc,vh,vk,h1, -⟩:=hs
 exact h.chg h1 ne_state c

set_option maxRecDepth 100000 in
set_option maxHeartbeats 2000000 in
theorem smixhash_any (base g:Nat) (s:Sta) (vb:Value) (b:List UInt8) (hl:s.h.length+b.length≤100000000) (w:World) (hbase:base≤w.heap.size) (hS:StP base g s w) (hb:Rd w vb b) (ht:Tabs w):
  Calls Tryz.prog 96 #[.pointer (some ⟨g,0,none⟩),vb] w fun e w'=>e=.returned (.tuple #[])∧StP base g (mhS s b) w'∧Chg (fun i=>i=g) w w':=by
 obtain⟨ck,h,⟨key,n⟩⟩:=s
 obtain⟨vc,vh,vk,hB,hc,hh,hk⟩:=hS
 replace hB:BlkAt g 97 (stD vc vh vk n) w:=hB
 replace hc:Ow 5 base vc ck w:=hc
 replace hh:Ow 5 base vh h w:=hh
 replace hk:Ow 5 base vk key w:=hk
 obtain⟨ac,cc,rfl, -⟩:=id hc.rd
 obtain⟨ah,ch,rfl, -⟩:=id hh.rd
 obtain⟨ak,ck',rfl, -⟩:=id hk.rd
 obtain⟨ab,cb,rfl, -⟩:=id hb
 have c1:w.cell? ⟨g,1,none⟩=some (.slice ah h.length ch):=hB.cell 1
 have HB:Hid (BlkAt g 97 _ w):=hB
 have HC:Hid (Ow 5 base _ ck w):=hc
 have HH:Hid (Ow 5 base _ h w):=hh
 have HK:Hid (Ow 5 base _ key w):=hk
 have HBb:Hid (Rd w _ b):=hb
 have HT:Hid (Tabs w):=ht
 have HL:Hid (totL [h,b]≤1000000000):=(by have:h.length+b.length≤100000000:=hl;simp[totL];omega:totL [h,b]≤1000000000)
 have HBs:Hid _:=hbase
 have HM:Hid (mhS ⟨ck,h,⟨key,n⟩⟩ b=⟨ck,s2L (h++b),⟨key,n⟩⟩):=rfl
 generalize mhS ⟨ck,h,⟨key,n⟩⟩ b=M at HM ⊢
 clear hl hB hc hh hk hb ht hbase
 go_enter Tryz.func96,Tryz.ntmps96
 go_wp2_with fail
 refine(join_any _ _ _ _ (RdL.lit2b (e:=26) rfl HH.out.rd HBb.out) HL.out).mono ?_
 rintro e w1 ⟨v1,rfl,hN1⟩
 have b1:=stepB (growB _) hN1.2
 have HR:Hid (Rd w1 v1 (h++b)):=hN1.two.rd
 clear hN1 c1
 go_wp2_with fail
 refine(sum256_any _ (h++b) _ HR.out (HT.out.kept b1)).mono ?_
 rintro e w2 ⟨v2,rfl,hN2⟩
 have b2:=stepB b1 hN2.2
 have hO:Ow 5 base v2 (s2L (h++b)) w2:=Ow.mono (Ow.of_new hN2) (Nat.le_trans HBs.out b1.size)
 obtain⟨X,hX⟩:∃X,X=s2L (h++b):=⟨_,rfl⟩
 rw[←hX] at hO
 have HX:Hid (X=s2L (h++b)):=hX
 obtain⟨a2,c2,rfl, -⟩:=id hO.rd
 have HO:Hid (Ow 5 base _ X w2):=hO
 have hB2:=HB.out.kept b2
 have c1:w2.cell? ⟨g,1,none⟩=some (.slice ah h.length ch):=hB2.cell 1
 have f1:w2.frozen? ⟨g,1,none⟩=false:=hB2.free _
 have HB2:Hid (BlkAt g 97 _ w2):=hB2
 have HBw:Hid (Below w.heap.size w w2):=b2
 clear hN2 b1 b2 hB2 hX hO HR
 go_wp2_with fail
 go_end0
 have hw:Wrote g w2 (w2.setCell ⟨g,1,none⟩ (.slice a2 X.length c2)):=Wrote.set _ _ _ _
 have cw:=Chg.of_wrote hw
 have hB3:BlkAt g 97 (stD (.slice ac ck.length cc) (.slice a2 X.length c2) (.slice ak key.length ck') n) _:=BlkAt.set HB2.out 1 (.slice a2 X.length c2)
 refine⟨rfl,?_,(Chg.of_below HBw.out).trans cw⟩
 rw[HM.out,←HX.out]
 exact⟨_,_,_,hB3,(HC.out.kept HBw.out).chg HB2.out ne_state cw,HO.out.chg HB2.out ne_state cw,(HK.out.kept HBw.out).chg HB2.out ne_state cw⟩
theorem tok_cases (t:Int):t=3∨t=4∨t=5∨t=6∨t=7∨t=9∨t=10∨(t≠3∧t≠4∧t≠5∧t≠6∧t≠7∧t≠9∧t≠10):=by omega
theorem allocKey (w:World):(Instr.alloc 269 true (.tuple #[])).run Tryz.prog w=.ok (.pointer (some ⟨w.heap.size,0,none⟩)) (w.alloc (.cells #[.bool false,.int .i64 0] 269)):=by kernel_rfl
theorem allocSay (w:World):(Instr.alloc 192 true (.tuple #[])).run Tryz.prog w=.ok (.pointer (some ⟨w.heap.size,0,none⟩)) (w.alloc (.cells #[.bool false,.int .i64 0] 192)):=by kernel_rfl
theorem neI {a b:Int} (h:a≠b):(a==b)=false:=by simpa using h

set_option maxHeartbeats 2000000 in
theorem ofCurve_any (b:Bool) (t:Int) (A:Array Value) (hA:A=#[.bool b,.int .i64 t]) (w:World):
  Calls Tryz.prog 298 #[.agg A] w fun e w'=>e=.returned (.bool (cvB t))∧Below w.heap.size w w':=by
 obtain⟨r,hr⟩:∃r:Bool,r=cvB t:=⟨_,rfl⟩
 have HR:Hid (r=cvB t):=hr
 rw[←hr]
 clear hr
 go_enter Tryz.func298,Tryz.ntmps298
 go_wp2_with (refine wpList_box_blk rfl 192 _ rfl [.bool b,.int .i64 t] (by rw[←hA];rfl) ?_)
 intro w1 r1 b1 s1
 have c1:w1.cell? ⟨w.heap.size,1,none⟩=some (.int .i64 t):=r1.cell 1
 clear r1 s1 hA
 by_cases h3:t=3
 ·subst h3
  go_wp2
  go_ret
  exact⟨by rw[HR.out];rfl,b1⟩
 have e3:=neI h3
 by_cases h4:t=4
 ·subst h4
  go_wp2
  go_ret
  exact⟨by rw[HR.out];rfl,b1⟩
 have e4:=neI h4
 by_cases h5:t=5
 ·subst h5
  go_wp2
  go_ret
  exact⟨by rw[HR.out];rfl,b1⟩
 have e5:=neI h5
 by_cases h6:t=6
 ·subst h6
  go_wp2
  go_ret
  exact⟨by rw[HR.out];rfl,b1⟩
 have e6:=neI h6
 have HF:Hid (r=false):=by show _=_;rw[HR.out];simp[cvB,h3,h4,h5,h6]
 go_wp2
 go_ret
 exact⟨by rw[HF.out];rfl,b1⟩

set_option maxHeartbeats 2000000 in
theorem ofKem_any (b:Bool) (t:Int) (A:Array Value) (hA:A=#[.bool b,.int .i64 t]) (w:World):
  Calls Tryz.prog 299 #[.agg A] w fun e w'=>e=.returned (.bool (kmB t))∧Below w.heap.size w w':=by
 obtain⟨r,hr⟩:∃r:Bool,r=kmB t:=⟨_,rfl⟩
 have HR:Hid (r=kmB t):=hr
 rw[←hr]
 clear hr
 go_enter Tryz.func299,Tryz.ntmps299
 go_wp2_with (refine wpList_box_blk rfl 192 _ rfl [.bool b,.int .i64 t] (by rw[←hA];rfl) ?_)
 intro w1 r1 b1 s1
 have c1:w1.cell? ⟨w.heap.size,1,none⟩=some (.int .i64 t):=r1.cell 1
 clear r1 s1 hA
 by_cases h3:t=9
 ·subst h3
  go_wp2
  go_ret
  exact⟨by rw[HR.out];rfl,b1⟩
 have e3:=neI h3
 by_cases h4:t=10
 ·subst h4
  go_wp2
  go_ret
  exact⟨by rw[HR.out];rfl,b1⟩
 have e4:=neI h4
 have HF:Hid (r=false):=by show _=_;rw[HR.out];simp[kmB,h3,h4]
 go_wp2
 go_ret
 exact⟨by rw[HF.out];rfl,b1⟩

set_option maxHeartbeats 2000000 in
theorem ofBoth_any (b:Bool) (t:Int) (A:Array Value) (hA:A=#[.bool b,.int .i64 t]) (w:World):
  Calls Tryz.prog 227 #[.agg A] w fun e w'=>e=.returned (.bool (pkB15 t))∧Below w.heap.size w w':=by
 obtain⟨r,hr⟩:∃r:Bool,r=pkB15 t:=⟨_,rfl⟩
 have HR:Hid (r=pkB15 t):=hr
 rw[←hr]
 clear hr
 go_enter Tryz.func227,Tryz.ntmps227
 go_wp2_with (refine wpList_box_blk rfl 192 _ rfl [.bool b,.int .i64 t] (by rw[←hA];rfl) ?_)
 intro w1 r1 b1 s1
 have c1:w1.cell? ⟨w.heap.size,1,none⟩=some (.int .i64 t):=r1.cell 1
 clear r1 s1 hA
 by_cases h3:t=7
 ·subst h3
  go_wp2
  go_ret
  exact⟨by rw[HR.out];rfl,b1⟩
 have e3:=neI h3
 have HF:Hid (r=false):=by show _=_;rw[HR.out];simp[pkB15,h3]
 go_wp2
 go_ret
 exact⟨by rw[HF.out];rfl,b1⟩

set_option maxRecDepth 100000 in
set_option maxHeartbeats 2000000 in
theorem isSecret_any (b:Bool) (t:Int) (A:Array Value) (hA:A=#[.bool b,.int .i64 t]) (w:World):
  Calls Tryz.prog 222 #[.agg A] w fun e w'=>e=.returned (.bool (scB t))∧Below w.heap.size w w':=by
 obtain⟨r1,hr1⟩:∃r:Bool,r=cvB t:=⟨_,rfl⟩
 obtain⟨r2,hr2⟩:∃r:Bool,r=kmB t:=⟨_,rfl⟩
 obtain⟨r3,hr3⟩:∃r:Bool,r=pkB15 t:=⟨_,rfl⟩
 have HS:Hid (scB t=(r1||r2||r3)):=by show _=_;rw[hr1,hr2,hr3];rfl
 have H1:Hid (r1=cvB t):=hr1
 have H2:Hid (r2=kmB t):=hr2
 have H3:Hid (r3=pkB15 t):=hr3
 clear hr1 hr2 hr3
 go_enter Tryz.func222,Tryz.ntmps222
 go_wp2_with (refine wpList_box_blk rfl 192 _ rfl [.bool b,.int .i64 t] (by rw[←hA];rfl) ?_)
 intro w1 q1 b1 s1
 clear s1 hA
 go_wp2_with (refine wpList_load_part rfl 192 _ rfl rfl [] [.bool b,.int .i64 t] [] q1 rfl rfl Tryz.underlying192 rfl infoSay2 ?_)
 refine(ofCurve_any b t _ rfl _).mono ?_
 rintro e w2 ⟨rfl,b2⟩
 rw[←H1.out]
 replace q1:=q1.kept b2
 replace b1:=stepB b1 b2
 clear b2
 cases r1 with
 |true=>
  go_wp2
  go_ret
  exact⟨by rw[HS.out];rfl,b1⟩
 |false=>
  go_wp2_with (refine wpList_loadG 192 _ rfl rfl [.bool b,.int .i64 t] q1 Tryz.underlying192 rfl infoSay2 (by go_simp;done) ?_)
  refine(ofKem_any b t _ rfl _).mono ?_
  rintro e w3 ⟨rfl,b2⟩
  rw[←H2.out]
  replace q1:=q1.kept b2
  replace b1:=stepB b1 b2
  clear b2
  cases r2 with
  |true=>
   go_wp2
   go_ret
   exact⟨by rw[HS.out];rfl,b1⟩
  |false=>
   go_wp2_with (refine wpList_loadG 192 _ rfl rfl [.bool b,.int .i64 t] q1 Tryz.underlying192 rfl infoSay2 (by go_simp;done) ?_)
   refine(ofBoth_any b t _ rfl _).mono ?_
   rintro e w4 ⟨rfl,b2⟩
   rw[←H3.out]
   replace b1:=stepB b1 b2
   clear b2
   go_wp2
   go_ret
   exact⟨by rw[HS.out];cases r3<;>rfl,b1⟩

set_option maxHeartbeats 2000000 in
theorem key_any (b:Bool) (t:Int) (A:Array Value) (hA:A=#[.bool b,.int .i64 t]) (w:World):
  Calls Tryz.prog 224 #[.agg A] w fun e w'=>e=.returned (.agg #[.bool b,.int .i64 t])∧Below w.heap.size w w':=by
 go_enter Tryz.func224,Tryz.ntmps224
 go_wp2_with (refine wpList_box_blk rfl 192 _ rfl [.bool b,.int .i64 t] (by rw[←hA];rfl) ?_)
 intro w1 q1 b1 s1
 have c0:w1.cell? ⟨w.heap.size,0,none⟩=some (.bool b):=q1.cell 0
 have c1:w1.cell? ⟨w.heap.size,1,none⟩=some (.int .i64 t):=q1.cell 1
 clear s1 hA
 go_wp2_with (refine wpList_alloc_blk rfl 269 rfl [.bool false,.int .i64 0] (allocKey _) ?_)
 intro w2 q2 b2 s2
 replace c0:=cellKP c0 b2
 replace c1:=cellKP c1 b2
 clear q1 s2
 go_wp2_with (refine wpList_store_part rfl 269 _ _ rfl rfl [.bool b,.int .i64 t] rfl [] [.bool false,.int .i64 0] [] [.bool b,.int .i64 t] q2 rfl rfl rfl rfl infoKey2 (oneSayA b t) ?_)
 intro w3 q3 hw3
 have b3:=hw3.below _ _ b1.size (stepB b1 b2)
 go_wp2
 refine bodyPost_blk rfl rfl rfl q3 Tryz.underlying269 rfl infoKey2 ?_
 exact⟨rfl,b3⟩

set_option maxRecDepth 100000 in
set_option maxHeartbeats 4000000 in
theorem guards_any (b:Bool) (t:Int) (A:Array Value) (hA:A=#[.bool b,.int .i64 t]) (w:World):
  Calls Tryz.prog 229 #[.agg A] w fun e w'=>∃v,e=.returned v∧OwnG w [⟨269,2,v,(scK t (!b)).length,kyC (scK t (!b))⟩] w':=by
 go_enter Tryz.func229,Tryz.ntmps229
 go_wp2_with (refine wpList_box_blk rfl 192 _ rfl [.bool b,.int .i64 t] (by rw[←hA];rfl) ?_)
 intro w1 q1 b1 s1
 have c0:w1.cell? ⟨w.heap.size,0,none⟩=some (.bool b):=q1.cell 0
 have c1:w1.cell? ⟨w.heap.size,1,none⟩=some (.int .i64 t):=q1.cell 1
 have HO:Hid (∀(xs:List (Bool×Int)),OwnG w [⟨269,2,.slice (some ⟨w1.heap.size,0,none⟩) xs.length xs.length,xs.length,kyC xs⟩] (w1.alloc (.cells (kyC xs).toArray 269))∨maxLen<xs.length):=by
  show ∀xs,_
  intro xs
  by_cases h:maxLen<xs.length
  ·exact .inr h
  ·exact .inl ((OwnG.since b1).lit 269 2 xs.length w1.heap.size (kyC xs) _ rfl rfl (by omega) (by rw[kyC_len]))
 have HN:Hid (OwnG w [⟨269,2,.slice none 0 0,0,[]⟩] w1):=(OwnG.since b1).nil 269 2
 clear q1 s1 hA
 have ml:∀n:Nat,maxLen<n→n≤2→False:=by unfold maxLen;omega
 have HL:Hid _:=ml
 clear ml
 rcases tok_cases t with rfl|rfl|rfl|rfl|rfl|rfl|rfl|⟨h3,h4,h5,h6,h7,h9,h10⟩
 ·go_wp2
  go_ret
  exact⟨_,rfl,(HO.out [(true,1),(false,1)]).resolve_right fun h=>HL.out _ h (by decide)⟩
 ·go_wp2
  go_ret
  exact⟨_,rfl,(HO.out [(true,1),(false,2)]).resolve_right fun h=>HL.out _ h (by decide)⟩
 ·go_wp2
  go_ret
  exact⟨_,rfl,(HO.out [(true,2),(false,1)]).resolve_right fun h=>HL.out _ h (by decide)⟩
 ·go_wp2
  go_ret
  exact⟨_,rfl,(HO.out [(true,2),(false,2)]).resolve_right fun h=>HL.out _ h (by decide)⟩
 ·go_wp2
  go_ret
  exact⟨_,rfl,(HO.out [(false,7)]).resolve_right fun h=>HL.out _ h (by decide)⟩
 ·go_wp2
  go_ret
  exact⟨_,rfl,(HO.out [(!b,8)]).resolve_right fun h=>HL.out _ h (by simp)⟩
 ·go_wp2
  go_ret
  exact⟨_,rfl,(HO.out [(!b,2)]).resolve_right fun h=>HL.out _ h (by simp)⟩
 ·have e3:=neI h3
  have e4:=neI h4
  have e5:=neI h5
  have e6:=neI h6
  have e7:=neI h7
  have e9:=neI h9
  have e10:=neI h10
  have HK:Hid (scK t (!b)=[]):=by show _=_;simp[scK,h3,h4,h5,h6,h7,h9,h10]
  go_wp2
  go_ret
  exact⟨_,rfl,by rw[HK.out];exact HN.out⟩

set_option maxRecDepth 100000 in
set_option maxHeartbeats 4000000 in
theorem repeats_any (b1 b2:Bool) (t1 t2:Int) (A B:Array Value) (hA:A=#[.bool b1,.int .i64 t1]) (hB:B=#[.bool b2,.int .i64 t2]) (w:World):
  Calls Tryz.prog 226 #[.agg A,.agg B] w fun e w'=>e=.returned (.bool (rpB (b1,t1) (b2,t2)))∧Below w.heap.size w w':=by
 obtain⟨r,hr⟩:∃r:Bool,r=rpB (b1,t1) (b2,t2):=⟨_,rfl⟩
 have HR:Hid (r=(decide (t1=t2)&&(decide (b1=b2)|| !kmB t1))):=hr
 rw[←hr]
 clear hr
 go_enter Tryz.func226,Tryz.ntmps226
 go_wp2_with (refine wpList_box_blk rfl 192 (.tmp 0) rfl [.bool b1,.int .i64 t1] (by rw[←hA];rfl) ?_)
 intro w1 q1 d1 s1
 go_wp2_with (refine wpList_box_blk rfl 192 (.tmp 1) rfl [.bool b2,.int .i64 t2] (by rw[←hB];rfl) ?_)
 intro w2 q2 d2 s2
 replace q1:=q1.kept d2
 replace d1:=stepB d1 d2
 have c0:w2.cell? ⟨w.heap.size,0,none⟩=some (.bool b1):=q1.cell 0
 have c1:w2.cell? ⟨w.heap.size,1,none⟩=some (.int .i64 t1):=q1.cell 1
 have e0:w2.cell? ⟨w1.heap.size,0,none⟩=some (.bool b2):=q2.cell 0
 have e1:w2.cell? ⟨w1.heap.size,1,none⟩=some (.int .i64 t2):=q2.cell 1
 clear s1 s2 hA hB d2 q2
 by_cases ht:t1=t2
 ·have ht2:(t1==t2)=true:=by simpa using ht
  have HR2:Hid (r=(decide (b1=b2)|| !kmB t1)):=by show _=_;rw[HR.out,decide_eq_true ht];rfl
  have e1':w2.cell? ⟨w1.heap.size,1,none⟩=some (.int .i64 t1):=by rw[e1,ht]
  clear ht ht2 e1
  by_cases hb:b1=b2
  ·subst hb
   have HR3:Hid (r=true):=by show _=_;rw[HR2.out];simp
   clear q1
   cases b1
   all_goals
    go_wp2
    go_ret
    exact⟨by rw[HR3.out];rfl,d1⟩
  ·have HR3:Hid (r= !kmB t1):=by show _=_;rw[HR2.out,decide_eq_false hb];rfl
   cases b1<;>cases b2<;>simp at hb
   all_goals
    go_wp2_with (refine wpList_loadG 192 _ rfl rfl _ q1 Tryz.underlying192 rfl infoSay2 (by go_simp;done) ?_)
    refine(ofKem_any _ t1 _ rfl _).mono ?_
    rintro e w4 ⟨rfl,b2⟩
    go_wp2
    go_ret
    exact⟨by rw[HR3.out];rfl,stepB d1 b2⟩
 ·have ht2:(t1==t2)=false:=neI ht
  have HR2:Hid (r=false):=by show _=_;rw[HR.out,decide_eq_false ht];rfl
  go_wp2
  go_ret
  exact⟨by rw[HR2.out];rfl,d1⟩
set_option maxRecDepth 100000 in
set_option maxHeartbeats 2000000 in
theorem sbegin_any (l:List UInt8) (hl:l.length≤1000000) (w:World) (ht:Tabs w):Calls Tryz.prog 149 #[.string ⟨l.toArray⟩] w fun e w'=>∃v,e=.returned v∧New 5 w v (nwH l) w':=by
 have hsz:(⟨l.toArray⟩:ByteArray).size=l.length:=by simp[ByteArray.size]
 have HT:Hid (Tabs w):=ht
 have HL:Hid (l.length≤1000000):=hl
 have hl2:(l.length:Int)<9223372036854775808:=by omega
 by_cases h:32<l.length
 ·have hd:decide ((32:Int)<((⟨l.toArray⟩:ByteArray).size:Int))=true:=decide_eq_true (by rw[hsz];omega)
  have hd2:decide ((32:Int)<(l.length:Int))=true:=decide_eq_true (by omega)
  have HH:Hid (nwH l=s2L l):=(if_pos h:nwH l=s2L l)
  clear h ht hl
  go_enter Tryz.func149,Tryz.ntmps149
  go_wp2_with (refine wpList_conv_text rfl _ 9 26 5 rfl Tryz.underlying9 Tryz.underlying26 Tryz.underlying5 l rfl (by have:=HL.out;unfold maxLen;omega) ?_)
  intro v1 w1 h1 b1
  have H1:Hid (Rd w1 v1 l):=h1
  clear h1
  go_wp2_with fail
  refine(sum256_any _ l _ H1.out (HT.out.kept b1)).mono ?_
  rintro e w2 ⟨v2,rfl,hN2⟩
  have HN:Hid (New 5 w v2 (s2L l) w2):=New.from hN2 b1
  clear hN2 b1 H1
  go_wp2_with fail
  go_ret
  refine⟨_,rfl,?_⟩
  rw[HH.out]
  exact HN.out
 ·have hd:decide ((32:Int)<((⟨l.toArray⟩:ByteArray).size:Int))=false:=decide_eq_false (by rw[hsz];omega)
  have hd2:decide ((32:Int)<(l.length:Int))=false:=decide_eq_false (by omega)
  have HH:Hid (nwH l=l++(List.replicate 32 (0:UInt8)).drop l.length):=(by
   show nwH l=_
   unfold nwH
   rw[if_neg h,List.drop_replicate]:nwH l=l++(List.replicate 32 (0:UInt8)).drop l.length)
  have HLe:Hid (l.length≤(List.replicate 32 (0:UInt8)).length):=(by rw[List.length_replicate];omega:l.length≤(List.replicate 32 (0:UInt8)).length)
  clear h ht hl
  go_enter Tryz.func149,Tryz.ntmps149
  go_wp2_with (refine wpList_make_new16 rfl _ _ 26 rfl Tryz.underlying26 infoU8 32 rfl rfl (by decide) ?_)
  intro w1 hN1
  have HN1:Hid (New 5 w _ _ w1):=hN1
  clear hN1
  go_wp2_with (refine wpList_copy_text rfl _ _ 26 9 rfl 5 Tryz.underlying26 (by kernel_rfl) _ _ rfl HN1.out l rfl HLe.out (by decide) ?_)
  intro w2 hN2
  have HN:Hid (New 5 w _ _ w2):=hN2
  clear hN2
  go_wp2_with fail
  go_ret
  refine⟨_,rfl,?_⟩
  rw[HH.out]
  exact HN.out

theorem build_st2 (a1 a2:Option Addr) (l1 c1 l2 c2:Nat) (w:World):(Instr.build 97 #[(0,.slice a1 l1 c1),(1,.slice a2 l2 c2)]).run Tryz.prog w=.ok (.agg (stD (.slice a1 l1 c1) (.slice a2 l2 c2) (.slice none 0 0) 0).toArray) w:=by kernel_rfl

set_option maxRecDepth 100000 in
set_option maxHeartbeats 2000000 in
theorem snew_any (l:List UInt8) (hl:l.length≤1000000) (w:World) (ht:Tabs w):Calls Tryz.prog 95 #[.string ⟨l.toArray⟩] w fun e w'=>∃g,e=.returned (.pointer (some ⟨g,0,none⟩))∧w.heap.size≤g∧StP w.heap.size g (nwS l) w'∧Below w.heap.size w w':=by
 have HT:Hid (Tabs w):=ht
 have HL:Hid (l.length≤1000000):=hl
 have HM:Hid (nwS l=⟨nwH l,nwH l,⟨[],0⟩⟩):=rfl
 generalize nwS l=M at HM ⊢
 clear ht hl
 go_enter Tryz.func95,Tryz.ntmps95
 go_wp2_with fail
 refine(sbegin_any l HL.out _ HT.out).mono ?_
 rintro e w1 ⟨v1,rfl,hN1⟩
 have HN1:Hid (New 5 w v1 (nwH l) w1):=hN1
 clear hN1
 go_wp2_with fail
 refine(sbegin_any l HL.out _ (HT.out.kept HN1.out.2)).mono ?_
 rintro e w2 ⟨v2,rfl,hN2⟩
 have hO1:Ow 5 w.heap.size v1 (nwH l) w2:=(Ow.of_new HN1.out).kept hN2.2
 have hO2:Ow 5 w.heap.size v2 (nwH l) w2:=Ow.mono (Ow.of_new hN2) HN1.out.2.size
 have b2:=stepB HN1.out.2 hN2.2
 generalize nwH l=X at HM hO1 hO2
 obtain⟨a1,c1,rfl, -⟩:=id hO1.rd
 obtain⟨a2,c2,rfl, -⟩:=id hO2.rd
 have HO1:Hid (Ow 5 w.heap.size _ X w2):=hO1
 have HO2:Hid (Ow 5 w.heap.size _ X w2):=hO2
 have HB2:Hid _:=b2
 clear hN2 HN1 hO1 hO2 b2
 go_wp2_with (first|refine wpList_buildB rfl 97 #[(0,.tmp 4),(1,.tmp 6)] rfl #[(0,.slice a1 X.length c1),(1,.slice a2 X.length c2)] (by go_simp) (.agg (stD (.slice a1 X.length c1) (.slice a2 X.length c2) (.slice none 0 0) 0).toArray) (build_st2 _ _ _ _ _ _ _) ?_|(refine wpList_box_blk rfl 97 _ rfl (stD (.slice a1 X.length c1) (.slice a2 X.length c2) (.slice none 0 0) 0) rfl ?_;intro w3 r3 b3 s3))
 go_ret
 refine⟨_,rfl,HB2.out.size,?_,stepB HB2.out b3⟩
 rw[HM.out]
 exact⟨_,_,_,r3,HO1.out.kept b3,HO2.out.kept b3,Ow.nil _ _ _⟩

def shD (x0 x1:Value) (post:List Value) (vc vh vk:Value) (n:Nat):List Value:=x0 :: x1 :: vc :: vh :: vk :: .int .u64 (n:Int) :: post
theorem ne_shake:(5:TypeId)≠101:=by decide
def StV (base g:Nat) (x0 x1:Value) (post:List Value) (vc vh vk:Value) (s:Sta) (w:World):Prop:=BlkAt g 101 (shD x0 x1 post vc vh vk s.c.n) w∧Ow 5 base vc s.ck w∧Ow 5 base vh s.h w∧Ow 5 base vk s.c.key w
def StH (base g:Nat) (x0 x1:Value) (post:List Value) (s:Sta) (w:World):Prop:=∃vc vh vk,StV base g x0 x1 post vc vh vk s w
theorem StV.kept {base g:Nat} {x0 x1:Value} {post:List Value} {vc vh vk:Value} {s:Sta} {w w':World} (h:StV base g x0 x1 post vc vh vk s w) (hb:Below w.heap.size w w'):StV base g x0 x1 post vc vh vk s w':=⟨h.1.kept hb,h.2.1.kept hb,h.2.2.1.kept hb,h.2.2.2.kept hb⟩
theorem StH.kept {base g:Nat} {x0 x1:Value} {post:List Value} {s:Sta} {w w':World} (h:StH base g x0 x1 post s w) (hb:Below w.heap.size w w'):StH base g x0 x1 post s w':=by
 obtain⟨vc,vh,vk,h1,h2,h3,h4⟩:=h
 exact⟨vc,vh,vk,h1.kept hb,h2.kept hb,h3.kept hb,h4.kept hb⟩
theorem StH.lt {base g:Nat} {x0 x1:Value} {post:List Value} {s:Sta} {w:World} (h:StH base g x0 x1 post s w):g<w.heap.size:=by
 obtain⟨vc,vh,vk,h1, -⟩:=h
 exact h1.lt
structure Nb (x0 x1:Value) (post:List Value):Prop where
 a:∀y,x0≠ .int .u8 y
 b:∀y,x1≠ .int .u8 y
 c:No8 post
theorem Nb.no8 {x0 x1:Value} {post:List Value} (h:Nb x0 x1 post) (a1 a2 a3:Option Addr) (l1 c1 l2 c2 l3 c3 n:Nat):No8 (shD x0 x1 post (.slice a1 l1 c1) (.slice a2 l2 c2) (.slice a3 l3 c3) n):=by
 intro j y e
 match j,e with
 |0,e=>exact h.a y (by simpa [shD] using e)
 |1,e=>exact h.b y (by simpa [shD] using e)
 |2,e=>simp[shD] at e
 |3,e=>simp[shD] at e
 |4,e=>simp[shD] at e
 |5,e=>simp[shD] at e
 |j+6,e=>exact h.c j y (by simpa [shD] using e)
theorem StH.far {base g:Nat} {x0 x1:Value} {post:List Value} {s:Sta} {w w':World} {v:Value} {l:List UInt8} (h:Rd w v l) (hs:StH base g x0 x1 post s w) (hn:Nb x0 x1 post) (c:Chg (fun b=>b=g) w w'):Rd w' v l:=by
 obtain⟨vc,vh,vk,h1,h2,h3,h4⟩:=hs
 obtain⟨a1,c1,rfl, -⟩:=h2.rd
 obtain⟨a2,c2,rfl, -⟩:=h3.rd
 obtain⟨a3,c3,rfl, -⟩:=h4.rd
 exact h.past16 h1 (hn.no8 _ _ _ _ _ _ _ _ _ _) c
theorem StH.own {base base2 g:Nat} {x0 x1:Value} {post:List Value} {s:Sta} {w w':World} {v:Value} {l:List UInt8} (h:Ow 5 base2 v l w) (hs:StH base g x0 x1 post s w) (c:Chg (fun b=>b=g) w w'):Ow 5 base2 v l w':=by
 obtain⟨vc,vh,vk,h1, -⟩:=hs
 exact h.chg h1 ne_shake c

set_option maxRecDepth 100000 in
set_option maxHeartbeats 2000000 in
theorem smixhashH (base g:Nat) (x0 x1:Value) (post:List Value) (vc vh vk:Value) (s:Sta) (vb:Value) (b:List UInt8) (hl:s.h.length+b.length≤100000000) (w:World) (hbase:base≤w.heap.size) (hS:StV base g x0 x1 post vc vh vk s w) (hb:Rd w vb b) (ht:Tabs w):
  Calls Tryz.prog 96 #[.pointer (some ⟨g,2,none⟩),vb] w fun e w'=>e=.returned (.tuple #[])∧(∃vh',StV base g x0 x1 post vc vh' vk (mhS s b) w'∧Ow 5 w.heap.size vh' (mhS s b).h w')∧Chg (fun i=>i=g) w w':=by
 obtain⟨ck,h,⟨key,n⟩⟩:=s
 obtain⟨hB,hc,hh,hk⟩:=hS
 replace hB:BlkAt g 101 (shD x0 x1 post vc vh vk n) w:=hB
 replace hc:Ow 5 base vc ck w:=hc
 replace hh:Ow 5 base vh h w:=hh
 replace hk:Ow 5 base vk key w:=hk
 obtain⟨ac,cc,rfl, -⟩:=id hc.rd
 obtain⟨ah,ch,rfl, -⟩:=id hh.rd
 obtain⟨ak,ck',rfl, -⟩:=id hk.rd
 obtain⟨ab,cb,rfl, -⟩:=id hb
 have c1:w.cell? ⟨g,3,none⟩=some (.slice ah h.length ch):=hB.cell 3
 have HB:Hid (BlkAt g 101 _ w):=hB
 have HC:Hid (Ow 5 base _ ck w):=hc
 have HH:Hid (Ow 5 base _ h w):=hh
 have HK:Hid (Ow 5 base _ key w):=hk
 have HBb:Hid (Rd w _ b):=hb
 have HT:Hid (Tabs w):=ht
 have HL:Hid (totL [h,b]≤1000000000):=(by have:h.length+b.length≤100000000:=hl;simp[totL];omega:totL [h,b]≤1000000000)
 have HBs:Hid _:=hbase
 have HM:Hid (mhS ⟨ck,h,⟨key,n⟩⟩ b=⟨ck,s2L (h++b),⟨key,n⟩⟩):=rfl
 generalize mhS ⟨ck,h,⟨key,n⟩⟩ b=M at HM ⊢
 clear hl hB hc hh hk hb ht hbase
 go_enter Tryz.func96,Tryz.ntmps96
 go_wp2_with fail
 refine(join_any _ _ _ _ (RdL.lit2b (e:=26) rfl HH.out.rd HBb.out) HL.out).mono ?_
 rintro e w1 ⟨v1,rfl,hN1⟩
 have b1:=stepB (growB _) hN1.2
 have HR:Hid (Rd w1 v1 (h++b)):=hN1.two.rd
 clear hN1 c1
 go_wp2_with fail
 refine(sum256_any _ (h++b) _ HR.out (HT.out.kept b1)).mono ?_
 rintro e w2 ⟨v2,rfl,hN2⟩
 have b2:=stepB b1 hN2.2
 have hO:Ow 5 w.heap.size v2 (s2L (h++b)) w2:=Ow.mono (Ow.of_new hN2) b1.size
 obtain⟨X,hX⟩:∃X,X=s2L (h++b):=⟨_,rfl⟩
 rw[←hX] at hO
 have HX:Hid (X=s2L (h++b)):=hX
 obtain⟨a2,c2,rfl, -⟩:=id hO.rd
 have HO:Hid (Ow 5 w.heap.size _ X w2):=hO
 have hB2:=HB.out.kept b2
 have c1:w2.cell? ⟨g,3,none⟩=some (.slice ah h.length ch):=hB2.cell 3
 have f1:w2.frozen? ⟨g,3,none⟩=false:=hB2.free _
 have HB2:Hid (BlkAt g 101 _ w2):=hB2
 have HBw:Hid (Below w.heap.size w w2):=b2
 clear hN2 b1 b2 hB2 hX hO HR
 go_wp2_with fail
 go_end0
 have hw:Wrote g w2 (w2.setCell ⟨g,3,none⟩ (.slice a2 X.length c2)):=Wrote.set _ _ _ _
 have cw:=Chg.of_wrote hw
 have hB3:BlkAt g 101 (shD x0 x1 post (.slice ac ck.length cc) (.slice a2 X.length c2) (.slice ak key.length ck') n) _:=BlkAt.set HB2.out 3 (.slice a2 X.length c2)
 refine⟨rfl,?_,(Chg.of_below HBw.out).trans cw⟩
 rw[HM.out,←HX.out]
 have hO3:=HO.out.chg HB2.out ne_shake cw
 exact⟨_,⟨hB3,(HC.out.kept HBw.out).chg HB2.out ne_shake cw,hO3.mono HBs.out,(HK.out.kept HBw.out).chg HB2.out ne_shake cw⟩,hO3⟩

set_option maxRecDepth 100000 in
set_option maxHeartbeats 2000000 in
theorem ctake_none (vf:Value) (b:List UInt8) (hlb:b.length≤3000000) (g o:Nat) (bt:TypeId) (cs:List Value) (ak aa:Option Addr) (ck la ca:Nat) (vb:Value) (w:World) (hB:BlkAt g bt cs w) (h0:cs[o]?=some (.slice ak 0 ck)) (hb:Rd w vb b):
  Calls Tryz.prog 176 #[.pointer (some ⟨g,o,none⟩),vf,.slice aa la ca,vb] w fun e w'=>∃x,e=.returned (.tuple #[x,.int .i64 0])∧New 5 w x b w':=by
 obtain⟨ab,cb,rfl, -⟩:=id hb
 have c0:w.cell? ⟨g,o,none⟩=some (.slice ak 0 ck):=by rw[hB.cell];exact h0
 have HBB:Hid (Rd w (.slice ab b.length cb) b):=hb
 have HLB:Hid (b.length≤3000000):=hlb
 clear hB hb hlb h0
 go_enter Tryz.func176,Tryz.ntmps176
 go_wp2_with fail
 refine(join_any _ _ _ _ (RdL.lit1r (e:=26) rfl HBB.out) (by have:=HLB.out;simp[totL];omega)).mono ?_
 rintro e w1 ⟨v1,rfl,hN1⟩
 have HO:Hid (New 5 w v1 b w1):=New.from hN1.one16 (growB _)
 clear hN1
 go_wp2
 go_ret2
 exact⟨_,rfl,HO.out⟩
set_option maxRecDepth 100000 in
set_option maxHeartbeats 2000000 in
theorem cseal_none (t:List UInt8) (hlt:t.length≤3000000) (g o:Nat) (bt:TypeId) (cs:List Value) (ak aa:Option Addr) (ck la ca:Nat) (vt:Value) (w:World) (hB:BlkAt g bt cs w) (h0:cs[o]?=some (.slice ak 0 ck)) (ht:Rd w vt t):
  Calls Tryz.prog 110 #[.pointer (some ⟨g,o,none⟩),.slice aa la ca,vt] w fun e w'=>∃x,e=.returned (.tuple #[x,.int .i64 0])∧New 5 w x t w':=by
 have HT:Hid _:=fun vf=>ctake_none vf t hlt g o bt cs ak aa ck la ca vt w hB h0 ht
 clear hB ht hlt h0
 go_enter Tryz.func110,Tryz.ntmps110
 go_wp2_with fail
 refine Calls.mono (HT.out _) ?_
 rintro e w1 ⟨x,rfl,h1⟩
 have H1:Hid _:=h1
 clear h1
 go_wp2
 go_ret2
 exact⟨_,rfl,H1.out⟩
set_option maxRecDepth 100000 in
set_option maxHeartbeats 2000000 in
theorem copen_none (t:List UInt8) (hlt:t.length≤3000000) (g o:Nat) (bt:TypeId) (cs:List Value) (ak aa:Option Addr) (ck la ca:Nat) (vt:Value) (w:World) (hB:BlkAt g bt cs w) (h0:cs[o]?=some (.slice ak 0 ck)) (ht:Rd w vt t):
  Calls Tryz.prog 116 #[.pointer (some ⟨g,o,none⟩),.slice aa la ca,vt] w fun e w'=>∃x,e=.returned (.tuple #[x,.int .i64 0])∧New 5 w x t w':=by
 have HT:Hid _:=fun vf=>ctake_none vf t hlt g o bt cs ak aa ck la ca vt w hB h0 ht
 clear hB ht hlt h0
 go_enter Tryz.func116,Tryz.ntmps116
 go_wp2_with fail
 refine Calls.mono (HT.out _) ?_
 rintro e w1 ⟨x,rfl,h1⟩
 have H1:Hid _:=h1
 clear h1
 go_wp2
 go_ret2
 exact⟨_,rfl,H1.out⟩
set_option maxRecDepth 100000 in
set_option maxHeartbeats 4000000 in
theorem ssealN (g:Nat) (x0 x1:Value) (post:List Value) (vc vh vk:Value) (s:Sta) (hkey:s.c.key=[]) (vt:Value) (t:List UInt8) (hlt:t.length≤100000) (hlh:s.h.length≤100000) (w w0:World) (hS:StV w0.heap.size g x0 x1 post vc vh vk s w) (ht:Rd w vt t) (hbw0:Below w0.heap.size w0 w) (hTb:Tabs w0):
  Calls Tryz.prog 59 #[.pointer (some ⟨g,2,none⟩),vt] w fun e w'=>∃x,e=.returned (.tuple #[x,.int .i64 0])∧Ow 5 w.heap.size x t w'∧(∃vh',StV w0.heap.size g x0 x1 post vc vh' vk (mhS s t) w'∧Ow 5 w.heap.size vh' (mhS s t).h w')∧Chg (fun i=>i=g) w w':=by
 obtain⟨ck,h,⟨key,n⟩⟩:=s
 replace hkey:key=[]:=hkey
 subst hkey
 have hS0:StV w0.heap.size g x0 x1 post vc vh vk ⟨ck,h,⟨[],n⟩⟩ w:=hS
 obtain⟨hB,hc,hh,hk⟩:=hS
 replace hB:BlkAt g 101 (shD x0 x1 post vc vh vk n) w:=hB
 replace hh:Ow 5 w0.heap.size vh h w:=hh
 replace hk:Ow 5 w0.heap.size vk [] w:=hk
 obtain⟨ah,ch,rfl, -⟩:=id hh.rd
 obtain⟨ak,ck',rfl, -⟩:=id hk.rd
 have c1:w.cell? ⟨g,3,none⟩=some (.slice ah h.length ch):=hB.cell 3
 have HCall:Hid (∀W,Below w.heap.size w W→_):=fun W (bW:Below w.heap.size w W)=>cseal_none t (by omega) g 4 101 _ ak ah ck' h.length ch vt W (BlkAt.kept hB bW) rfl (ht.kept bW)
 obtain⟨at',ct',rfl, -⟩:=id ht
 have HS0:Hid (StV w0.heap.size g x0 x1 post vc _ _ ⟨ck,h,⟨[],n⟩⟩ w):=hS0
 have HLh:Hid (h.length≤100000):=hlh
 have HLt:Hid (t.length≤100000):=hlt
 have HTt:Hid (Rd w _ t):=ht
 have HTb:Hid (Tabs w0):=hTb
 have HBW0:Hid (Below w0.heap.size w0 w):=hbw0
 clear hB hc hh hk hlh hlt ht hTb hbw0 hS0
 go_enter Tryz.func59,Tryz.ntmps59
 go_wp2_with fail
 have hB:Below w.heap.size w w.drew:=(Below.refl _ _).drew
 refine wpF_begin 8 (w0:=w) (by kernel_rfl) ?_
 refine fP_ (.inr hB) 0 rfl ⟨_,by intro W;go_simp<;>with_reducible rfl,?_⟩
 try simp only[Act.put,pA_,pB_,pC_]
 refine fP_ (.inr hB) 1 rfl ⟨_,by intro W;go_simp<;>with_reducible rfl,?_⟩
 try simp only[Act.put,pA_,pB_,pC_]
 refine fP_ (.inr hB) 2 rfl ⟨_,by intro W;go_simp<;>with_reducible rfl,?_⟩
 try simp only[Act.put,pA_,pB_,pC_]
 refine fP_ (.inr hB) 3 rfl ⟨_,by intro W;go_simp<;>with_reducible rfl,?_⟩
 try simp only[Act.put,pA_,pB_,pC_]
 refine fP_ (.inr hB) 4 rfl ⟨_,by intro W;go_simp<;>with_reducible rfl,?_⟩
 try simp only[Act.put,pA_,pB_,pC_]
 refine fP_ (.inr hB) 5 rfl ⟨_,by intro W;go_simp<;>with_reducible rfl,?_⟩
 try simp only[Act.put,pA_,pB_,pC_]
 refine fU_ hB 6 rfl ⟨_,by intro W hW;have hcW:=cellT c1 hW;go_simp<;>with_reducible rfl,?_⟩
 try simp only[Act.put,pA_,pB_,pC_]
 refine fP_ (.inr hB) 7 rfl ⟨_,by intro W;go_simp<;>with_reducible rfl,?_⟩
 try simp only[Act.put,pA_,pB_,pC_]
 refine fD_ 8 fun K hK=>?_
 go_simp
 refine Calls.mono (HCall.out _ hB) ?_
 rintro e w1 ⟨x,rfl,hN⟩
 have HN:Hid (New 5 _ x t w1):=hN
 clear hN
 refine hK.out _ _ (.inl rfl) ?_
 clear hK K
 try simp only[Act.put,pA_,pB_,pC_]
 refine fP_ (.inl (by kernel_rfl)) 9 rfl ⟨_,by intro W;go_simp<;>with_reducible rfl,?_⟩
 try simp only[Act.put,pA_,pB_,pC_]
 refine fP_ (.inl (by kernel_rfl)) 10 rfl ⟨_,by intro W;go_simp<;>with_reducible rfl,?_⟩
 try simp only[Act.put,pA_,pB_,pC_]
 refine fP_ (.inl (by kernel_rfl)) 11 rfl ⟨_,by intro W;go_simp<;>with_reducible rfl,?_⟩
 try simp only[Act.put,pA_,pB_,pC_]
 refine fP_ (.inl (by kernel_rfl)) 12 rfl ⟨_,by intro W;go_simp<;>with_reducible rfl,?_⟩
 try simp only[Act.put,pA_,pB_,pC_]
 refine fP_ (.inl (by kernel_rfl)) 13 rfl ⟨_,by intro W;go_simp<;>with_reducible rfl,?_⟩
 try simp only[Act.put,pA_,pB_,pC_]
 refine wpF_done (by kernel_rfl) ?_
 have b1:Below w.heap.size w w1:=stepB hB HN.out.2
 have hOx:Ow 5 w.heap.size x t w1:=(Ow.of_new HN.out).mono hB.size
 obtain⟨ax,cx,rfl, -⟩:=id hOx.rd
 have HOx:Hid (Ow 5 w.heap.size _ t w1):=hOx
 have HS1:Hid (StV w0.heap.size g x0 x1 post vc _ _ ⟨ck,h,⟨[],n⟩⟩ w1):=StV.kept HS0.out b1
 have HB1:Hid (Below w.heap.size w w1):=b1
 have HT1:Hid (Rd w1 _ t):=HTt.out.kept b1
 clear hB HN hOx b1 HS0 c1 HCall
 have e6:((0:Int) !=0)=false:=rfl
 go_wp2_with fail
 refine(smixhashH w0.heap.size g x0 x1 post _ _ _ ⟨ck,h,⟨[],n⟩⟩ _ t (by have:=HLh.out;have:=HLt.out;show h.length+t.length≤_;omega) _ (stepB HBW0.out HB1.out).size HS1.out HOx.out.rd (HTb.out.kept (stepB HBW0.out HB1.out))).mono ?_
 rintro e w2 ⟨rfl,⟨vh',hS2,hN2⟩,c2⟩
 have HS2:Hid (StV w0.heap.size g x0 x1 post vc vh' _ (mhS ⟨ck,h,⟨[],n⟩⟩ t) w2):=hS2
 have HN2:Hid (Ow 5 w.heap.size vh' (mhS ⟨ck,h,⟨[],n⟩⟩ t).h w2):=hN2.mono HB1.out.size
 have HC2:Hid _:=c2
 have HO2:Hid (Ow 5 w.heap.size _ t w2):=HOx.out.chg HS1.out.1 ne_shake c2
 clear hS2 c2 hN2
 go_wp2_with fail
 go_ret2
 exact⟨_,rfl,HO2.out,⟨_,HS2.out,HN2.out⟩,(Chg.of_below HB1.out).trans HC2.out⟩
set_option maxRecDepth 100000 in
set_option maxHeartbeats 4000000 in
theorem sopenN (g:Nat) (x0 x1:Value) (post:List Value) (vc vh vk:Value) (s:Sta) (hkey:s.c.key=[]) (vt:Value) (t:List UInt8) (hlt:t.length≤100000) (hlh:s.h.length≤100000) (w w0:World) (hS:StV w0.heap.size g x0 x1 post vc vh vk s w) (ht:Rd w vt t) (hbw0:Below w0.heap.size w0 w) (hTb:Tabs w0):
  Calls Tryz.prog 73 #[.pointer (some ⟨g,2,none⟩),vt] w fun e w'=>∃x,e=.returned (.tuple #[x,.int .i64 0])∧Ow 5 w.heap.size x t w'∧(∃vh',StV w0.heap.size g x0 x1 post vc vh' vk (mhS s t) w'∧Ow 5 w.heap.size vh' (mhS s t).h w')∧Chg (fun i=>i=g) w w':=by
 obtain⟨ck,h,⟨key,n⟩⟩:=s
 replace hkey:key=[]:=hkey
 subst hkey
 have hS0:StV w0.heap.size g x0 x1 post vc vh vk ⟨ck,h,⟨[],n⟩⟩ w:=hS
 obtain⟨hB,hc,hh,hk⟩:=hS
 replace hB:BlkAt g 101 (shD x0 x1 post vc vh vk n) w:=hB
 replace hh:Ow 5 w0.heap.size vh h w:=hh
 replace hk:Ow 5 w0.heap.size vk [] w:=hk
 obtain⟨ah,ch,rfl, -⟩:=id hh.rd
 obtain⟨ak,ck',rfl, -⟩:=id hk.rd
 have c1:w.cell? ⟨g,3,none⟩=some (.slice ah h.length ch):=hB.cell 3
 have HCall:Hid (∀W,Below w.heap.size w W→_):=fun W (bW:Below w.heap.size w W)=>copen_none t (by omega) g 4 101 _ ak ah ck' h.length ch vt W (BlkAt.kept hB bW) rfl (ht.kept bW)
 obtain⟨at',ct',rfl, -⟩:=id ht
 have HS0:Hid (StV w0.heap.size g x0 x1 post vc _ _ ⟨ck,h,⟨[],n⟩⟩ w):=hS0
 have HLh:Hid (h.length≤100000):=hlh
 have HLt:Hid (t.length≤100000):=hlt
 have HTt:Hid (Rd w _ t):=ht
 have HTb:Hid (Tabs w0):=hTb
 have HBW0:Hid (Below w0.heap.size w0 w):=hbw0
 clear hB hc hh hk hlh hlt ht hTb hbw0 hS0
 go_enter Tryz.func73,Tryz.ntmps73
 go_wp2_with fail
 have hB:Below w.heap.size w w.drew:=(Below.refl _ _).drew
 refine wpF_begin 8 (w0:=w) (by kernel_rfl) ?_
 refine fP_ (.inr hB) 0 rfl ⟨_,by intro W;go_simp<;>with_reducible rfl,?_⟩
 try simp only[Act.put,pA_,pB_,pC_]
 refine fP_ (.inr hB) 1 rfl ⟨_,by intro W;go_simp<;>with_reducible rfl,?_⟩
 try simp only[Act.put,pA_,pB_,pC_]
 refine fP_ (.inr hB) 2 rfl ⟨_,by intro W;go_simp<;>with_reducible rfl,?_⟩
 try simp only[Act.put,pA_,pB_,pC_]
 refine fP_ (.inr hB) 3 rfl ⟨_,by intro W;go_simp<;>with_reducible rfl,?_⟩
 try simp only[Act.put,pA_,pB_,pC_]
 refine fP_ (.inr hB) 4 rfl ⟨_,by intro W;go_simp<;>with_reducible rfl,?_⟩
 try simp only[Act.put,pA_,pB_,pC_]
 refine fP_ (.inr hB) 5 rfl ⟨_,by intro W;go_simp<;>with_reducible rfl,?_⟩
 try simp only[Act.put,pA_,pB_,pC_]
 refine fU_ hB 6 rfl ⟨_,by intro W hW;have hcW:=cellT c1 hW;go_simp<;>with_reducible rfl,?_⟩
 try simp only[Act.put,pA_,pB_,pC_]
 refine fP_ (.inr hB) 7 rfl ⟨_,by intro W;go_simp<;>with_reducible rfl,?_⟩
 try simp only[Act.put,pA_,pB_,pC_]
 refine fD_ 8 fun K hK=>?_
 go_simp
 refine Calls.mono (HCall.out _ hB) ?_
 rintro e w1 ⟨x,rfl,hN⟩
 have HN:Hid (New 5 _ x t w1):=hN
 clear hN
 refine hK.out _ _ (.inl rfl) ?_
 clear hK K
 try simp only[Act.put,pA_,pB_,pC_]
 refine fP_ (.inl (by kernel_rfl)) 9 rfl ⟨_,by intro W;go_simp<;>with_reducible rfl,?_⟩
 try simp only[Act.put,pA_,pB_,pC_]
 refine fP_ (.inl (by kernel_rfl)) 10 rfl ⟨_,by intro W;go_simp<;>with_reducible rfl,?_⟩
 try simp only[Act.put,pA_,pB_,pC_]
 refine fP_ (.inl (by kernel_rfl)) 11 rfl ⟨_,by intro W;go_simp<;>with_reducible rfl,?_⟩
 try simp only[Act.put,pA_,pB_,pC_]
 refine fP_ (.inl (by kernel_rfl)) 12 rfl ⟨_,by intro W;go_simp<;>with_reducible rfl,?_⟩
 try simp only[Act.put,pA_,pB_,pC_]
 refine fP_ (.inl (by kernel_rfl)) 13 rfl ⟨_,by intro W;go_simp<;>with_reducible rfl,?_⟩
 try simp only[Act.put,pA_,pB_,pC_]
 refine wpF_done (by kernel_rfl) ?_
 have b1:Below w.heap.size w w1:=stepB hB HN.out.2
 have hOx:Ow 5 w.heap.size x t w1:=(Ow.of_new HN.out).mono hB.size
 obtain⟨ax,cx,rfl, -⟩:=id hOx.rd
 have HOx:Hid (Ow 5 w.heap.size _ t w1):=hOx
 have HS1:Hid (StV w0.heap.size g x0 x1 post vc _ _ ⟨ck,h,⟨[],n⟩⟩ w1):=StV.kept HS0.out b1
 have HB1:Hid (Below w.heap.size w w1):=b1
 have HT1:Hid (Rd w1 _ t):=HTt.out.kept b1
 clear hB HN hOx b1 HS0 c1 HCall
 have e6:((0:Int) !=0)=false:=rfl
 go_wp2_with fail
 refine(smixhashH w0.heap.size g x0 x1 post _ _ _ ⟨ck,h,⟨[],n⟩⟩ _ t (by have:=HLh.out;have:=HLt.out;show h.length+t.length≤_;omega) _ (stepB HBW0.out HB1.out).size HS1.out HT1.out (HTb.out.kept (stepB HBW0.out HB1.out))).mono ?_
 rintro e w2 ⟨rfl,⟨vh',hS2,hN2⟩,c2⟩
 have HS2:Hid (StV w0.heap.size g x0 x1 post vc vh' _ (mhS ⟨ck,h,⟨[],n⟩⟩ t) w2):=hS2
 have HN2:Hid (Ow 5 w.heap.size vh' (mhS ⟨ck,h,⟨[],n⟩⟩ t).h w2):=hN2.mono HB1.out.size
 have HC2:Hid _:=c2
 have HO2:Hid (Ow 5 w.heap.size _ t w2):=HOx.out.chg HS1.out.1 ne_shake c2
 clear hS2 c2 hN2
 go_wp2_with fail
 go_ret2
 exact⟨_,rfl,HO2.out,⟨_,HS2.out,HN2.out⟩,(Chg.of_below HB1.out).trans HC2.out⟩
theorem infoMs:(Tryz.prog.info? 74).map (fun i=>(i.zero,i.size,i.bytes))=some (some (.agg #[.bool false,.slice none 0 0]),2,32):=by kernel_rfl
def mgL (ls:List (List UInt8)):List (Bool×List Int):=ls.map fun x=>(decide (x.getD 0 0=45),nIs (msgL x))
def msX (ms:List (Bool×List Int)) (vs:List Value):List Value:=(ms.zip vs).flatMap fun e=>[Value.bool e.1.1,e.2]
theorem msX_len:∀(ms:List (Bool×List Int)) (vs:List Value),ms.length=vs.length→(msX ms vs).length=ms.length * 2
 |[],[],_=>rfl
 |m :: ms,v :: vs,h=>by
  have:=msX_len ms vs (by simpa using h)
  simp[msX] at this ⊢
  omega
theorem msX_next:∀(ms:List (Bool×List Int)) (vs:List Value) (m:Bool×List Int) (v:Value),ms.length=vs.length→msX ms vs++[.bool m.1,v]=msX (ms++[m]) (vs++[v])
 |[],[],m,v,_=>by simp[msX]
 |x :: ms,y :: vs,m,v,h=>by
  have:=msX_next ms vs m v (by simpa using h)
  simp[msX] at this ⊢
  exact this
theorem msX_at:∀(ms:List (Bool×List Int)) (vs:List Value),ms.length=vs.length→∀k (hk:k<ms.length) (hv:k<vs.length),(msX ms vs)[2 * k]?=some (.bool ms[k].1)∧(msX ms vs)[2 * k+1]?=some vs[k]
 |[],[],_,k,hk,_=>by cases hk
 |x :: ms,y :: vs,h,k,hk,hv=>by
  cases k with
  |zero=>exact⟨rfl,rfl⟩
  |succ k=>
   have:=msX_at ms vs (by simpa using h) k (by simpa using hk) (by simpa using hv)
   have e:2 * (k+1)=2 * k+2:=by omega
   rw[e]
   exact this
structure MkR (rest:List Rw) (vs:List Value) (ms:List (Bool×List Int)):Prop where
 len:ms.length=vs.length
 toks:∀k (h:k<vs.length),(⟨111,1,vs[k],(ms.getD k (false,[])).2.length,(ms.getD k (false,[])).2.map (Value.int .i64)⟩:Rw)∈rest
theorem MkR.next {rest:List Rw} {vs:List Value} {ms:List (Bool×List Int)} (h:MkR rest vs ms) (m:Bool×List Int) (v:Value):MkR (⟨111,1,v,m.2.length,m.2.map (Value.int .i64)⟩ :: rest) (vs++[v]) (ms++[m]):=by
 refine⟨by simp[h.len],fun k hk=>?_⟩
 by_cases hk2:k<vs.length
 ·have e1:(vs++[v])[k]=vs[k]:=List.getElem_append_left hk2
  have e2:(ms++[m]).getD k (false,[])=ms.getD k (false,[]):=by
   have:k<ms.length:=by rw[h.len];exact hk2
   simp[List.getD,List.getElem?_append_left this]
  rw[e1,e2]
  exact List.mem_cons_of_mem _ (h.toks k hk2)
 ·have hke:k=vs.length:=by simp at hk;omega
  subst hke
  have e1:(vs++[v])[vs.length]=v:=by simp
  have e2:(ms++[m]).getD vs.length (false,[])=m:=by rw[←h.len];simp[List.getD]
  rw[e1,e2]
  exact List.mem_cons_self ..
theorem MsR.of_rows {w:World} {base:Nat} {v:Value} {rest:List Rw} {vs:List Value} {p:Ptn} (h:∀q∈((⟨74,2,v,p.n,msX p.ms vs⟩:Rw) :: rest),w.ownsRow base q.ty q.sz q.v q.n q.xs) (hm:MkR rest vs p.ms):MsR w v p:=by
 have hE:=RdE.of_own (h _ (List.mem_cons_self ..))
 obtain⟨-,a,cap,ev,h1,h2, -⟩:=id hE
 replace ev:v=.slice a p.n cap:=ev
 subst ev
 refine⟨a,cap,rfl,h1,h2,?_⟩
 by_cases h0:p.n=0
 ·exact .inl h0
 ·right
  have hl:(msX p.ms vs).length=p.n * 2:=msX_len p.ms vs hm.len
  have hnv:p.n=vs.length:=hm.len
  obtain⟨b,off,e, -⟩:=hE.cellAt (i:=0) (by show 0<(msX p.ms vs).length;omega)
  refine⟨b,off,e,fun k hk=>?_⟩
  have hk1:k<p.ms.length:=hk
  have hk2:k<vs.length:=by omega
  obtain⟨m1,m2⟩:=msX_at p.ms vs hm.len k hk1 hk2
  obtain⟨b1,o1,e1,c1⟩:=hE.cellAt (i:=2 * k) (by show 2 * k<(msX p.ms vs).length;omega)
  obtain⟨b2,o2,e2,c2⟩:=hE.cellAt (i:=2 * k+1) (by show 2 * k+1<(msX p.ms vs).length;omega)
  rw[e] at e1 e2
  simp only[Option.some.injEq,Addr.mk.injEq,and_true] at e1 e2
  obtain⟨rfl,rfl⟩:=e1
  obtain⟨rfl,rfl⟩:=e2
  refine⟨vs[k],?_,?_,?_⟩
  ·rw[c1]
   have:(msX p.ms vs)[2 * k]?=some (msX p.ms vs)[2 * k]:=by simp
   rw[←this,m1]
   simp[Ptn.ini,hk1]
  ·rw[c2]
   have:(msX p.ms vs)[2 * k+1]?=some (msX p.ms vs)[2 * k+1]:=by simp
   rw[←this,m2]
  ·have:=RdI.of_row (h _ (List.mem_cons_of_mem _ (hm.toks k hk2)))
   unfold Ptn.tk
   exact this
theorem mgL_len (ls:List (List UInt8)):(mgL ls).length=ls.length:=by simp[mgL]
theorem mgL_next (ls:List (List UInt8)) (i:Nat) (h:i<ls.length):mgL (ls.take (i+1))=mgL (ls.take i)++[(decide ((ls.getD i []).getD 0 0=45),nIs (msgL (ls.getD i [])))]:=by
 unfold mgL
 rw[List.take_add_one,List.getElem?_eq_getElem h,List.map_append]
 simp[h]

set_option maxRecDepth 100000 in
set_option maxHeartbeats 8000000 in
theorem readMessages_any (ls:List (List UInt8)) (v:Value) (hls:ls.length≤4097) (hx:∀x∈ls,x.length≤4096) (w:World) (h:RdC w v (stC ls)) (hT:TkT w):
  Calls Tryz.prog 132 #[v] w fun e w'=>(ls.all msgB=true∧∃v,e=.returned (.tuple #[v,.bool true])∧(∀W,Chg (fun b=>b<w.heap.size) w' W→MsR W v ⟨[],false,false,mgL ls⟩)∧Below w.heap.size w w')∨(ls.all msgB=false∧e=.returned (.tuple #[.slice none 0 0,.bool false])∧Below w.heap.size w w'):=by
 obtain⟨ti,hti,hz0,hz1,hz2⟩:=info_parts infoMs
 obtain⟨a,c,rfl,h1,h2, -⟩:=st_len h
 obtain⟨n,hn⟩:∃n:Nat,n=ls.length:=⟨_,rfl⟩
 have HN:Hid (n=ls.length):=hn
 rw[←hn] at h1 h hls
 rw[←hn]
 have HL:Hid (RdC w (.slice a n c) (stC ls)):=h
 have HX:Hid (∀x∈ls,x.length≤4096):=hx
 have HT:Hid (TkT w):=hT
 unfold maxLen at h2
 have hO0:OwnG w (⟨74,2,.slice none 0 0,0,msX (mgL (ls.take 0)) []⟩ :: []) w:=(OwnG.start w).nil 74 2
 clear hn h hx hT
 go_enter Tryz.func132,Tryz.ntmps132
 go_wp2
 go_loopw [4,11] (fun ov iv wx=>∃(i:Nat) (vs:List Value) (rest:List Rw),i≤n∧iv=.int .i64 (i:Int)∧Hid ((ls.take i).all msgB=true∧MkR rest vs (mgL (ls.take i)))∧OwnG w (⟨74,2,ov,i,msX (mgL (ls.take i)) vs⟩ :: rest) wx) (fun _ iv _=>n - (intOf iv).toNat)
 case atStart=>exact⟨0,[],[],by omega,rfl,(by show _∧_;exact⟨rfl,⟨rfl,fun k hk=>by cases hk⟩⟩),hO0⟩
 case round=>
  obtain⟨i,vs,rest,hi,rfl,HG,hO⟩:=hrel
  clear hO0
  by_cases hlt:i<n
  ·have hd:decide ((i:Int)<(n:Int))=true:=decide_eq_true (by omega)
   have hiI:(i:Int)<(n:Int):=by omega
   have HIn:Hid (i<ls.length):=by show _<_;rw[←HN.out];exact hlt
   obtain⟨b,off,rfl,g1⟩:=st_at HL.out HIn.out
   replace g1:=cellKP g1 hO.below
   obtain⟨x,hx⟩:∃x:List UInt8,x=ls.getD i []:=⟨_,rfl⟩
   rw[←hx] at g1
   have HXe:Hid (x=ls.getD i []):=hx
   have HC:Hid (∀W:World,TkT W→Calls Tryz.prog 212 #[.string ⟨x.toArray⟩] W fun e w'=>MsgP x W e w'):=fun W hW=>readMessage_any x (HX.out x (by rw[hx];have:=HIn.out;simp[this])) W hW
   obtain⟨MM,hMM⟩:∃L,L=mgL (ls.take i):=⟨_,rfl⟩
   rw[←hMM] at hO HG
   have HMx:Hid (mgL (ls.take (i+1))=MM++[(decide (x.getD 0 0=45),nIs (msgL x))]):=by show _=_;rw[mgL_next ls i HIn.out,←hMM,←hx]
   have HAx:Hid ((ls.take (i+1)).all msgB=msgB x):=by
    show _=_
    rw[List.take_add_one,List.getElem?_eq_getElem HIn.out,List.all_append,HG.out.1,hx]
    have:=HIn.out
    simp[this]
   generalize (⟨x.toArray⟩:ByteArray)=XB at g1 HC
   clear hx hMM
   go_wp2_with fail
   refine(HC.out _ (HT.out.kept hO.below)).mono ?_
   intro e w2 hmsg
   rcases hmsg with ⟨hmb,vt,rfl,hOt⟩|⟨hmb,q,rfl,b2⟩
   ·obtain⟨at',ct,rfl⟩:=tk_len hOt
    have hO2:=hO.fresh (p:=Rw.tk (.slice at' (msgL x).length ct) (msgL x)) (hOt.rows _ (List.mem_cons_self ..)) hOt.below
    obtain⟨q,hq⟩:∃q:Bool,q=decide (x.getD 0 0=45):=⟨_,rfl⟩
    rw[←hq] at HMx ⊢
    obtain⟨ML,hML⟩:∃l:List Nat,l=msgL x:=⟨_,rfl⟩
    rw[←hML] at hO2 HMx ⊢
    have HO2:Hid (OwnG w (⟨74,2,u4,i,msX MM vs⟩ :: ⟨111,1,.slice at' ML.length ct,ML.length,(nIs ML).map (Value.int .i64)⟩ :: rest) w2):=hO2.swap
    have HG2:Hid ((ls.take (i+1)).all msgB=true∧MkR (⟨111,1,.slice at' ML.length ct,ML.length,(nIs ML).map (Value.int .i64)⟩ :: rest) (vs++[.slice at' ML.length ct]) (mgL (ls.take (i+1)))):=by
     refine⟨by rw[HAx.out];exact hmb,?_⟩
     rw[HMx.out]
     have:=HG.out.2.next (q,nIs ML) (.slice at' ML.length ct)
     have e:(nIs ML).length=ML.length:=by simp[nIs]
     rw[show((q,nIs ML):Bool×List Int).2.length=ML.length from e] at this
     exact this
    have HXn:Hid (msX MM vs++[.bool q,.slice at' ML.length ct]=msX (mgL (ls.take (i+1))) (vs++[.slice at' ML.length ct])):=by show _=_;rw[HMx.out];exact msX_next MM vs (q,nIs ML) _ HG.out.2.len
    clear hO hOt hO2 hmb hq hML
    go_wp2_with (refine wpList_alloc_blk rfl 74 rfl [.bool false,.slice none 0 0] (allocMsg _) ?_)
    intro w4 r4 b4 s4
    go_wp2_with (refine wpList_store_part rfl 74 _ _ rfl rfl [.bool q,.slice at' ML.length ct] rfl [] [.bool false,.slice none 0 0] [] [.bool q,.slice at' ML.length ct] r4 rfl rfl rfl rfl infoMsg (oneCell2 _ _ _ _) ?_)
    intro w5 r5 hw5
    have hO5:=(HO2.out.kept b4).wrote hw5 HO2.out.below.size (fun r hr b hb=>by have:=HO2.out.lt r hr b hb;omega)
    clear r4 b4 s4 hw5
    go_wp2_with (first
     |refine wpList_load_part rfl 74 _ rfl rfl [] [.bool q,.slice at' ML.length ct] [] r5 rfl rfl Tryz.underlying74 rfl infoMsg ?_
     |(at_builtin;go_must (refine wpList_append_E rfl _ _ 23 rfl 74 ti _ 2 32 Tryz.underlying23 hti hz0 hz1 hz2 rfl (by decide) _ i (msX MM vs) rfl (hO5.kept (growB _)) ⟨w5.heap.size,0,none⟩ 1 1 [.bool q,.slice at' ML.length ct] rfl rfl (news2 _ _ rfl) (by intro u hu;simp at hu;rcases hu with rfl|rfl<;>rfl) (by unfold maxLen;omega) (by omega) ?_)))
    intro v8 w8 hO8 hC8
    rw[HXn.out] at hO8
    clear hO5 hC8 r5
    go_wp2
    go_roundw
    case rel=>exact⟨i+1,_,_,by omega,by go_num,HG2,hO8⟩
    case measure=>simp[intOf]<;>omega
   ·have HF:Hid (ls.all msgB=false):=by
     show _=_
     rw[List.all_eq_false]
     refine⟨x,?_,by rw[hmb];simp⟩
     rw[HXe.out]
     have:=HIn.out
     simp[this]
    have HB2:Hid (Below w.heap.size w w2):=stepB hO.below b2
    clear hO b2 hmb
    go_wp2_with (refine wpList_alloc_blk rfl 74 rfl [.bool false,.slice none 0 0] (allocMsg _) ?_)
    intro w4 r4 b4 s4
    go_wp2_with (refine wpList_store_part rfl 74 _ _ rfl rfl [.bool q,.slice none 0 0] rfl [] [.bool false,.slice none 0 0] [] [.bool q,.slice none 0 0] r4 rfl rfl rfl rfl infoMsg (oneCell2 _ _ _ _) ?_)
    intro w5 r5 hw5
    have HB5:Hid (Below w.heap.size w w5):=stepB HB2.out (hw5.below _ _ (Nat.le_refl _) b4)
    clear r4 b4 s4 hw5 r5
    go_wp2
    go_ret2
    exact .inr ⟨HF.out,rfl,HB5.out⟩
  ·have hd:decide ((i:Int)<(n:Int))=false:=decide_eq_false (by omega)
   have hiI:(n:Int)≤(i:Int):=by omega
   have hie:ls.take i=ls:=List.take_of_length_le (by have:=HN.out;omega)
   have HF:Hid (ls.all msgB=true∧(∀W,Chg (fun b=>b<w.heap.size) wr W→MsR W u4 ⟨[],false,false,mgL ls⟩)∧Below w.heap.size w wr):=by
    have h1:=HG.out.1
    have h2:=HG.out.2
    rw[hie] at h1 h2 hO
    refine⟨h1,fun W hW=>MsR.of_rows (base:=w.heap.size) (p:=⟨[],false,false,mgL ls⟩) (rest:=rest) (vs:=vs) ?_ h2,hO.below⟩
    have e:Ptn.n ⟨[],false,false,mgL ls⟩=i:=by show(mgL ls).length=i;rw[mgL_len];have:=HN.out;omega
    rw[e]
    exact fun q hq=>own_chgG (hO.rows q hq) hW fun b hb hlt=>by have:=((hO.rows q hq).lt b hb).1;omega
   clear hO hie
   go_wp2
   go_ret2
   exact .inl ⟨HF.out.1,_,rfl,HF.out.2⟩
end Go.Proofs.YtpgjobpmafbigaaGreatDoor
