/- What functions of the program, or of the reference, answer: contracts; several texts in one. -/
import Derived.Test.YtpgjobpmafbigaaGreatDoorBase
import Derived.Test.YtpgjobpmafbigaaGreatDoorChecked
import Derived.OwnWalk
import Derived.Deep.QuietTactic
import Derived.BigQuiet
import Derived.WalkSpells
import Derived.RegionTactic
import Derived.BigRegion
import Derived.Lib.LaidTab
import Derived.OpenShut
import Derived.Test.YtpgjobpmafbigaaGreatDoorGa
import Derived.WalkKit
import Derived.Lib.SmallJoins
import Derived.Deep.SlicePairs
import Derived.Deep.Strs
import Derived.ChangeSlices
import Derived.Shelf.LaysM
import Derived.Shelf.Strings.OnBuilder
import Derived.Shelf.Strings.Trim
import Derived.Shelf.Small.Wraps
import Derived.Shelf.Strconv.Clone
import Derived.Shelf.Strings.Split
import Derived.Shelf.Slices.Turned
import Derived.Test.YtpgjobpmafbigaaGreatDoorProg
import Derived.Lib.Split
import Derived.Lib.SplitLaws
import Derived.Lib.TrimByte
import Derived.Lib.Strings
import Derived.Lib.Join
import Derived.Lib.SlicesS

namespace Go.Proofs.YtpgjobpmafbigaaGreatDoor
open Go.ChangeShapes Go.WideShapes Go.ChangeAt Go.RowKit
set_option linter.unusedSimpArgs false
set_option linter.unusedVariables false


theorem off2 (u:UInt8):∃q p:Nat,p=u.toNat / 4 * 4∧((u.toNat:Nat):Int).tdiv 4=(q:Int)∧IntKind.u8.wrap (q:Int)=(q:Int)∧IntKind.u8.wrap ((q:Int) * 4)=(p:Int)∧(((UInt8.ofNat p).toNat:Nat):Int)=(p:Int):=by
 have:=u.toNat_lt
 refine⟨u.toNat / 4,_,rfl,?_,?_,?_,?_⟩
 ·rw[Int.tdiv_eq_ediv_of_nonneg (by omega)];omega
 ·rw[IntKind.wrap_u8];omega
 ·rw[IntKind.wrap_u8];omega
 ·rw[UInt8.toNat_ofNat'];omega

end Go.Proofs.YtpgjobpmafbigaaGreatDoor

namespace Go.Proofs.YtpgjobpmafbigaaGreatDoor
set_option linter.unusedVariables false

theorem strs_of_head {P:Program} {W:World} {name:String} {zs:List (List UInt8)} {rest:List (String×DataW Unit)} {g:Nat} {t e:TypeId} {n:Nat}
  (hg:P.globalNamed name=some g) (hty:(P.globals[g]?).map (·.type)=some t) (ht:P.underlying t=some (.array n e)) (he:P.underlying e=some .string) (hce:P.cellsOf e=1)
  (h:laidMet P ((name,.agg (zs.map fun l=> .lit (.string l))) :: rest) W) (i:Nat) (hi:i<zs.length):W.cell? ⟨g,i,none⟩=some (.string ⟨(zs.getD i []).toArray⟩):=by
 obtain⟨ps,⟨g',t',cs,fuel,p,q,hg',ht',hvar,hd,_,_⟩,_⟩:=h
 obtain rfl:=Option.some.inj (hg.symm.trans hg')
 obtain rfl:=Option.some.inj (hty.symm.trans ht')
 rw[World.var?_cell hg hvar]
 obtain⟨xs,f',_,hx,_,hl,hr⟩:=DataW.trod_array ht hd
 have hxs:zs.map (fun l=>(DataW.lit (.string l):DataW Unit))=xs.map (·.1):=by
  have:=congrArg Prod.fst hx
  simpa using this
 have hin:i<n:=by
  have:=congrArg List.length hxs
  simp at this
  omega
 have h2:=hr i hin
 rw[hce,Nat.mul_one] at h2
 have hxi:xs[i]?=some xs[i]:=List.getElem?_eq_getElem (by omega)
 rw[hxi] at h2
 obtain⟨s,hc,hs,_⟩:=DataW.trod_string he h2
 have h3:=congrArg (·[i]?) hxs
 simp only[List.getElem?_map,hxi,Option.map_some,List.getElem?_eq_getElem hi,hs,Option.some.injEq,DataW.lit.injEq,Lit.string.injEq] at h3
 have h4:=congrArg (·[0]?) hc
 simp only[List.getElem?_take,List.getElem?_drop] at h4
 have h5:(zs.getD i [])=s.data.toList:=by rw[←h3];simp[hi]
 rw[h5]
 simpa using h4
end Go.Proofs.YtpgjobpmafbigaaGreatDoor

namespace Go.Proofs.YtpgjobpmafbigaaGreatDoor
set_option linter.unusedSimpArgs false
set_option linter.unusedVariables false

def byF (f:Nat→Nat) (k:Nat):UInt8:=stB (f (k / 8)) (k % 8)
def bsP (f:Nat→Nat) (n:Nat):List UInt8:=(List.range n).map (byF f)
theorem bsP_get (f:Nat→Nat) (n k:Nat) (hk:k<n):(bsP f n).getD k 0=byF f k:=by simp[bsP,hk]

def stF (l:List UInt8) (i:Nat):Nat:=leN ((l.drop (8 * i)).take 8)
theorem stF_lt (l:List UInt8) (i:Nat):stF l i<18446744073709551616:=by
 unfold stF
 exact leN_take_lt _ 8 (Nat.le_refl _)
def xhP (s p:List UInt8) (i K:Nat):List UInt8:=(List.range 200).map fun k=>if k<K then s.getD k 0^^^p.getD (i+k) 0 else s.getD k 0
theorem xhP_length (s p:List UInt8) (i K:Nat):(xhP s p i K).length=200:=by simp[xhP]
def zN (r n:Nat):Nat:=(r - (n+1) % r) % r
def pdP (s:UInt8) (l:List UInt8) (z:Nat):List UInt8:=l++[s]++List.replicate z 0
theorem pdP_length (s:UInt8) (l:List UInt8) (z:Nat):(pdP s l z).length=l.length+1+z:=by simp[pdP];omega
def padL (r:Nat) (s:UInt8) (l:List UInt8):List UInt8:=(pdP s l (zN r l.length)).set (l.length+zN r l.length) ((pdP s l (zN r l.length)).getD (l.length+zN r l.length) 0^^^128)
def blN (r:Nat) (l:List UInt8):Nat:=(l.length+1+zN r l.length) / r
def abN (r:Nat) (p:List UInt8):Nat→Nat→Nat
 |0=>fun _=>0
 |b+1=>rdsF (stF (xhP (bsP (abN r p b) 200) p (b * r) r)) 24
def abF (r:Int) (s:UInt8) (l:List UInt8):Nat→Nat:=if 1≤r∧r≤200 then abN r.toNat (padL r.toNat s l) (blN r.toNat l) else fun _=>0

def itF (f:Nat→Nat):Nat→Nat→Nat
 |0=>f
 |t+1=>rdsF (itF f t) 24
def smF (f:Nat→Nat) (r k:Nat):UInt8:=byF (itF f (k / r)) (k % r)
def otL (f:Nat→Nat) (r n:Nat):List UInt8:=(List.range n).map (smF f r)
theorem otL_length (f:Nat→Nat) (r n:Nat):(otL f r n).length=n:=by simp[otL]
theorem itF_lt (f:Nat→Nat) (hf:∀i,f i<18446744073709551616):∀t k,itF f t k<18446744073709551616
 |0,k=>hf k
 |t+1,k=>rdsF_lt _ (itF_lt f hf t) 24 k
theorem abN_lt (r:Nat) (p:List UInt8):∀b k,abN r p b k<18446744073709551616
 |0,_=>by simp[abN]
 |b+1,k=>rdsF_lt _ (stF_lt _) 24 k
theorem abF_lt (R:Int) (s:UInt8) (l:List UInt8) (k:Nat):abF R s l k<18446744073709551616:=by
 unfold abF
 split
 ·exact abN_lt _ _ _ k
 ·show 0<_
  decide
theorem leN_xor:∀(a b:List UInt8),a.length=b.length→leN (List.zipWith (· ^^^ ·) a b)=leN a^^^leN b
 |[],[],_=>rfl
 |x :: a,y :: b,h=>by
  have ih:=leN_xor a b (by simpa using h)
  have e:∀(u:UInt8) (n:Nat),u.toNat+256 * n=2 ^ 8 * n ||| u.toNat:=fun u n=>by
   rw[←Nat.two_pow_add_eq_or_of_lt (show u.toNat<2 ^ 8 from u.toNat_lt)]
   omega
  show(x^^^y).toNat+256 * leN (List.zipWith (· ^^^ ·) a b)=(x.toNat+256 * leN a)^^^(y.toNat+256 * leN b)
  rw[ih,e,e,e]
  apply Nat.eq_of_testBit_eq
  intro i
  simp only[Nat.testBit_or,Nat.testBit_xor,Nat.testBit_two_pow_mul,UInt8.toNat_xor]
  by_cases hi:8≤i
  ·have h8:∀u:UInt8,u.toNat.testBit i=false:=fun u=>Nat.testBit_lt_two_pow (Nat.lt_of_lt_of_le u.toNat_lt (Nat.pow_le_pow_right (by decide) hi))
   simp[hi,h8]
  ·simp[hi]
 |[],_ :: _,h=>by simp at h
 |_ :: _,[],h=>by simp at h
theorem leN_cons (x:UInt8) (l:List UInt8):leN (x :: l)=x.toNat+256 * leN l:=rfl
def xbl (blk:Nat→UInt8) (r j:Nat):Nat:=leN ((List.range 8).map fun t=>if 8 * j+t<r then blk (8 * j+t) else 0)
theorem xbl_lt (blk:Nat→UInt8) (r j:Nat):xbl blk r j<18446744073709551616:=by
 have h:=leN_lt ((List.range 8).map fun t=>if 8 * j+t<r then blk (8 * j+t) else 0)
 have e:(256:Nat) ^ ((List.range 8).map fun t=>if 8 * j+t<r then blk (8 * j+t) else 0).length=18446744073709551616:=by
  rw[List.length_map,List.length_range]
 rw[e] at h
 exact h
theorem xbl_congr {b1 b2:Nat→UInt8} (r j:Nat) (h:∀k,k<r→b1 k=b2 k):xbl b1 r j=xbl b2 r j:=by
 unfold xbl
 congr 1
 refine List.map_congr_left fun t _=>?_
 by_cases e:8 * j+t<r
 ·rw[if_pos e,if_pos e,h _ e]
 ·rw[if_neg e,if_neg e]
theorem stF_xor (f:Nat→Nat) (hf:∀i,f i<18446744073709551616) (p:List UInt8) (i r j:Nat) (hj:j<25):
  stF (xhP (bsP f 200) p i r) j=f j^^^xbl (fun k=>p.getD (i+k) 0) r j:=by
 have e1:((xhP (bsP f 200) p i r).drop (8 * j)).take 8=List.zipWith (· ^^^ ·) ((List.range 8).map (stB (f j))) ((List.range 8).map fun t=>if 8 * j+t<r then p.getD (i+(8 * j+t)) 0 else 0):=by
  refine List.ext_getElem (by simp[xhP_length];omega) fun t h1 h2=>?_
  have ht:t<8:=by simp at h1;omega
  have hk:8 * j+t<200:=by omega
  have e2:byF f (8 * j+t)=stB (f j) t:=by
   unfold byF
   rw[show(8 * j+t) / 8=j by omega,show(8 * j+t) % 8=t by omega]
  simp only[List.getElem_take,List.getElem_drop,xhP,List.getElem_map,List.getElem_range,List.getElem_zipWith]
  rw[bsP_get f 200 _ hk,e2]
  split
  ·rfl
  ·simp
 unfold stF
 have h8:f j<256 ^ 8:=hf j
 rw[e1,leN_xor _ _ (by simp),leN_stB,Nat.mod_eq_of_lt h8]
 rfl

def lasB (r:Nat) (s:UInt8) (l:List UInt8) (k:Nat):UInt8:=
 (if k<l.length % r then l.getD (l.length / r * r+k) 0 else if k=l.length % r then s else 0)^^^(if k=r - 1 then 128 else 0)
theorem zN_eq (r n:Nat) (hr:0<r):zN r n=r - 1 - n % r:=by
 unfold zN
 have h1:n % r<r:=Nat.mod_lt _ hr
 have h2:=Nat.div_add_mod n r
 have h3:n+1=r * (n / r)+(n % r+1):=by omega
 rw[h3,Nat.mul_add_mod]
 by_cases h:n % r+1=r
 ·rw[h,Nat.mod_self,Nat.sub_zero,Nat.mod_self]
  omega
 ·rw[Nat.mod_eq_of_lt (by omega:n % r+1<r),Nat.mod_eq_of_lt (by omega)]
  omega
theorem blN_eq (r:Nat) (l:List UInt8) (hr:0<r):blN r l=l.length / r+1:=by
 unfold blN
 rw[zN_eq r _ hr]
 have h1:l.length % r<r:=Nat.mod_lt _ hr
 have h2:=Nat.div_add_mod l.length r
 have h3:l.length+1+(r - 1 - l.length % r)=r * (l.length / r+1):=by rw[Nat.mul_add,Nat.mul_one];omega
 rw[h3,Nat.mul_div_cancel_left _ hr]
theorem pdP_get (s:UInt8) (l:List UInt8) (z k:Nat):(pdP s l z).getD k 0=if k<l.length then l.getD k 0 else if k=l.length then s else 0:=by
 unfold pdP
 by_cases h:k<l.length
 ·rw[if_pos h]
  simp[List.getElem?_append,h,show k<l.length+1 by omega]
 ·rw[if_neg h]
  by_cases h2:k=l.length
  ·subst h2
   simp[List.getElem?_append]
  ·rw[if_neg h2]
   have h3:¬k<l.length+1:=by omega
   obtain⟨d,hd⟩:∃d,k - l.length=d+1:=⟨k - l.length - 1,by omega⟩
   by_cases h4:d<z
   ·simp[List.getElem?_append,h,hd,List.getElem?_replicate,h4]
   ·simp[List.getElem?_append,h,hd,List.getElem?_replicate,h4]
theorem padL_get (r:Nat) (s:UInt8) (l:List UInt8) (k:Nat) (hk:k<l.length+1+zN r l.length):
  (padL r s l).getD k 0=(if k<l.length then l.getD k 0 else if k=l.length then s else 0)^^^(if k=l.length+zN r l.length then 128 else 0):=by
 unfold padL
 rw[←pdP_get s l (zN r l.length)]
 have hlen:=pdP_length s l (zN r l.length)
 by_cases e:k=l.length+zN r l.length
 ·rw[if_pos e,←e]
  have h1:k<(pdP s l (zN r l.length)).length:=by omega
  simp[List.getElem?_set,h1]
 ·rw[if_neg e]
  simp[List.getElem?_set,Ne.symm e]
theorem pad_full (r:Nat) (s:UInt8) (l:List UInt8) (hr:0<r) (b k:Nat) (hb:b<l.length / r) (hk:k<r):(padL r s l).getD (b * r+k) 0=l.getD (b * r+k) 0:=by
 have h1:(b+1) * r≤l.length / r * r:=Nat.mul_le_mul_right r hb
 have h2:=Nat.div_mul_le_self l.length r
 rw[Nat.add_mul,Nat.one_mul] at h1
 rw[padL_get r s l _ (by omega),if_pos (by omega),if_neg (by omega)]
 simp
theorem pad_last (r:Nat) (s:UInt8) (l:List UInt8) (hr:0<r) (k:Nat) (hk:k<r):(padL r s l).getD (l.length / r * r+k) 0=lasB r s l k:=by
 have h0:=Nat.div_add_mod l.length r
 rw[Nat.mul_comm] at h0
 have h1:l.length % r<r:=Nat.mod_lt _ hr
 have hz:=zN_eq r l.length hr
 rw[padL_get r s l _ (by omega)]
 unfold lasB
 have c1:(l.length / r * r+k<l.length)↔k<l.length % r:=by omega
 have c2:(l.length / r * r+k=l.length)↔k=l.length % r:=by omega
 have c3:(l.length / r * r+k=l.length+zN r l.length)↔k=r - 1:=by omega
 simp only[c1,c2,c3]
def tkF (f:Nat→Nat) (blk:Nat→UInt8) (r:Nat):Nat→Nat:=rdsF (fun j=>f j^^^xbl blk r j) 24
theorem abN_tk (r:Nat) (p:List UInt8) (b:Nat) (k:Nat) (hk:k<25):abN r p (b+1) k=tkF (abN r p b) (fun t=>p.getD (b * r+t) 0) r k:=by
 show rdsF (stF (xhP (bsP (abN r p b) 200) p (b * r) r)) 24 k=_
 have hlt:∀b k,abN r p b k<18446744073709551616:=by
  intro b
  cases b with
  |zero=>intro k;simp[abN]
  |succ b=>intro k;exact rdsF_lt _ (stF_lt _) 24 k
 exact rdsF_congr (fun j hj=>stF_xor _ (hlt b) p (b * r) r j hj) 24 k hk
theorem tkF_congr {f g:Nat→Nat} {b1 b2:Nat→UInt8} (r:Nat) (h:∀j,j<25→f j=g j) (hb:∀k,k<r→b1 k=b2 k) (k:Nat) (hk:k<25):tkF f b1 r k=tkF g b2 r k:=
 rdsF_congr (fun j hj=>by rw[h j hj,xbl_congr r j hb]) 24 k hk
def fuN (r:Nat) (l:List UInt8):Nat→Nat→Nat
 |0=>fun _=>0
 |b+1=>tkF (fuN r l b) (fun t=>l.getD (b * r+t) 0) r
theorem fuN_eq (r:Nat) (s:UInt8) (l:List UInt8) (hr:0<r):∀b,b≤l.length / r→∀k,k<25→abN r (padL r s l) b k=fuN r l b k
 |0,_,_,_=>rfl
 |b+1,hb,k,hk=>(abN_tk r _ b k hk).trans (tkF_congr r (fuN_eq r s l hr b (by omega)) (fun t ht=>pad_full r s l hr b t (by omega) ht) k hk)
theorem abs_eq (r:Nat) (s:UInt8) (l:List UInt8) (hr:0<r) (k:Nat) (hk:k<25):abN r (padL r s l) (blN r l) k=tkF (fuN r l (l.length / r)) (lasB r s l) r k:=by
 rw[blN_eq r l hr]
 exact(abN_tk r _ _ k hk).trans (tkF_congr r (fuN_eq r s l hr _ (Nat.le_refl _)) (fun t ht=>pad_last r s l hr t ht) k hk)
theorem fuN_lt (r:Nat) (l:List UInt8):∀b k,fuN r l b k<18446744073709551616
 |0,_=>by simp[fuN]
 |b+1,k=>rdsF_lt _ (fun j=>xor_lt64 (fuN_lt r l b j) (xbl_lt _ _ _)) 24 k

end Go.Proofs.YtpgjobpmafbigaaGreatDoor

namespace Go.Proofs.YtpgjobpmafbigaaGreatDoor
open Go.ChangeShapes Go.WideShapes Go.ChangeAt Go.RowKit
set_option linter.unusedSimpArgs false
set_option linter.unusedVariables false

def Ow (e:TypeId) (base:Nat) (v:Value) (l:List UInt8) (w:World):Prop:=w.ownsRow base e 1 v l.length (l.map bv)
theorem Ow.rd {e:TypeId} {base:Nat} {v:Value} {l:List UInt8} {w:World} (h:Ow e base v l w):Rd w v l:=Rd.of_row h
theorem Ow.of_new {e:TypeId} {v:Value} {l:List UInt8} {w w':World} (h:New e w v l w'):Ow e w.heap.size v l w':=h.1
theorem Ow.mono {e:TypeId} {base base':Nat} {v:Value} {l:List UInt8} {w:World} (h:Ow e base v l w) (hb:base'≤base):Ow e base' v l w:=own_mono h hb
theorem Ow.kept {e:TypeId} {base:Nat} {v:Value} {l:List UInt8} {w w':World} (h:Ow e base v l w) (hb:Below w.heap.size w w'):Ow e base v l w':=own_chg h (Chg.of_below (S:=fun _=>False) hb) (fun _ _=>id)
theorem Ow.nil (e:TypeId) (base:Nat) (w:World):Ow e base (.slice none 0 0) [] w:=World.ownsRow_nil _ _ _ _
theorem Ow.not_blk {e ty:TypeId} {base g:Nat} {v:Value} {l:List UInt8} {cs:List Value} {w:World} (h:Ow e base v l w) (hb:BlkAt g ty cs w) (hne:e≠ty):v.ownBlock≠some g:=by
 rcases h.2 with ⟨rfl,h0⟩|⟨g',cap,cur,rfl,hb',hg,hn,hm,hs,ht⟩
 ·simp[Value.ownBlock]
 ·intro h
  have h1:g'=g:=by simpa [Value.ownBlock] using h
  subst h1
  unfold BlkAt at hb
  rw[hg] at hb
  simp at hb
  exact hne hb.2
theorem Ow.chg {e ty:TypeId} {base g:Nat} {v:Value} {l:List UInt8} {cs:List Value} {w w':World} (h:Ow e base v l w) (hb:BlkAt g ty cs w) (hne:e≠ty) (c:Chg (fun b=>b=g) w w'):Ow e base v l w':=
 own_chg h c fun b h1 h2=>h.not_blk hb hne (by rw[h1,h2])
theorem Ow.other {e:TypeId} {base g:Nat} {v:Value} {l:List UInt8} {w w':World} (h:Ow e base v l w) (c:Chg (fun b=>b=g) w w') (hg:v.ownBlock≠some g):Ow e base v l w':=
 own_chg h c fun b h1 h2=>hg (by rw[h1,h2])
theorem Ow.lt {e:TypeId} {base:Nat} {v:Value} {l:List UInt8} {w:World} (h:Ow e base v l w) {g:Nat} (hg:v.ownBlock=some g):base≤g∧g<w.heap.size:=World.ownsRow.lt h g hg
def No8 (cs:List Value):Prop:=∀(j:Nat) (x:Int),cs[j]?≠some (.int .u8 x)
theorem Rd.past16 {w w':World} {v:Value} {l:List UInt8} {g:Nat} {ty:TypeId} {cs:List Value} (h:Rd w v l) (hb:BlkAt g ty cs w) (hn:No8 cs) (c:Chg (fun b=>b=g) w w'):Rd w' v l:=by
 obtain⟨a,k,e1,h2,h3,h4,h5⟩:=h
 refine⟨a,k,e1,h2,h3,h4,h5.imp id ?_⟩
 rintro⟨b,off,e2,hc⟩
 refine⟨b,off,e2,fun i hi=>?_⟩
 have h6:=hc i hi
 have hne:b≠g:=by
  rintro rfl
  rw[hb.cell] at h6
  exact hn _ _ h6
 rw[World.cell?_of_block (w:=w) (c.block b (World.block_lt_of_cell? _ _ h6) hne)]
 exact h6
theorem Chg.gone {g B:Nat} {a w w':World} (h:Below B a w) (c:Chg (fun b=>b=g) w w') (hB:B≤w.heap.size) (hg:B≤g):Below B a w':=c.below h hB fun k _ e=>by omega
theorem No8.of_slices {cs:List Value} (h:∀v∈cs,∀x,v≠ .int .u8 x):No8 cs:=fun j x e=>h _ (List.mem_of_getElem? e) x rfl
def stD (vc vh vk:Value) (n:Nat):List Value:=[vc,vh,vk,.int .u64 (n:Int)]
theorem stD_no8 (a1 a2 a3:Option Addr) (l1 c1 l2 c2 l3 c3 n:Nat):No8 (stD (.slice a1 l1 c1) (.slice a2 l2 c2) (.slice a3 l3 c3) n):=No8.of_slices (by
 intro v hv x
 simp only[stD,List.mem_cons,List.not_mem_nil,or_false] at hv
 rcases hv with rfl|rfl|rfl|rfl<;>simp)
end Go.Proofs.YtpgjobpmafbigaaGreatDoor

namespace Go.Proofs.YtpgjobpmafbigaaGreatDoor
set_option linter.unusedSimpArgs false
set_option linter.unusedVariables false

def nmC (c:UInt8):Bool:=(48≤c.toNat&&c.toNat≤57)||(97≤c.toNat&&c.toNat≤122)||(65≤c.toNat&&c.toNat≤90)
def nmB (s:List UInt8):Bool:=1≤s.length&&s.length≤32&&s.all nmC
def tfT:List UInt8→List UInt8
 |[]=>[]
 |x :: t=>if x=32 then tfT t else x :: t
def teT (s:List UInt8):List UInt8:=(tfT s.reverse).reverse
def tmT (s:List UInt8):List UInt8:=teT (tfT s)
def splL (c:UInt8):List UInt8→List (List UInt8)
 |[]=>[[]]
 |x :: t=>if x=c then [] :: splL c t else match splL c t with
  |[]=>[[x]]
  |p :: ps=>(x :: p) :: ps
theorem splL_cons (c x:UInt8) (h:x≠c) (t:List UInt8) (p:List UInt8) (ps:List (List UInt8)) (e:splL c t=p :: ps):splL c (x :: t)=(x :: p) :: ps:=by
 unfold splL
 rw[if_neg h,e]
theorem splL_len (c:UInt8):∀(s p:List UInt8),p∈splL c s→p.length≤s.length
 |[],p,h=>by
  simp[splL] at h
  subst h
  simp
 |x :: t,p,h=>by
  have ih:=splL_len c t
  unfold splL at h
  split at h
  ·rcases List.mem_cons.1 h with rfl|h
   ·simp
   ·have:=ih p h
    simp
    omega
  ·split at h
   ·simp at h
    subst h
    simp
   ·rename_i q qs e
    rcases List.mem_cons.1 h with rfl|h
    ·have:=ih q (by rw[e];simp)
     simp
     omega
    ·have:=ih p (by rw[e];simp[h])
     simp
     omega
theorem splL_count (c:UInt8):∀s:List UInt8,(splL c s).length≤s.length+1
 |[]=>by simp[splL]
 |x :: t=>by
  have ih:=splL_count c t
  unfold splL
  split
  ·simp
   omega
  ·split
   ·simp
   ·rename_i q qs e
    rw[e] at ih
    simp at ih ⊢
    omega
end Go.Proofs.YtpgjobpmafbigaaGreatDoor

namespace Go.Proofs.YtpgjobpmafbigaaGreatDoor
open Go.ChangeShapes Go.WideShapes Go.ChangeAt Go.RowKit
set_option linter.unusedSimpArgs false
set_option linter.unusedVariables false

theorem own_chgG {S:Nat→Prop} {w w':World} {base sz:Nat} {e:TypeId} {v:Value} {n:Nat} {xs:List Value} (h:w.ownsRow base e sz v n xs) (c:Chg S w w') (hS:∀g,v.ownBlock=some g→¬S g):w'.ownsRow base e sz v n xs:=by
 refine⟨h.1,h.2.imp id ?_⟩
 rintro⟨g,cap,cur,rfl,h2,h3,h4⟩
 refine⟨g,cap,cur,rfl,h2,?_,h4⟩
 rw[c.block g (Array.getElem?_eq_some_iff.1 h3).1 (hS g rfl),h3]
theorem own_monoG {w:World} {base base' sz:Nat} {e:TypeId} {v:Value} {n:Nat} {xs:List Value} (h:w.ownsRow base e sz v n xs) (hb:base'≤base):w.ownsRow base' e sz v n xs:=by
 refine⟨h.1,h.2.imp id ?_⟩
 rintro⟨g,cap,cur,rfl,h2,h3⟩
 exact⟨g,cap,cur,rfl,Nat.le_trans hb h2,h3⟩
theorem own_keptG {w w':World} {base sz:Nat} {e:TypeId} {v:Value} {n:Nat} {xs:List Value} (h:w.ownsRow base e sz v n xs) (hb:Below w.heap.size w w'):w'.ownsRow base e sz v n xs:=
 own_chgG h (Chg.of_below (S:=fun _=>False) hb) fun _ _=>id
theorem append_nearG {P:Program} (wr:World) (base:Nat) (t ty e:TypeId) (i:TypeInfo) (z:Value) (size bytes:Nat) (ht:P.underlying t=some (.slice e)) (hi:P.info? e=some i) (hz:i.zero=some z) (hsize:i.size=size) (hby:i.bytes=bytes)
  (v:Value) (n:Nat) (xs:List Value) (hown:wr.ownsRow base e size v n xs) (ad:Addr) (m c:Nat) (news:List Value) (hl:news.length=m * size) (hnews:∀j u,news[j]?=some u→wr.cell? (ad.add j)=some u) (h1:∀u∈news,u.oneCell'=true)
  (h63:n+m≤maxLen) (hbytes:(n+m) * bytes≤140737488355328) (v':Value) (w':World) (hr:(Builtin.append_ #[t,t] ty #[v,.slice (some ad) m c]).run P wr=.ok v' w') (hnil:v'=.slice none 0 0↔v=.slice none 0 0∧m=0):Near wr v v':=by
 subst hsize hby
 have hsmall:n+m≤9223372036854775807:=by simp only[maxLen] at h63;omega
 rcases hown.2 with ⟨rfl,h0⟩|⟨g,cap,cur,rfl,hb,hg,hn,hm,hss,htk⟩
 ·subst h0
  by_cases hm0:m=0
  ·left
   rw[hnil.2 ⟨rfl,hm0⟩]
  ·right
   have:=run_append_nil (P:=P) wr t ty e i _ ht hi hz ad m c news hl hnews (by omega) (by omega) (by rw[Nat.zero_add] at hbytes;omega)
   rw[this] at hr
   simp only[Result.ok.injEq] at hr
   intro g hg
   rw[←hr.1] at hg
   simp only[Value.ownBlock,Option.some.injEq] at hg
   omega
 ·by_cases hroom:n+m≤cap
  ·left
   have hfit:n * i.size+news.length≤cur.size:=by rw[hl,hss,←Nat.add_mul];exact Nat.mul_le_mul_right _ hroom
   have:=run_append_room (P:=P) wr t ty e i ht hi g n cap cur hg ad m c news hl hnews h1 hroom hfit
   rw[this] at hr
   simp only[Result.ok.injEq] at hr
   rw[←hr.1]
   rfl
  ·right
   have:=run_append_grow (P:=P) wr t ty e i _ ht hi hz ⟨g,0,none⟩ n cap xs hown.1 (fun j u hj=>hown.cells rfl j u hj) ad m c news hl hnews (by omega) (by omega) (growslice_fits (by omega) hbytes)
   rw[this] at hr
   simp only[Result.ok.injEq] at hr
   intro g' hg'
   rw[←hr.1] at hg'
   simp only[Value.ownBlock,Option.some.injEq] at hg'
   omega
structure Rw where
 ty:TypeId
 sz:Nat
 v:Value
 n:Nat
 xs:List Value
def Rw.by (e:TypeId) (v:Value) (l:List UInt8):Rw:=⟨e,1,v,l.length,l.map bv⟩
structure OwnG (w0:World) (L:List Rw) (w:World):Prop where
 rows:∀p∈L,w.ownsRow w0.heap.size p.ty p.sz p.v p.n p.xs
 apart:L.Pairwise fun p q=>Apart p.v q.v
 below:Below w0.heap.size w0 w
theorem OwnG.start (w0:World):OwnG w0 [] w0:=⟨(fun p hp=>by cases hp),.nil,Below.refl _ _⟩
theorem OwnG.since {w0 w:World} (h:Below w0.heap.size w0 w):OwnG w0 [] w:=⟨(fun p hp=>by cases hp),.nil,h⟩
theorem OwnG.kept {w0 w w':World} {L:List Rw} (h:OwnG w0 L w) (hb:Below w.heap.size w w'):OwnG w0 L w':=
 ⟨fun p hp=>own_keptG (h.rows p hp) hb,h.apart,stepB h.below hb⟩
theorem OwnG.drew {w0 w:World} {L:List Rw} (h:OwnG w0 L w):OwnG w0 L w.drew:=h.kept (Below.refl _ _).drew
theorem OwnG.perm {w0 w:World} {L L':List Rw} (h:OwnG w0 L w) (hp:L'.Perm L):OwnG w0 L' w:=
 ⟨fun p hp'=>h.rows p (hp.subset hp'),(hp.pairwise_iff (fun h=>h.symm)).2 h.apart,h.below⟩
theorem OwnG.tail {w0 w:World} {p:Rw} {L:List Rw} (h:OwnG w0 (p :: L) w):OwnG w0 L w:=
 ⟨fun q hq=>h.rows q (List.mem_cons_of_mem _ hq),(List.pairwise_cons.1 h.apart).2,h.below⟩
theorem OwnG.swap {w0 w:World} {p q:Rw} {L:List Rw} (h:OwnG w0 (p :: q :: L) w):OwnG w0 (q :: p :: L) w:=h.perm (List.Perm.swap ..)
theorem OwnG.third {w0 w:World} {p q r:Rw} {L:List Rw} (h:OwnG w0 (p :: q :: r :: L) w):OwnG w0 (r :: p :: q :: L) w:=
 h.perm ((List.Perm.swap p r (q :: L)).trans (List.Perm.cons p (List.Perm.swap q r L)))
theorem OwnG.rd {w0 w:World} {e:TypeId} {v:Value} {l:List UInt8} {L:List Rw} (h:OwnG w0 L w) (hp:Rw.by e v l∈L):Rd w v l:=Rd.of_row (h.rows _ hp)
theorem OwnG.rd0 {w0 w:World} {e:TypeId} {v:Value} {l:List UInt8} {L:List Rw} (h:OwnG w0 (Rw.by e v l :: L) w):Rd w v l:=h.rd (List.mem_cons_self ..)
theorem OwnG.nil {w0 w:World} (ty:TypeId) (sz:Nat) {L:List Rw} (h:OwnG w0 L w):OwnG w0 (⟨ty,sz,.slice none 0 0,0,[]⟩ :: L) w:=
 ⟨fun p hp=>by
  rcases List.mem_cons.1 hp with rfl|hp
  ·exact World.ownsRow_nil _ _ _ _
  ·exact h.rows p hp,List.pairwise_cons.2 ⟨fun q _=>Apart.nil _,h.apart⟩,h.below⟩
theorem OwnG.fresh {w0 w w':World} {p:Rw} {L:List Rw} (h:OwnG w0 L w) (hN:w'.ownsRow w.heap.size p.ty p.sz p.v p.n p.xs) (hb:Below w.heap.size w w'):OwnG w0 (p :: L) w':=by
 have hk:=h.kept hb
 refine⟨fun q hq=>?_,List.pairwise_cons.2 ⟨fun q hq=>?_,h.apart⟩,hk.below⟩
 ·rcases List.mem_cons.1 hq with rfl|hq
  ·exact own_monoG hN h.below.size
  ·exact hk.rows q hq
 ·refine Apart.symm (Apart.lt (B:=w.heap.size) (fun g hg=>((h.rows q hq).lt g hg).2) fun g hg=>(hN.lt g hg).1)
theorem OwnG.new {w0 w w':World} {e:TypeId} {v:Value} {l:List UInt8} {L:List Rw} (h:OwnG w0 L w) (hN:New e w v l w'):OwnG w0 (Rw.by e v l :: L) w':=h.fresh hN.1 hN.2
theorem OwnG.toNew {w0 w:World} {e:TypeId} {v:Value} {l:List UInt8} {L:List Rw} (h:OwnG w0 (Rw.by e v l :: L) w):New e w0 v l w:=⟨h.rows _ (List.mem_cons_self ..),h.below⟩
theorem OwnG.wrote {w0 w w':World} {g:Nat} {L:List Rw} (h:OwnG w0 L w) (hw:Wrote g w w') (hg:w0.heap.size≤g) (hn:∀p∈L,∀b,p.v.ownBlock=some b→b≠g):OwnG w0 L w':=
 ⟨fun p hp=>own_chgG (h.rows p hp) (Chg.of_wrote hw) fun b hb e=>hn p hp b hb e,h.apart,hw.below _ _ hg h.below⟩
theorem OwnG.lt {w0 w:World} {L:List Rw} (h:OwnG w0 L w):∀p∈L,∀b,p.v.ownBlock=some b→b<w.heap.size:=fun p hp b hb=>((h.rows p hp).lt b hb).2
theorem OwnG.from {w0 w1 w:World} {L:List Rw} (h:OwnG w1 L w) (hb:Below w0.heap.size w0 w1):OwnG w0 L w:=
 ⟨fun p hp=>own_monoG (h.rows p hp) hb.size,h.apart,hb.trans (h.below.mono hb.size)⟩
theorem OwnG.grown {w0 wr w':World} {p p':Rw} {L:List Rw} (h:OwnG w0 (p :: L) wr) (h1:w'.ownsRow w0.heap.size p'.ty p'.sz p'.v p'.n p'.xs) (hg:wr.grownBy w' p.v.ownBlock) (hn:Near wr p.v p'.v):OwnG w0 (p' :: L) w':=by
 have hp:=List.pairwise_cons.1 h.apart
 have hv:=h.rows p (List.mem_cons_self ..)
 refine⟨fun q hq=>?_,List.pairwise_cons.2 ⟨fun q hq=>?_,hp.2⟩,h.below.grown hg h.below.size fun k hk=>(hv.lt k hk).1⟩
 ·rcases List.mem_cons.1 hq with rfl|hq
  ·exact h1
  ·exact own_chgG (h.rows q (List.mem_cons_of_mem _ hq)) (Chg.of_grown hg) fun g hg' e=>hp.1 q hq g e.symm hg'
 ·exact Apart.near hn (hp.1 q hq) fun g hg'=>((h.rows q (List.mem_cons_of_mem _ hq)).lt g hg').2
theorem wp_append_E {P:Program} {w0 wr:World} {L:List Rw} {o:Oper} {a:Act} {K:Act→World→Prop} {Q:Exit→Act→World→Prop} (s x:Operand) (t:TypeId)
  (ho:o.op=.call {callee:=.builtin .append,args:=#[s,x],argTypes:=#[t,t]}) (e:TypeId) (i:TypeInfo) (z:Value) (size bytes:Nat) (ht:P.underlying t=some (.slice e)) (hi:P.info? e=some i) (hz:i.zero=some z)
  (hsize:i.size=size) (hby:i.bytes=bytes) (hzs:z.cells.size=size) (hsz:0<size) (v:Value) (n:Nat) (xs:List Value) (hs:a.eval s=v) (hO:OwnG w0 (⟨e,size,v,n,xs⟩ :: L) wr)
  (ad:Addr) (m c:Nat) (news:List Value) (hx:a.eval x=.slice (some ad) m c) (hl:news.length=m * size) (hnews:∀j u,news[j]?=some u→wr.cell? (ad.add j)=some u) (h1:∀u∈news,u.oneCell'=true)
  (h63:n+m≤maxLen) (hbytes:(n+m) * bytes≤140737488355328)
  (h:∀v' w',OwnG w0 (⟨e,size,v',n+m,xs++news⟩ :: L) w'→Chg (fun b=>some b=v.ownBlock) wr w'→K (a.put o.dst v') w'):o.wp P a wr K Q:=by
 have hown:=hO.rows _ (List.mem_cons_self ..)
 obtain⟨v',w',hr,r2,r3,r4⟩:=run_append_own (P:=P) wr w0.heap.size t o.type e i z size bytes ht hi hz hsize hby hzs hsz v n xs hown ad m c news hl hnews h1 h63 hbytes hO.below.size
 have hnear:=append_nearG wr w0.heap.size t o.type e i z size bytes ht hi hz hsize hby v n xs hown ad m c news hl hnews h1 h63 hbytes v' w' hr r4
 unfold Oper.wp execOp
 simp only[ho,resolve,invoke,builtin,Sem.run_bind,Sem.run_pure,Result.andThen_ok,List.map_toArray,List.map_cons,List.map_nil,hs,hx,hr]
 exact h v' w' (hO.grown (p':=⟨e,size,v',n+m,xs++news⟩) r2 r3 hnear) (Chg.of_grown r3)
theorem wpList_append_E {P:Program} {w0 wr:World} {L:List Rw} {ops:Array Oper} {rest:List Oper} {o:Oper} {a:Act} {Q:Exit→Act→World→Prop} (hg:o.guard=none) (s x:Operand) (t:TypeId)
  (ho:o.op=.call {callee:=.builtin .append,args:=#[s,x],argTypes:=#[t,t]}) (e:TypeId) (i:TypeInfo) (z:Value) (size bytes:Nat) (ht:P.underlying t=some (.slice e)) (hi:P.info? e=some i) (hz:i.zero=some z)
  (hsize:i.size=size) (hby:i.bytes=bytes) (hzs:z.cells.size=size) (hsz:0<size) (v:Value) (n:Nat) (xs:List Value) (hs:a.eval s=v) (hO:OwnG w0 (⟨e,size,v,n,xs⟩ :: L) wr)
  (ad:Addr) (m c:Nat) (news:List Value) (hx:a.eval x=.slice (some ad) m c) (hl:news.length=m * size) (hnews:∀j u,news[j]?=some u→wr.cell? (ad.add j)=some u) (h1:∀u∈news,u.oneCell'=true)
  (h63:n+m≤maxLen) (hbytes:(n+m) * bytes≤140737488355328)
  (h:∀v' w',OwnG w0 (⟨e,size,v',n+m,xs++news⟩ :: L) w'→Chg (fun b=>some b=v.ownBlock) wr w'→wpList P ops Q rest (a.put o.dst v') w'):wpList P ops Q (o :: rest) a wr:=
 wpList_plain hg fun _ hK=>wp_append_E s x t ho e i z size bytes ht hi hz hsize hby hzs hsz v n xs hs hO ad m c news hx hl hnews h1 h63 hbytes fun v' w' h1 h2=>hK _ _ (h v' w' h1 h2)
def RdC (w:World) (v:Value) (xs:List Value):Prop:=
 ∃a cap,v=.slice a xs.length cap∧xs.length≤cap∧cap≤maxLen∧(a=none→cap=0)∧(xs=[]∨∃b off,a=some ⟨b,off,none⟩∧∀i,i<xs.length→w.cell? ⟨b,off+i,none⟩=xs[i]?)
theorem RdC.nil (w:World):RdC w (.slice none 0 0) []:=⟨none,0,rfl,Nat.le_refl _,by simp[maxLen],fun _=>rfl,.inl rfl⟩
theorem RdC.kept {w w':World} {v:Value} {xs:List Value} (h:RdC w v xs) (hb:Below w.heap.size w w'):RdC w' v xs:=by
 obtain⟨a,c,e1,h2,h3,h4,h5⟩:=h
 refine⟨a,c,e1,h2,h3,h4,h5.imp id ?_⟩
 rintro⟨b,off,e2,hc⟩
 refine⟨b,off,e2,fun i hi=>?_⟩
 have h6:=hc i hi
 have h7:xs[i]?=some xs[i]:=by simp[hi]
 rw[h7] at h6
 rw[hb.cell (World.block_lt_of_cell? _ _ h6),h6,h7]
theorem RdC.drew {w:World} {v:Value} {xs:List Value} (h:RdC w v xs):RdC w.drew v xs:=h.kept (Below.refl _ _).drew
theorem RdC.cellAt {w:World} {v:Value} {xs:List Value} (h:RdC w v xs) {i:Nat} (hi:i<xs.length):∃b off cap,v=.slice (some ⟨b,off,none⟩) xs.length cap∧xs.length≤cap∧cap≤maxLen∧w.cell? ⟨b,off+i,none⟩=some xs[i]:=by
 obtain⟨a,c,e1,h2,h3,h4,h5⟩:=h
 rcases h5 with h|⟨b,off,e2,hc⟩
 ·rw[h] at hi
  cases hi
 ·refine⟨b,off,c,by rw[e1,e2],h2,h3,?_⟩
  rw[hc i hi]
  simp[hi]
theorem RdC.of_own {w:World} {base:Nat} {e:TypeId} {v:Value} {n:Nat} {xs:List Value} (h:w.ownsRow base e 1 v n xs):RdC w v xs:=by
 have hn:xs.length=n:=by simpa using h.1
 subst hn
 rcases h.2 with ⟨rfl,h0⟩|⟨g,cap,cur,hv,hb,hg,hle,hm,hss,htk⟩
 ·have:xs=[]:=List.eq_nil_of_length_eq_zero h0
  subst this
  exact RdC.nil w
 ·refine⟨some ⟨g,0,none⟩,cap,hv,hle,hm,(fun e=>by cases e),?_⟩
  by_cases h0:xs=[]
  ·exact .inl h0
  ·right
   refine⟨g,0,rfl,fun i hi=>?_⟩
   have h7:xs[i]?=some xs[i]:=by simp[hi]
   have:=h.cells (by rw[hv];rfl) i xs[i] h7
   have hp:(⟨g,0,none⟩:Addr).add i=⟨g,0+i,none⟩:=by unfold Addr.add;split<;>simp_all
   rw[h7,←hp]
   exact this
theorem OwnG.rdC {w0 w:World} {p:Rw} {L:List Rw} (h:OwnG w0 (p :: L) w) (hs:p.sz=1):RdC w p.v p.xs:=by
 have:=h.rows p (List.mem_cons_self ..)
 rw[hs] at this
 exact RdC.of_own this
theorem RdC.lit {w:World} {e:TypeId} (xs:List Value) {cs:Array Value} {n b:Nat} (h:cs=xs.toArray) (hn:n=xs.length) (hb:b=w.heap.size) (hm:xs.length≤maxLen):RdC (w.alloc (.cells cs e)) (.slice (some ⟨b,0,none⟩) n n) xs:=by
 subst h hn hb
 refine⟨_,_,rfl,Nat.le_refl _,hm,(fun h=>by cases h),?_⟩
 right
 refine⟨_,0,rfl,fun i hi=>?_⟩
 have hh:(w.alloc (.cells xs.toArray e)).heap[w.heap.size]?=some (.cells xs.toArray e):=by
  show(w.heap.push _)[w.heap.size]?=_
  simp
 unfold World.cell?
 rw[hh]
 simp[hi]
structure Ptn where
 name:List UInt8
 ki:Bool
 kr:Bool
 ms:List (Bool×List Int)
def Ptn.tk (p:Ptn) (m:Nat):List Int:=(p.ms.getD m (false,[])).2
def Ptn.ini (p:Ptn) (m:Nat):Bool:=(p.ms.getD m (false,[])).1
def Ptn.n (p:Ptn):Nat:=p.ms.length
def tkB (x:Int):Bool:=decide (1≤x)&&decide (x≤10)
def wrM (t:List Int):Bool:=decide (1≤t.length)&&decide (t.length≤12)&&t.all tkB
def wrB (p:Ptn):Bool:=nmB p.name&&decide (1≤p.n)&&decide (p.n≤8)&&p.ms.all fun m=>wrM m.2
theorem wr_false {p:Ptn} {k:Nat} (hk:k<p.n) (h:wrM (p.tk k)=false):wrB p=false:=by
 have h2:(p.ms.all fun m=>wrM m.2)=false:=by
  rw[List.all_eq_false]
  have hk2:k<p.ms.length:=hk
  refine⟨p.ms[k]'hk2,List.getElem_mem hk2,?_⟩
  have e:p.tk k=(p.ms[k]'hk2).2:=by
   unfold Ptn.tk
   simp[hk2]
  rw[←e,h]
  simp
 unfold wrB
 rw[h2,Bool.and_false]
theorem wrM_false {t:List Int} {j:Nat} (hj:j<t.length) (h:tkB (t.getD j 0)=false):wrM t=false:=by
 have h2:t.all tkB=false:=by
  rw[List.all_eq_false]
  refine⟨t.getD j 0,?_,by rw[h];simp⟩
  simp[hj]
 unfold wrM
 rw[h2,Bool.and_false]
structure PtR (w:World) (p:Ptn) (vi vl:Value):Prop where
 inits:RdC w vi (p.ms.map fun m=>Value.bool m.1)
 rows:∃vs:List Value,RdC w vl vs∧vs.length=p.n∧∀k (h:k<vs.length),RdI .i64 w vs[k] (p.tk k)
theorem PtR.kept {w w':World} {p:Ptn} {vi vl:Value} (h:PtR w p vi vl) (hb:Below w.heap.size w w'):PtR w' p vi vl:=by
 obtain⟨vs,h1,h2,h3⟩:=h.rows
 exact⟨h.inits.kept hb,vs,h1.kept hb,h2,fun k hk=>(h3 k hk).kept hb⟩
theorem PtR.len {w:World} {p:Ptn} {vi vl:Value} (h:PtR w p vi vl):∃a c,vl=.slice a p.n c∧p.n≤c∧c≤maxLen:=by
 obtain⟨vs,⟨a,c,e,h2,h3, -⟩,hl, -⟩:=h.rows
 rw[hl] at e h2
 exact⟨a,c,e,h2,h3⟩
theorem PtR.row {w:World} {p:Ptn} {vi:Value} {a:Option Addr} {n c:Nat} (h:PtR w p vi (.slice a n c)) {m:Nat} (hm:m<p.n):∃g o vr,a=some ⟨g,o,none⟩∧w.cell? ⟨g,o+m,none⟩=some vr∧RdI .i64 w vr (p.tk m):=by
 obtain⟨vs,h1,hl,h3⟩:=h.rows
 have hm2:m<vs.length:=by rw[hl];exact hm
 obtain⟨g,o,c',ev, -, -,hc⟩:=h1.cellAt hm2
 simp only[Value.slice.injEq] at ev
 obtain⟨rfl, -, -⟩:=ev
 exact⟨g,o,_,rfl,hc,h3 m hm2⟩
theorem PtR.who {w:World} {p:Ptn} {vl:Value} {a:Option Addr} {n c:Nat} (h:PtR w p (.slice a n c) vl) {m:Nat} (hm:m<p.n):∃g o,a=some ⟨g,o,none⟩∧w.cell? ⟨g,o+m,none⟩=some (.bool (p.ini m)):=by
 have hm2:m<(p.ms.map fun m=>Value.bool m.1).length:=by rw[List.length_map];exact hm
 obtain⟨g,o,c',ev, -, -,hc⟩:=h.inits.cellAt hm2
 simp only[Value.slice.injEq] at ev
 obtain⟨rfl, -, -⟩:=ev
 refine⟨g,o,rfl,?_⟩
 rw[hc]
 have:m<p.ms.length:=hm
 simp[Ptn.ini,this]
end Go.Proofs.YtpgjobpmafbigaaGreatDoor

namespace Go.Proofs.YtpgjobpmafbigaaGreatDoor
set_option linter.unusedSimpArgs false
set_option linter.unusedVariables false

structure PtS (p:Ptn):Prop where
 n:p.n≤8
 one:1≤p.n
 t:∀i,i<p.n→(p.tk i).length≤12
 x:∀i,i<p.n→∀j,j<(p.tk i).length→1≤(p.tk i).getD j 0∧(p.tk i).getD j 0≤10
theorem PtS.of {p:Ptn} (h:wrB p=true):PtS p:=by
 unfold wrB at h
 simp only[Bool.and_eq_true,decide_eq_true_eq] at h
 have hm:∀i,i<p.n→wrM (p.tk i)=true:=fun i hi=>by
  have h2:=List.all_eq_true.1 h.2
  have hi2:i<p.ms.length:=hi
  have:=h2 (p.ms[i]'hi2) (List.getElem_mem hi2)
  unfold Ptn.tk
  simpa [hi2] using this
 refine⟨h.1.2,h.1.1.2,fun i hi=>?_,fun i hi j hj=>?_⟩
 ·have:=hm i hi
  unfold wrM at this
  simp only[Bool.and_eq_true,decide_eq_true_eq] at this
  exact this.1.2
 ·have:=hm i hi
  unfold wrM at this
  simp only[Bool.and_eq_true,decide_eq_true_eq] at this
  have h3:=List.all_eq_true.1 this.2 ((p.tk i).getD j 0) (by simp[hj])
  unfold tkB at h3
  simpa using h3
def wdL:List (List UInt8):=[[],[101],[115],[101,101],[101,115],[115,101],[115,115],[112,115,107],[101,49],[101,107,101,109],[115,107,101,109]]
end Go.Proofs.YtpgjobpmafbigaaGreatDoor

namespace Go.Proofs.YtpgjobpmafbigaaGreatDoor
open Go.ChangeShapes Go.WideShapes Go.ChangeAt Go.RowKit
set_option linter.unusedSimpArgs false
set_option linter.unusedVariables false

structure MsR (w:World) (v:Value) (p:Ptn):Prop where
 form:∃a cap,v=.slice a p.n cap∧p.n≤cap∧cap≤maxLen∧(p.n=0∨∃b off,a=some ⟨b,off,none⟩∧∀k,k<p.n→∃vt,w.cell? ⟨b,off+2 * k,none⟩=some (.bool (p.ini k))∧w.cell? ⟨b,off+(2 * k+1),none⟩=some vt∧RdI .i64 w vt (p.tk k))
theorem MsR.kept {w w':World} {v:Value} {p:Ptn} (h:MsR w v p) (hb:Below w.heap.size w w'):MsR w' v p:=by
 obtain⟨a,cap,e,h1,h2,h3⟩:=h.form
 refine⟨a,cap,e,h1,h2,h3.imp id ?_⟩
 rintro⟨b,off,e2,hc⟩
 refine⟨b,off,e2,fun k hk=>?_⟩
 obtain⟨vt,c1,c2,c3⟩:=hc k hk
 refine⟨vt,?_,?_,c3.kept hb⟩
 ·rw[hb.cell (World.block_lt_of_cell? _ _ c1)]
  exact c1
 ·rw[hb.cell (World.block_lt_of_cell? _ _ c2)]
  exact c2
def paC (p:Ptn) (vm:Value):List Value:=[.string ⟨p.name.toArray⟩,.bool p.ki,.bool p.kr,vm]
def KyR (w:World) (v:Value) (ks:List (Bool×Int)):Prop:=
 ∃a cap,v=.slice a ks.length cap∧ks.length≤cap∧cap≤maxLen∧(ks=[]∨∃b off,a=some ⟨b,off,none⟩∧∀k (h:k<ks.length),w.cell? ⟨b,off+2 * k,none⟩=some (.bool ks[k].1)∧w.cell? ⟨b,off+(2 * k+1),none⟩=some (.int .i64 ks[k].2))
theorem KyR.kept {w w':World} {v:Value} {ks:List (Bool×Int)} (h:KyR w v ks) (hb:Below w.heap.size w w'):KyR w' v ks:=by
 obtain⟨a,cap,e,h1,h2,h3⟩:=h
 refine⟨a,cap,e,h1,h2,h3.imp id ?_⟩
 rintro⟨b,off,e2,hc⟩
 refine⟨b,off,e2,fun k hk=>?_⟩
 obtain⟨c1,c2⟩:=hc k hk
 refine⟨?_,?_⟩
 ·rw[hb.cell (World.block_lt_of_cell? _ _ c1)]
  exact c1
 ·rw[hb.cell (World.block_lt_of_cell? _ _ c2)]
  exact c2
theorem paInfo (p:Ptn) (vm:Value):(Tryz.prog.info? 25).map (·.size)=some (paC p vm).length:=by
 show _=some 4
 kernel_rfl

theorem str_size (l:List UInt8):ByteArray.size ⟨l.toArray⟩=l.length:=by
 show l.toArray.size=l.length
 simp

def lenOf:Value→Nat
 | .slice _ n _=>n
 |_=>0
end Go.Proofs.YtpgjobpmafbigaaGreatDoor

namespace Go.Proofs
open Go.Shelf
def Tryz.lays162_ren:Go.Shelf.Ren:=⟨fun|162=>129|232=>138|227=>139|234=>141|236=>143|228=>217|271=>220|151=>219|120=>297|197=>218|152=>296|260=>295|137=>346|119=>347|224=>344|225=>343|217=>342|266=>372|n=>n,fun|9=>9|4=>4|3=>3|5=>5|117=>183|116=>182|0=>0|124=>186|21=>21|105=>260|46=>292|119=>344|139=>347|138=>346|n=>n,fun|3=>4|4=>5|n=>n⟩
theorem Tryz.lays162:Go.Proofs.Lays.n162 Tryz.prog Tryz.lays162_ren:={
 mixed:=by kernel_rfl
 f119:=Tryz.func347.trans (congrArg some (by kernel_rfl))
 f120:=Tryz.func297.trans (congrArg some (by kernel_rfl))
 f137:=Tryz.func346.trans (congrArg some (by kernel_rfl))
 f151:=Tryz.func219.trans (congrArg some (by kernel_rfl))
 f152:=Tryz.func296.trans (congrArg some (by kernel_rfl))
 f162:=Tryz.func129.trans (congrArg some (by kernel_rfl))
 f197:=Tryz.func218.trans (congrArg some (by kernel_rfl))
 f217:=Tryz.func342.trans (congrArg some (by kernel_rfl))
 f224:=Tryz.func344.trans (congrArg some (by kernel_rfl))
 f225:=Tryz.func343.trans (congrArg some (by kernel_rfl))
 f227:=Tryz.func139.trans (congrArg some (by kernel_rfl))
 f228:=Tryz.func217.trans (congrArg some (by kernel_rfl))
 f232:=Tryz.func138.trans (congrArg some (by kernel_rfl))
 f234:=Tryz.func141.trans (congrArg some (by kernel_rfl))
 f236:=Tryz.func143.trans (congrArg some (by kernel_rfl))
 f260:=Tryz.func295.trans (congrArg some (by kernel_rfl))
 f266:=Tryz.func372.trans (congrArg some (by kernel_rfl))
 f271:=Tryz.func220.trans (congrArg some (by kernel_rfl))
 t0:=Tryz.underlying0
 a0:=Tryz.isAgg0
 z0:=Tryz.sizeOf0
 v0:=Tryz.zeroValue0
 t3:=Tryz.underlying3
 a3:=Tryz.isAgg3
 z3:=Tryz.sizeOf3
 v3:=Tryz.zeroValue3
 t4:=Tryz.underlying4
 a4:=Tryz.isAgg4
 z4:=Tryz.sizeOf4
 v4:=Tryz.zeroValue4
 t5:=Tryz.underlying5
 a5:=Tryz.isAgg5
 z5:=Tryz.sizeOf5
 v5:=Tryz.zeroValue5
 t9:=Tryz.underlying9
 a9:=Tryz.isAgg9
 z9:=Tryz.sizeOf9
 v9:=Tryz.zeroValue9
 t21:=Tryz.underlying21
 a21:=Tryz.isAgg21
 z21:=Tryz.sizeOf21
 v21:=Tryz.zeroValue21
 t46:=Tryz.underlying292
 a46:=Tryz.isAgg292
 z46:=Tryz.sizeOf292
 v46:=Tryz.zeroValue292
 t105:=Tryz.underlying260
 a105:=Tryz.isAgg260
 z105:=Tryz.sizeOf260
 v105:=Tryz.zeroValue260
 t116:=Tryz.underlying182
 a116:=Tryz.isAgg182
 z116:=Tryz.sizeOf182
 t117:=Tryz.underlying183
 a117:=Tryz.isAgg183
 z117:=Tryz.sizeOf183
 v117:=Tryz.zeroValue183
 t119:=Tryz.underlying344
 a119:=Tryz.isAgg344
 z119:=Tryz.sizeOf344
 t124:=Tryz.underlying186
 a124:=Tryz.isAgg186
 z124:=Tryz.sizeOf186
 v124:=Tryz.zeroValue186
 t138:=Tryz.underlying346
 a138:=Tryz.isAgg346
 z138:=Tryz.sizeOf346
 v138:=Tryz.zeroValue346
 t139:=Tryz.underlying347
 a139:=Tryz.isAgg347
 z139:=Tryz.sizeOf347
 v139:=Tryz.zeroValue347
 g3:=by kernel_rfl
 g4:=by kernel_rfl}
open Go.RowKit in
theorem Tryz.strings_TrimRight_one (s:ByteArray) (c:UInt8) (hc:c.toNat<128) (w:World) (hs:s.size≤9223372036854775807):
  Calls Tryz.prog 129 #[.string s,.string ⟨#[c]⟩] w fun e w'=>e=.returned (.string ⟨(Lib.trimRightB s.data.toList c).toArray⟩)∧w'=w:=Any.strings_TrimRight_one Tryz.lays162 s c hc w hs
def Tryz.lays160_ren:Go.Shelf.Ren:=⟨fun|160=>88|232=>138|231=>137|227=>139|234=>141|233=>140|236=>143|235=>142|228=>217|271=>220|151=>219|197=>218|120=>297|152=>296|260=>295|137=>346|119=>347|224=>344|225=>343|217=>342|266=>372|n=>n,fun|9=>9|4=>4|3=>3|5=>5|117=>183|116=>182|0=>0|124=>186|21=>21|105=>260|46=>292|119=>344|139=>347|138=>346|n=>n,fun|3=>4|4=>5|n=>n⟩
theorem Tryz.lays160:Go.Proofs.Lays.n160 Tryz.prog Tryz.lays160_ren:={
 mixed:=by kernel_rfl
 f119:=Tryz.func347.trans (congrArg some (by kernel_rfl))
 f120:=Tryz.func297.trans (congrArg some (by kernel_rfl))
 f137:=Tryz.func346.trans (congrArg some (by kernel_rfl))
 f151:=Tryz.func219.trans (congrArg some (by kernel_rfl))
 f152:=Tryz.func296.trans (congrArg some (by kernel_rfl))
 f160:=Tryz.func88.trans (congrArg some (by kernel_rfl))
 f197:=Tryz.func218.trans (congrArg some (by kernel_rfl))
 f217:=Tryz.func342.trans (congrArg some (by kernel_rfl))
 f224:=Tryz.func344.trans (congrArg some (by kernel_rfl))
 f225:=Tryz.func343.trans (congrArg some (by kernel_rfl))
 f227:=Tryz.func139.trans (congrArg some (by kernel_rfl))
 f228:=Tryz.func217.trans (congrArg some (by kernel_rfl))
 f231:=Tryz.func137.trans (congrArg some (by kernel_rfl))
 f232:=Tryz.func138.trans (congrArg some (by kernel_rfl))
 f233:=Tryz.func140.trans (congrArg some (by kernel_rfl))
 f234:=Tryz.func141.trans (congrArg some (by kernel_rfl))
 f235:=Tryz.func142.trans (congrArg some (by kernel_rfl))
 f236:=Tryz.func143.trans (congrArg some (by kernel_rfl))
 f260:=Tryz.func295.trans (congrArg some (by kernel_rfl))
 f266:=Tryz.func372.trans (congrArg some (by kernel_rfl))
 f271:=Tryz.func220.trans (congrArg some (by kernel_rfl))
 t0:=Tryz.underlying0
 a0:=Tryz.isAgg0
 z0:=Tryz.sizeOf0
 v0:=Tryz.zeroValue0
 t3:=Tryz.underlying3
 a3:=Tryz.isAgg3
 z3:=Tryz.sizeOf3
 v3:=Tryz.zeroValue3
 t4:=Tryz.underlying4
 a4:=Tryz.isAgg4
 z4:=Tryz.sizeOf4
 v4:=Tryz.zeroValue4
 t5:=Tryz.underlying5
 a5:=Tryz.isAgg5
 z5:=Tryz.sizeOf5
 v5:=Tryz.zeroValue5
 t9:=Tryz.underlying9
 a9:=Tryz.isAgg9
 z9:=Tryz.sizeOf9
 v9:=Tryz.zeroValue9
 t21:=Tryz.underlying21
 a21:=Tryz.isAgg21
 z21:=Tryz.sizeOf21
 v21:=Tryz.zeroValue21
 t46:=Tryz.underlying292
 a46:=Tryz.isAgg292
 z46:=Tryz.sizeOf292
 v46:=Tryz.zeroValue292
 t105:=Tryz.underlying260
 a105:=Tryz.isAgg260
 z105:=Tryz.sizeOf260
 v105:=Tryz.zeroValue260
 t116:=Tryz.underlying182
 a116:=Tryz.isAgg182
 z116:=Tryz.sizeOf182
 t117:=Tryz.underlying183
 a117:=Tryz.isAgg183
 z117:=Tryz.sizeOf183
 v117:=Tryz.zeroValue183
 t119:=Tryz.underlying344
 a119:=Tryz.isAgg344
 z119:=Tryz.sizeOf344
 t124:=Tryz.underlying186
 a124:=Tryz.isAgg186
 z124:=Tryz.sizeOf186
 v124:=Tryz.zeroValue186
 t138:=Tryz.underlying346
 a138:=Tryz.isAgg346
 z138:=Tryz.sizeOf346
 v138:=Tryz.zeroValue346
 t139:=Tryz.underlying347
 a139:=Tryz.isAgg347
 z139:=Tryz.sizeOf347
 v139:=Tryz.zeroValue347
 g3:=by kernel_rfl
 g4:=by kernel_rfl}
open Go.RowKit in
theorem Tryz.strings_Trim_one (s:ByteArray) (c:UInt8) (hc:c.toNat<128) (w:World) (hs:s.size≤9223372036854775807):
  Calls Tryz.prog 88 #[.string s,.string ⟨#[c]⟩] w fun e w'=>e=.returned (.string ⟨(Lib.trimB s.data.toList c).toArray⟩)∧(w'=w∨w'=w.drew):=Any.strings_Trim_one Tryz.lays160 s c hc w hs
def Tryz.lays103_ren:Go.Shelf.Ren:=⟨fun|103=>290|210=>340|206=>371|n=>n,fun|9=>9|4=>4|24=>134|3=>3|n=>n,fun|n=>n⟩
theorem Tryz.lays103:Go.Proofs.Lays.n103 Tryz.prog Tryz.lays103_ren:={
 mixed:=by kernel_rfl
 f103:=Tryz.func290.trans (congrArg some (by kernel_rfl))
 f206:=Tryz.func371.trans (congrArg some (by kernel_rfl))
 f210:=Tryz.func340.trans (congrArg some (by kernel_rfl))
 t3:=Tryz.underlying3
 a3:=Tryz.isAgg3
 z3:=Tryz.sizeOf3
 v3:=Tryz.zeroValue3
 t4:=Tryz.underlying4
 a4:=Tryz.isAgg4
 z4:=Tryz.sizeOf4
 v4:=Tryz.zeroValue4
 t9:=Tryz.underlying9
 a9:=Tryz.isAgg9
 z9:=Tryz.sizeOf9
 v9:=Tryz.zeroValue9
 t24:=Tryz.underlying134
 a24:=Tryz.isAgg134
 z24:=Tryz.sizeOf134
 v24:=Tryz.zeroValue134}
open Go.RowKit in
theorem Tryz.strings_CutPrefix (s p:ByteArray) (w:World):
  Calls Tryz.prog 290 #[.string s,.string p] w fun e w'=>e=.returned (.tuple #[.string ⟨(Lib.trimPrefix s.data.toList p.data.toList).toArray⟩,.bool (Lib.hasPrefix s.data.toList p.data.toList)])∧w'=w:=Any.strings_CutPrefix Tryz.lays103 s p w
def Tryz.lays104_ren:Go.Shelf.Ren:=⟨fun|104=>127|211=>209|207=>289|n=>n,fun|9=>9|4=>4|24=>134|3=>3|n=>n,fun|n=>n⟩
theorem Tryz.lays104:Go.Proofs.Lays.n104 Tryz.prog Tryz.lays104_ren:={
 mixed:=by kernel_rfl
 f104:=Tryz.func127.trans (congrArg some (by kernel_rfl))
 f207:=Tryz.func289.trans (congrArg some (by kernel_rfl))
 f211:=Tryz.func209.trans (congrArg some (by kernel_rfl))
 t3:=Tryz.underlying3
 a3:=Tryz.isAgg3
 z3:=Tryz.sizeOf3
 v3:=Tryz.zeroValue3
 t4:=Tryz.underlying4
 a4:=Tryz.isAgg4
 z4:=Tryz.sizeOf4
 v4:=Tryz.zeroValue4
 t9:=Tryz.underlying9
 a9:=Tryz.isAgg9
 z9:=Tryz.sizeOf9
 v9:=Tryz.zeroValue9
 t24:=Tryz.underlying134
 a24:=Tryz.isAgg134
 z24:=Tryz.sizeOf134
 v24:=Tryz.zeroValue134}
open Go.RowKit in
theorem Tryz.strings_CutSuffix (s p:ByteArray) (w:World) (hs:s.size≤9223372036854775807):
  Calls Tryz.prog 127 #[.string s,.string p] w fun e w'=>e=.returned (.tuple #[.string ⟨(Lib.trimSuffix s.data.toList p.data.toList).toArray⟩,.bool (Lib.hasSuffix s.data.toList p.data.toList)])∧w'=w:=Any.strings_CutSuffix Tryz.lays104 s p w hs
def Tryz.laysM316_ren:Go.Shelf.Ren:=⟨fun|316=>210|n=>n,fun|9=>9|3=>3|4=>4|37=>26|0=>0|127=>314|5=>5|n=>n,fun|n=>n⟩
theorem Tryz.laysM316:Go.Proofs.LaysM.n316 Tryz.prog Tryz.laysM316_ren:={
 mixed:=by kernel_rfl
 f316:=Tryz.func210.trans (congrArg some (by kernel_rfl))
 t0:=Tryz.underlying0
 a0:=Tryz.isAgg0
 z0:=Tryz.sizeOf0
 v0:=Tryz.zeroValue0
 t3:=Tryz.underlying3
 a3:=Tryz.isAgg3
 z3:=Tryz.sizeOf3
 v3:=Tryz.zeroValue3
 t4:=Tryz.underlying4
 a4:=Tryz.isAgg4
 z4:=Tryz.sizeOf4
 v4:=Tryz.zeroValue4
 t9:=Tryz.underlying9
 a9:=Tryz.isAgg9
 z9:=Tryz.sizeOf9
 v9:=Tryz.zeroValue9
 t37:=Tryz.underlying26
 a37:=Tryz.isAgg26
 z37:=Tryz.sizeOf26
 v37:=Tryz.zeroValue26
 t127:=Tryz.underlying314
 a127:=Tryz.isAgg314
 z127:=Tryz.sizeOf314
 v127:=Tryz.zeroValue314
 t5:=Tryz.underlying5
 a5:=Tryz.isAgg5
 z5:=Tryz.sizeOf5
 v5:=Tryz.zeroValue5
 i0:=by kernel_rfl
 i3:=by kernel_rfl
 i4:=by kernel_rfl
 i5:=by kernel_rfl
 i9:=by kernel_rfl
 i37:=by kernel_rfl
 i127:=by kernel_rfl}
open Go.RowKit in
theorem Tryz.stringslite_Clone (s:ByteArray) (w:World) (hlim:s.size≤281474976710656):
  Calls Tryz.prog 210 #[.string s] w fun e w'=>e=.returned (.string s)∧Below w.heap.size w w':=Any.stringslite_Clone Tryz.laysM316 s w hlim
def Tryz.lays146_ren:Go.Shelf.Ren:=⟨fun|146=>87|221=>136|268=>214|138=>215|143=>216|195=>292|197=>218|218=>293|219=>294|260=>295|217=>342|225=>343|224=>344|267=>345|266=>372|314=>373|n=>n,fun|9=>9|31=>105|3=>3|4=>4|0=>0|105=>260|21=>21|5=>5|46=>292|119=>344|139=>347|138=>346|146=>357|51=>331|n=>n,fun|1=>3|3=>4|4=>5|n=>n⟩
theorem Tryz.lays146:Go.Proofs.Lays.n146 Tryz.prog Tryz.lays146_ren:={
 mixed:=by kernel_rfl
 f138:=Tryz.func215.trans (congrArg some (by kernel_rfl))
 f143:=Tryz.func216.trans (congrArg some (by kernel_rfl))
 f146:=Tryz.func87.trans (congrArg some (by kernel_rfl))
 f195:=Tryz.func292.trans (congrArg some (by kernel_rfl))
 f197:=Tryz.func218.trans (congrArg some (by kernel_rfl))
 f217:=Tryz.func342.trans (congrArg some (by kernel_rfl))
 f218:=Tryz.func293.trans (congrArg some (by kernel_rfl))
 f219:=Tryz.func294.trans (congrArg some (by kernel_rfl))
 f221:=Tryz.func136.trans (congrArg some (by kernel_rfl))
 f224:=Tryz.func344.trans (congrArg some (by kernel_rfl))
 f225:=Tryz.func343.trans (congrArg some (by kernel_rfl))
 f260:=Tryz.func295.trans (congrArg some (by kernel_rfl))
 f266:=Tryz.func372.trans (congrArg some (by kernel_rfl))
 f267:=Tryz.func345.trans (congrArg some (by kernel_rfl))
 f268:=Tryz.func214.trans (congrArg some (by kernel_rfl))
 f314:=Tryz.func373.trans (congrArg some (by kernel_rfl))
 t0:=Tryz.underlying0
 a0:=Tryz.isAgg0
 z0:=Tryz.sizeOf0
 v0:=Tryz.zeroValue0
 t3:=Tryz.underlying3
 a3:=Tryz.isAgg3
 z3:=Tryz.sizeOf3
 v3:=Tryz.zeroValue3
 t4:=Tryz.underlying4
 a4:=Tryz.isAgg4
 z4:=Tryz.sizeOf4
 v4:=Tryz.zeroValue4
 t5:=Tryz.underlying5
 a5:=Tryz.isAgg5
 z5:=Tryz.sizeOf5
 v5:=Tryz.zeroValue5
 t9:=Tryz.underlying9
 a9:=Tryz.isAgg9
 z9:=Tryz.sizeOf9
 v9:=Tryz.zeroValue9
 t21:=Tryz.underlying21
 a21:=Tryz.isAgg21
 z21:=Tryz.sizeOf21
 v21:=Tryz.zeroValue21
 t31:=Tryz.underlying105
 a31:=Tryz.isAgg105
 z31:=Tryz.sizeOf105
 v31:=Tryz.zeroValue105
 t46:=Tryz.underlying292
 a46:=Tryz.isAgg292
 z46:=Tryz.sizeOf292
 v46:=Tryz.zeroValue292
 t51:=Tryz.underlying331
 a51:=Tryz.isAgg331
 z51:=Tryz.sizeOf331
 v51:=Tryz.zeroValue331
 t105:=Tryz.underlying260
 a105:=Tryz.isAgg260
 z105:=Tryz.sizeOf260
 v105:=Tryz.zeroValue260
 t119:=Tryz.underlying344
 a119:=Tryz.isAgg344
 z119:=Tryz.sizeOf344
 t138:=Tryz.underlying346
 a138:=Tryz.isAgg346
 z138:=Tryz.sizeOf346
 v138:=Tryz.zeroValue346
 t139:=Tryz.underlying347
 a139:=Tryz.isAgg347
 z139:=Tryz.sizeOf347
 v139:=Tryz.zeroValue347
 t146:=Tryz.underlying357
 a146:=Tryz.isAgg357
 z146:=Tryz.sizeOf357
 v146:=Tryz.zeroValue357
 g1:=by kernel_rfl
 g3:=by kernel_rfl
 g4:=by kernel_rfl}
open Go.RowKit Go.Lib in
theorem Tryz.strings_Split (s sep:ByteArray) (m:Int) (w:World) (hs:s.size<4294967281) (hm:w.cell? ⟨3,0,none⟩=some (.int .i64 m)) (h1:1≤sep.size):
  Calls Tryz.prog 87 #[.string s,.string sep] w fun e w'=>
   e=.returned (.slice (some ⟨w.heap.size,0,none⟩) (Lib.countB s sep+1) (Lib.countB s sep+1))∧w'=w.alloc (.cells ((Lib.splitB sep 0 (Lib.countB s sep) s).map Value.string).toArray 9):=Any.strings_Split Tryz.lays146 (by kernel_rfl) s sep m w hs hm h1
def Tryz.lays109_ren:Go.Shelf.Ren:=⟨fun|109=>130|n=>n,fun|31=>105|9=>9|3=>3|0=>0|4=>4|n=>n,fun|n=>n⟩
theorem Tryz.lays109:Go.Proofs.Lays.n109 Tryz.prog Tryz.lays109_ren:={
 mixed:=by kernel_rfl
 f109:=Tryz.func130.trans (congrArg some (by kernel_rfl))
 t0:=Tryz.underlying0
 a0:=Tryz.isAgg0
 z0:=Tryz.sizeOf0
 v0:=Tryz.zeroValue0
 t3:=Tryz.underlying3
 a3:=Tryz.isAgg3
 z3:=Tryz.sizeOf3
 v3:=Tryz.zeroValue3
 t4:=Tryz.underlying4
 a4:=Tryz.isAgg4
 z4:=Tryz.sizeOf4
 v4:=Tryz.zeroValue4
 t9:=Tryz.underlying9
 a9:=Tryz.isAgg9
 z9:=Tryz.sizeOf9
 v9:=Tryz.zeroValue9
 t31:=Tryz.underlying105
 a31:=Tryz.isAgg105
 z31:=Tryz.sizeOf105
 v31:=Tryz.zeroValue105}
open Go.Lib in
theorem Tryz.slices_Index_string (b off n c:Nat) (zs:List ByteArray) (x:ByteArray) (w:World) (hz:n≤zs.length) (hbig:n≤9223372036854775807) (hc:∀j,j<zs.length→w.cell? ⟨b,off+j,none⟩=some (.string (zs.getD j ByteArray.empty))):
  Calls Tryz.prog 130 #[.slice (some ⟨b,off,none⟩) n c,.string x] w fun e w'=>e=.returned (.int .i64 (Lib.idxOfS (zs.take n) x))∧w'=w:=Any.slices_Index_string Tryz.lays109 b off n c zs x w hz hbig hc
open Go.Lib in
theorem Tryz.slices_Index_string_empty (a:Option Addr) (c:Nat) (x:ByteArray) (w:World):
  Calls Tryz.prog 130 #[.slice a 0 c,.string x] w fun e w'=>e=.returned (.int .i64 (Lib.idxOfS [] x))∧w'=w:=Any.slices_Index_string_empty Tryz.lays109 a c x w
end Go.Proofs

namespace Go.Proofs.YtpgjobpmafbigaaGreatDoor
open Go.ChangeShapes Go.WideShapes Go.ChangeAt Go.RowKit
set_option linter.unusedSimpArgs false
set_option linter.unusedVariables false

def KpT (w:World):Prop:=∀i,i<16→w.cell? ⟨9,i,none⟩=some (.int .u8 ((kpL.getD i 0:Nat):Int))
theorem KpT.kept {w w':World} (h:KpT w) (hb:Below w.heap.size w w'):KpT w':=fun i hi=>by
 rw[hb.cell (p:=⟨9,i,none⟩) (World.block_lt_of_cell? w _ (h i hi))]
 exact h i hi
theorem Rd.cells {w:World} {v:Value} {l:List UInt8} (h:Rd w v l) (hl:0<l.length):∃b off cap,v=.slice (some ⟨b,off,none⟩) l.length cap∧l.length≤cap∧cap≤maxLen∧∀i,i<l.length→w.cell? ⟨b,off+i,none⟩=some (.int .u8 ((l.getD i 0).toNat:Int)):=by
 obtain⟨a,cap,e,h2,h3,h4,h5⟩:=h
 rcases h5 with h5|⟨b,off,ha,hc⟩
 ·rw[h5] at hl
  simp at hl
 ·subst ha
  exact⟨b,off,cap,e,h2,h3,hc⟩

end Go.Proofs.YtpgjobpmafbigaaGreatDoor

namespace Go.Proofs.YtpgjobpmafbigaaGreatDoor
set_option linter.unusedSimpArgs false
set_option linter.unusedVariables false

theorem drop_tf (s:List UInt8):s.dropWhile (· ==32)=tfT s:=by
 induction s with
 |nil=>rfl
 |cons x t ih=>
  show _=if x=32 then tfT t else x :: t
  by_cases h:x=32
  ·rw[if_pos h,List.dropWhile_cons_of_pos (by simpa using h),ih]
  ·rw[if_neg h,List.dropWhile_cons_of_neg (by simpa using h)]
theorem trimR_te (s:List UInt8):Lib.trimRightB s 32=teT s:=by
 unfold Lib.trimRightB teT
 rw[drop_tf]
theorem tfT_snoc (x:UInt8):∀l:List UInt8,tfT (l++[x])=if tfT l=[] then tfT [x] else tfT l++[x]
 |[]=>by simp[tfT]
 |y :: l=>by
  show(if y=32 then tfT (l++[x]) else y :: (l++[x]))=if (if y=32 then tfT l else y :: l)=[] then tfT [x] else (if y=32 then tfT l else y :: l)++[x]
  by_cases h:y=32
  ·simp only[if_pos h]
   exact tfT_snoc x l
  ·simp[h]
theorem teT_cons (x:UInt8) (t:List UInt8):teT (x :: t)=if teT t=[] then (if x=32 then [] else [x]) else x :: teT t:=by
 unfold teT
 rw[List.reverse_cons,tfT_snoc]
 by_cases h:tfT t.reverse=[]
 ·rw[if_pos h,h]
  by_cases hx:x=32<;>simp[tfT,hx]
 ·rw[if_neg h,if_neg (by simpa using h)]
  simp
theorem tf_te:∀s:List UInt8,tfT (teT s)=teT (tfT s)
 |[]=>rfl
 |x :: t=>by
  have ih:=tf_te t
  have e:tfT (x :: t)=if x=32 then tfT t else x :: t:=rfl
  rw[teT_cons,e]
  by_cases hx:x=32
  ·simp only[if_pos hx]
   by_cases h:teT t=[]
   ·rw[if_pos h,←ih,h]
   ·rw[if_neg h,←ih,hx]
    rfl
  ·simp only[if_neg hx]
   rw[teT_cons]
   by_cases h:teT t=[]
   ·rw[if_pos h,if_pos h,if_neg hx]
    simp[tfT,hx]
   ·rw[if_neg h,if_neg h]
    simp[tfT,hx]
theorem trim_tm (s:List UInt8):Lib.trimB s 32=tmT s:=by
 unfold Lib.trimB Lib.trimLeftB tmT
 rw[trimR_te,drop_tf,tf_te]
theorem index_one_nil (c:UInt8):Lib.index [] [c]= -1:=by simp[Lib.index]
theorem index_one_hit (c:UInt8) (t:List UInt8):Lib.index (c :: t) [c]=0:=by simp[Lib.index]
theorem index_one_skip (c x:UInt8) (h:x≠c) (t:List UInt8):Lib.index (x :: t) [c]=if Lib.index t [c]== -1 then -1 else Lib.index t [c]+1:=by
 have:([c]:List UInt8).isPrefixOf (x :: t)=false:=by simp[List.isPrefixOf];exact fun e=>absurd e.symm h
 simp[Lib.index,this]
theorem spl_lib (c:UInt8):∀s:List UInt8,Lib.splitK [c] 0 (Lib.count s [c]) s=splL c s
 |[]=>by rw[Lib.count_miss (index_one_nil c)];rfl
 |x :: t=>by
  have ih:=spl_lib c t
  by_cases hx:x=c
  ·subst hx
   rw[Lib.count_hit (i:=0) (by simp) (index_one_hit x t),Nat.add_comm 1]
   unfold Lib.splitK
   rw[index_one_hit]
   show _ :: Lib.splitK [x] 0 (Lib.count t [x]) t=if x=x then [] :: splL x t else _
   rw[ih,if_pos rfl]
   rfl
  ·by_cases hi:Lib.index t [c]= -1
   ·have h1:Lib.index (x :: t) [c]= -1:=by rw[index_one_skip c x hx,hi];rfl
    rw[Lib.count_miss h1]
    rw[Lib.count_miss hi] at ih
    exact(splL_cons c x hx t t [] ih.symm).symm
   ·have hge:=Lib.index_ge t [c]
    obtain⟨i,hi2⟩:∃i:Nat,Lib.index t [c]=i:=⟨(Lib.index t [c]).toNat,by omega⟩
    have h1:Lib.index (x :: t) [c]=((i+1:Nat):Int):=by
     rw[index_one_skip c x hx,hi2,if_neg (by simp<;>omega)]
     omega
    have e1:=Lib.count_hit (i:=i+1) (by simp) h1
    have e2:=Lib.count_hit (i:=i) (by simp) hi2
    have e3:(x :: t).drop (i+1+[c].length)=t.drop (i+[c].length):=by
     show(x :: t).drop (i+1+1)=t.drop (i+1)
     rfl
    rw[e3,←e2] at e1
    rw[e1]
    rw[e2,Nat.add_comm 1] at ih ⊢
    unfold Lib.splitK at ih ⊢
    rw[hi2,if_neg (by simp<;>omega)] at ih
    rw[h1,if_neg (by simp<;>omega)]
    have:=splL_cons c x hx t _ _ ih.symm
    rw[this]
    have a1:((i:Int)).toNat=i:=by omega
    have a2:(((i+1:Nat):Int)).toNat=i+1:=by omega
    rw[a1,a2]
    rfl
theorem split_lib (c:UInt8) (s:List UInt8):(Lib.splitB ⟨#[c]⟩ 0 (Lib.countB ⟨s.toArray⟩ ⟨#[c]⟩) ⟨s.toArray⟩)=(splL c s).map fun l=>⟨l.toArray⟩:=by
 have h:=Lib.splitB_data ⟨#[c]⟩ 0 (Lib.countB ⟨s.toArray⟩ ⟨#[c]⟩) ⟨s.toArray⟩
 have e:Lib.splitK (⟨#[c]⟩:ByteArray).data.toList 0 (Lib.countB ⟨s.toArray⟩ ⟨#[c]⟩) (⟨s.toArray⟩:ByteArray).data.toList=splL c s:=by
  show Lib.splitK [c] 0 (Lib.count s.toArray.toList [c]) s.toArray.toList=_
  rw[List.toList_toArray]
  exact spl_lib c s
 rw[e] at h
 rw[←h,List.map_map]
 have:((fun l:List UInt8=>(⟨l.toArray⟩:ByteArray)) ∘ fun x:ByteArray=>x.data.toList)=id:=by
  funext x
  simp
 rw[this,List.map_id]
theorem count_lib (c:UInt8) (s:List UInt8):Lib.countB ⟨s.toArray⟩ ⟨#[c]⟩+1=(splL c s).length:=by
 have:=congrArg List.length (split_lib c s)
 rw[List.length_map] at this
 rw[←this]
 exact(Lib.splitB_all ⟨#[c]⟩ (by show 1≤1;omega) 0 _ ⟨s.toArray⟩ rfl).symm
end Go.Proofs.YtpgjobpmafbigaaGreatDoor

namespace Go.Proofs.YtpgjobpmafbigaaGreatDoor
open Go.ChangeShapes Go.WideShapes Go.ChangeAt Go.RowKit
set_option linter.unusedSimpArgs false
set_option linter.unusedVariables false

theorem str_at (s:List UInt8) (i:Nat) (h:i<s.length) (w:World):(Instr.index 9 (.string ⟨s.toArray⟩) (.int .i64 (i:Int))).run Tryz.prog w=.ok (.int .u8 ((s.getD i 0).toNat:Int)) w:=by
 have e:(⟨s.toArray⟩:ByteArray)[i]?=some (s.getD i 0):=by
  show(if h:i<s.toArray.size then some s.toArray[i] else none)=_
  simp[h]
 have hz:(0:Int)≤(i:Int):=by omega
 simp only[Instr.index,asIntOf,Sem.run_bind,Sem.run_pure,Result.andThen_ok,run_underlying Tryz.underlying9,hz,if_true,Int.toNat_natCast,e]
theorem nm_facts (x:UInt8) (c:Nat) (b:Bool) (hc:c=x.toNat) (hb:b=nmC x):(decide ((48:Int)≤(c:Int))=false∧decide ((c:Int)≤57)=true∧decide ((97:Int)≤(c:Int))=false∧decide ((c:Int)≤122)=true∧decide ((65:Int)≤(c:Int))=false∧decide ((c:Int)≤90)=true∧0≤c∧c≤47∧b=false)∨
  (decide ((48:Int)≤(c:Int))=true∧decide ((c:Int)≤57)=true∧decide ((97:Int)≤(c:Int))=false∧decide ((c:Int)≤122)=true∧decide ((65:Int)≤(c:Int))=false∧decide ((c:Int)≤90)=true∧48≤c∧c≤57∧b=true)∨
  (decide ((48:Int)≤(c:Int))=true∧decide ((c:Int)≤57)=false∧decide ((97:Int)≤(c:Int))=false∧decide ((c:Int)≤122)=true∧decide ((65:Int)≤(c:Int))=false∧decide ((c:Int)≤90)=true∧58≤c∧c≤64∧b=false)∨
  (decide ((48:Int)≤(c:Int))=true∧decide ((c:Int)≤57)=false∧decide ((97:Int)≤(c:Int))=false∧decide ((c:Int)≤122)=true∧decide ((65:Int)≤(c:Int))=true∧decide ((c:Int)≤90)=true∧65≤c∧c≤90∧b=true)∨
  (decide ((48:Int)≤(c:Int))=true∧decide ((c:Int)≤57)=false∧decide ((97:Int)≤(c:Int))=false∧decide ((c:Int)≤122)=true∧decide ((65:Int)≤(c:Int))=true∧decide ((c:Int)≤90)=false∧91≤c∧c≤96∧b=false)∨
  (decide ((48:Int)≤(c:Int))=true∧decide ((c:Int)≤57)=false∧decide ((97:Int)≤(c:Int))=true∧decide ((c:Int)≤122)=true∧decide ((65:Int)≤(c:Int))=true∧decide ((c:Int)≤90)=false∧97≤c∧c≤122∧b=true)∨
  (decide ((48:Int)≤(c:Int))=true∧decide ((c:Int)≤57)=false∧decide ((97:Int)≤(c:Int))=true∧decide ((c:Int)≤122)=false∧decide ((65:Int)≤(c:Int))=true∧decide ((c:Int)≤90)=false∧123≤c∧c≤255∧b=false):=by
 have h:=x.toNat_lt
 unfold nmC at hb
 rw[←hc] at hb h
 by_cases h0:c≤47
 ·exact .inl ⟨decide_eq_false (by omega),decide_eq_true (by omega),decide_eq_false (by omega),decide_eq_true (by omega),decide_eq_false (by omega),decide_eq_true (by omega),by omega,by omega,by rw[hb];simp;omega⟩
 by_cases h1:c≤57
 ·exact .inr (.inl ⟨decide_eq_true (by omega),decide_eq_true (by omega),decide_eq_false (by omega),decide_eq_true (by omega),decide_eq_false (by omega),decide_eq_true (by omega),by omega,by omega,by rw[hb];simp;omega⟩)
 by_cases h2:c≤64
 ·exact .inr (.inr (.inl ⟨decide_eq_true (by omega),decide_eq_false (by omega),decide_eq_false (by omega),decide_eq_true (by omega),decide_eq_false (by omega),decide_eq_true (by omega),by omega,by omega,by rw[hb];simp;omega⟩))
 by_cases h3:c≤90
 ·exact .inr (.inr (.inr (.inl ⟨decide_eq_true (by omega),decide_eq_false (by omega),decide_eq_false (by omega),decide_eq_true (by omega),decide_eq_true (by omega),decide_eq_true (by omega),by omega,by omega,by rw[hb];simp;omega⟩)))
 by_cases h4:c≤96
 ·exact .inr (.inr (.inr (.inr (.inl ⟨decide_eq_true (by omega),decide_eq_false (by omega),decide_eq_false (by omega),decide_eq_true (by omega),decide_eq_true (by omega),decide_eq_false (by omega),by omega,by omega,by rw[hb];simp;omega⟩))))
 by_cases h5:c≤122
 ·exact .inr (.inr (.inr (.inr (.inr (.inl ⟨decide_eq_true (by omega),decide_eq_false (by omega),decide_eq_true (by omega),decide_eq_true (by omega),decide_eq_true (by omega),decide_eq_false (by omega),by omega,by omega,by rw[hb];simp;omega⟩)))))
 exact .inr (.inr (.inr (.inr (.inr (.inr (⟨decide_eq_true (by omega),decide_eq_false (by omega),decide_eq_true (by omega),decide_eq_false (by omega),decide_eq_true (by omega),decide_eq_false (by omega),by omega,by omega,by rw[hb];simp;omega⟩))))))

theorem infoStr:(Tryz.prog.info? 9).map (fun i=>(i.zero,i.size,i.bytes))=some (some (.string ⟨#[]⟩),1,16):=by kernel_rfl

def stC (ls:List (List UInt8)):List Value:=ls.map fun l=>Value.string ⟨l.toArray⟩

theorem stC_next (ls:List (List UInt8)) (l:List UInt8):stC ls++[Value.string ⟨l.toArray⟩]=stC (ls++[l]):=by simp[stC]

abbrev Rw.st (v:Value) (ls:List (List UInt8)):Rw:=⟨9,1,v,ls.length,stC ls⟩

theorem news1 {w:World} {e:TypeId} (u:Value) {b:Nat} (hb:b=w.heap.size):∀j x,[u][j]?=some x→(w.alloc (.cells #[u] e)).cell? ((⟨b,0,none⟩:Addr).add j)=some x:=by
 subst hb
 intro j x h
 cases j with
 |zero=>
  simp at h
  subst h
  have hh:(w.alloc (.cells #[u] e)).heap[w.heap.size]?=some (.cells #[u] e):=by
   show(w.heap.push _)[w.heap.size]?=_
   simp
  show World.cell? _ ⟨w.heap.size,0,none⟩=_
  unfold World.cell?
  rw[hh]
  simp
 |succ j=>simp at h

end Go.Proofs.YtpgjobpmafbigaaGreatDoor

namespace Go.Proofs.YtpgjobpmafbigaaGreatDoor
set_option linter.unusedSimpArgs false
set_option linter.unusedVariables false

def scK (x:Int) (o:Bool):List (Bool×Int):=
 if x=3 then [(true,1),(false,1)] else if x=4 then [(true,1),(false,2)] else if x=5 then [(true,2),(false,1)] else if x=6 then [(true,2),(false,2)]
 else if x=7 then [(false,7)] else if x=9 then [(o,8)] else if x=10 then [(o,2)] else []
def kyC (l:List (Bool×Int)):List Value:=l.flatMap fun k=>[Value.bool k.1,.int .i64 k.2]
def seX (l:List ((Int×List (Bool×Int))×Value)):List Value:=l.flatMap fun e=>[Value.int .i64 e.1.1,e.2]
def seK (ty:TypeId) (l:List ((Int×List (Bool×Int))×Value)):List Rw:=l.reverse.map fun e=>⟨ty,2,e.2,e.1.2.length,kyC e.1.2⟩
theorem OwnG.lit {w0 w:World} {L:List Rw} (h:OwnG w0 L w) (e:TypeId) (sz n b:Nat) (xs:List Value) (cs:Array Value) (hcs:cs=xs.toArray) (hb:b=w.heap.size) (hm:n≤maxLen) (hs:xs.length=n * sz):OwnG w0 (⟨e,sz,.slice (some ⟨b,0,none⟩) n n,n,xs⟩ :: L) (w.alloc (.cells cs e)):=by
 subst hcs hb
 refine h.fresh (p:=⟨e,sz,.slice (some ⟨w.heap.size,0,none⟩) n n,n,xs⟩) ?_ (growB _)
 have:=World.ownsRow_lit (base:=w.heap.size) (e:=e) (size:=sz) w xs.toArray n (Nat.le_refl _) hm (by simpa using hs)
 simpa using this
theorem news2 {w:World} {e:TypeId} (u v:Value) {b:Nat} (hb:b=w.heap.size):∀j x,[u,v][j]?=some x→(w.alloc (.cells #[u,v] e)).cell? ((⟨b,0,none⟩:Addr).add j)=some x:=by
 subst hb
 intro j x h
 have hh:(w.alloc (.cells #[u,v] e)).heap[w.heap.size]?=some (.cells #[u,v] e):=by
  show(w.heap.push _)[w.heap.size]?=_
  simp
 have hp:(⟨w.heap.size,0,none⟩:Addr).add j=⟨w.heap.size,j,none⟩:=by unfold Addr.add;split<;>simp_all
 rw[hp]
 unfold World.cell?
 rw[hh]
 simpa using h
end Go.Proofs.YtpgjobpmafbigaaGreatDoor

namespace Go.Proofs.YtpgjobpmafbigaaGreatDoor
open Go.ChangeShapes Go.WideShapes Go.ChangeAt Go.RowKit
set_option linter.unusedSimpArgs false
set_option linter.unusedVariables false

set_option maxHeartbeats 1000000 in
theorem fits_any (n m:Int) (w:World):
  Calls Tryz.prog 134 #[.int .i64 n,.int .i64 m] w fun e w'=>e=.returned (.bool (decide (1≤n)&&decide (n≤m)))∧w'=w:=by
 by_cases h1:1≤n
 ·have d1:decide ((1:Int)≤n)=true:=decide_eq_true h1
  go_enter Tryz.func134,Tryz.ntmps134
  go_wp2
  go_ret
  exact⟨by rw[d1];simp,rfl⟩
 ·have d1:decide ((1:Int)≤n)=false:=decide_eq_false h1
  have d2:n<1:=by omega
  go_enter Tryz.func134,Tryz.ntmps134
  go_wp2
  go_ret
  exact⟨by first|rfl|(rw[d1];rfl),rfl⟩

set_option maxHeartbeats 2000000 in
theorem isSign_any (x:UInt8) (C:Int) (hC:C=((x.toNat:Nat):Int)) (w:World):
  Calls Tryz.prog 213 #[.int .u8 C] w fun e w'=>e=.returned (.bool (nmC x))∧w'=w:=by
 obtain⟨c,hc⟩:∃c:Nat,c=x.toNat:=⟨_,rfl⟩
 obtain⟨b,hb⟩:∃b:Bool,b=nmC x:=⟨_,rfl⟩
 have hcs:=nm_facts _ c b hc hb
 rw[←hc] at hC
 have HB:Hid (b=nmC x):=hb
 clear hb hc
 subst hC
 rcases hcs with ⟨p1,p2,p3,p4,p5,p6,p7,p8,hb⟩|⟨p1,p2,p3,p4,p5,p6,p7,p8,hb⟩|⟨p1,p2,p3,p4,p5,p6,p7,p8,hb⟩|⟨p1,p2,p3,p4,p5,p6,p7,p8,hb⟩|⟨p1,p2,p3,p4,p5,p6,p7,p8,hb⟩|⟨p1,p2,p3,p4,p5,p6,p7,p8,hb⟩|⟨p1,p2,p3,p4,p5,p6,p7,p8,hb⟩
 all_goals
  subst hb
  go_enter Tryz.func213,Tryz.ntmps213
  go_wp2
  go_ret
  exact⟨by rw[←HB.out];rfl,rfl⟩

set_option maxHeartbeats 4000000 in
theorem isName_any (s:List UInt8) (hs:s.length≤maxLen) (w:World):
  Calls Tryz.prog 133 #[.string ⟨s.toArray⟩] w fun e w'=>e=.returned (.bool (nmB s))∧w'=w:=by
 unfold maxLen at hs
 obtain⟨L,hL⟩:∃L:Nat,L=s.length:=⟨_,rfl⟩
 have HL:Hid (L=s.length):=hL
 have hsz:ByteArray.size ⟨s.toArray⟩=L:=by rw[hL];rfl
 have hLb:L≤9223372036854775807:=by omega
 have HA:Hid (∀i,i<L→∀w:World,(Instr.index 9 (.string ⟨s.toArray⟩) (.int .i64 (i:Int))).run Tryz.prog w=.ok (.int .u8 ((s.getD i 0).toNat:Int)) w):=by
  show ∀i,_
  intro i hi w
  exact str_at s i (by omega) w
 generalize hS:(⟨s.toArray⟩:ByteArray)=S at hsz HA
 have HB:Hid (nmB s=(decide (1≤(L:Int))&&decide ((L:Int)≤32)&&s.all nmC)):=by
  show _=_
  unfold nmB
  rw[←hL]
  have e1:decide (1≤L)=decide (1≤(L:Int)):=by by_cases h:1≤L<;>simp[h]<;>omega
  have e2:decide (L≤32)=decide ((L:Int)≤32):=by by_cases h:L≤32<;>simp[h]<;>omega
  rw[e1,e2]
 clear hL hs hS
 go_enter Tryz.func133,Tryz.ntmps133
 go_wp2_with fail
 refine(fits_any _ _ _).mono ?_
 rintro e w1 ⟨rfl,rfl⟩
 obtain⟨f,hf⟩:∃f:Bool,f=(decide (1≤(L:Int))&&decide ((L:Int)≤32)):=⟨_,rfl⟩
 rw[←hf]
 rw[←hf] at HB
 clear hf
 cases f with
 |false=>
  go_wp2
  go_ret
  exact⟨by rw[HB.out];rfl,rfl⟩
 |true=>
  go_wp2
  go_loop [10] (fun iv=>∃i:Nat,i≤L∧iv=.int .i64 (i:Int)∧Hid (∀k,k<i→nmC (s.getD k 0)=true)) (fun iv=>L - (intOf iv).toNat)
  case atStart=>exact⟨0,by omega,rfl,(by show ∀k,_;intro k hk;omega)⟩
  case round=>
   obtain⟨i,hi,rfl,HI⟩:=hrel
   by_cases hlt:i<L
   ·have hd:decide ((i:Int)<(L:Int))=true:=decide_eq_true (by omega)
    have hiI:(i:Int)<(L:Int):=by omega
    have ha:=HA.out i hlt
    obtain⟨x,hx⟩:∃x:UInt8,x=s.getD i 0:=⟨_,rfl⟩
    rw[←hx] at ha
    have HX:Hid (x=s.getD i 0):=hx
    clear hx
    go_wp2_with fail
    refine(isSign_any x _ rfl _).mono ?_
    rintro e w1 ⟨rfl,rfl⟩
    obtain⟨b,hb⟩:∃b:Bool,b=nmC x:=⟨_,rfl⟩
    rw[←hb]
    have HC:Hid (b=nmC x):=hb
    clear hb
    cases b with
    |true=>
     go_wp2
     go_round
     case rel=>exact⟨i+1,by omega,by go_num,(by show ∀k,_;intro k hk;rcases Nat.lt_or_ge k i with h|h;exact HI.out k h;rw[show k=i by omega,←HX.out];exact HC.out.symm)⟩
     case measure=>simp[intOf]<;>omega
    |false=>
     have HF:Hid (nmB s=false):=by
      show _=_
      rw[HB.out]
      have:s.all nmC=false:=by
       rw[List.all_eq_false]
       refine⟨s.getD i 0,?_,by rw[←HX.out,←HC.out];simp⟩
       have h2:i<s.length:=by rw[←HL.out];exact hlt
       simp[h2]
      rw[this]
      rfl
     go_wp2
     go_ret
     exact⟨by rw[HF.out];rfl,rfl⟩
   ·have hd:decide ((i:Int)<(L:Int))=false:=decide_eq_false (by omega)
    have hiI:(L:Int)≤(i:Int):=by omega
    have HT:Hid (nmB s=true):=by
     show _=_
     have h2:s.all nmC=true:=by
      rw[List.all_eq_true]
      intro x hx
      obtain⟨k,hk,rfl⟩:=List.mem_iff_getElem.1 hx
      have:=HI.out k (by have:=HL.out;omega)
      simpa [hk] using this
     rw[HB.out,h2]
     rfl
    go_wp2
    go_ret
    exact⟨by rw[HT.out];rfl,rfl⟩

theorem wrM_eq (t:List Int):wrM t=(decide (1≤((t.length:Nat):Int))&&decide (((t.length:Nat):Int)≤12)&&t.all tkB):=by
 unfold wrM
 have e1:decide (1≤t.length)=decide (1≤(t.length:Int)):=by by_cases h:1≤t.length<;>simp[h]<;>omega
 have e2:decide (t.length≤12)=decide ((t.length:Int)≤12):=by by_cases h:t.length≤12<;>simp[h]<;>omega
 rw[e1,e2]
theorem tk_cases (x:Int):(decide (x<1)=true∧x<1∧tkB x=false)∨(decide (x<1)=false∧1≤x∧decide (10<x)=true∧10<x∧tkB x=false)∨(decide (x<1)=false∧1≤x∧decide (10<x)=false∧x≤10∧tkB x=true):=by
 unfold tkB
 by_cases h1:x<1
 ·exact .inl ⟨decide_eq_true h1,h1,by rw[decide_eq_false (by omega)];rfl⟩
 ·by_cases h2:10<x
  ·exact .inr (.inl ⟨decide_eq_false h1,by omega,decide_eq_true h2,h2,by rw[decide_eq_false (by omega:¬x≤10)];simp⟩)
  ·exact .inr (.inr ⟨decide_eq_false h1,by omega,decide_eq_false h2,by omega,by rw[decide_eq_true (by omega),decide_eq_true (by omega)];rfl⟩)

set_option maxRecDepth 100000 in
set_option maxHeartbeats 4000000 in
theorem wrMsg_any (b:Bool) (v:Value) (t:List Int) (A:Array Value) (hA:A=#[.bool b,v]) (w:World) (h:RdI .i64 w v t):
  Calls Tryz.prog 135 #[.agg A] w fun e w'=>e=.returned (.bool (wrM t))∧Below w.heap.size w w':=by
 obtain⟨a,c,rfl,h1,h2, -, -⟩:=id h
 unfold maxLen at h2
 obtain⟨M,hM⟩:∃M:Nat,M=t.length:=⟨_,rfl⟩
 have HR:Hid (RdI .i64 w (.slice a M c) t):=by rw[hM];exact h
 rw[←hM] at h1 hA
 have HM:Hid (M=t.length):=hM
 have HW:Hid (wrM t=(decide (1≤(M:Int))&&decide ((M:Int)≤12)&&t.all tkB)):=by show _=_;rw[wrM_eq,hM]
 clear h hM
 go_enter Tryz.func135,Tryz.ntmps135
 go_wp2_with (refine wpList_box_blk rfl 74 _ rfl [.bool b,.slice a M c] (by rw[←hA];rfl) ?_)
 intro w1 r1 b1 s1
 have c1:w1.cell? ⟨w.heap.size,1,none⟩=some (.slice a M c):=r1.cell 1
 have HR1:Hid (RdI .i64 w1 (.slice a M c) t):=HR.out.kept b1
 have hbw:=b1
 clear r1 b1 s1 hA
 go_wp2_with fail
 refine(fits_any _ _ _).mono ?_
 rintro e w2 ⟨rfl,rfl⟩
 obtain⟨f,hf⟩:∃f:Bool,f=(decide (1≤(M:Int))&&decide ((M:Int)≤12)):=⟨_,rfl⟩
 rw[←hf]
 rw[←hf] at HW
 clear hf
 cases f with
 |false=>
  go_wp2
  go_ret
  exact⟨by rw[HW.out];rfl,hbw⟩
 |true=>
  go_wp2
  go_loop [13] (fun iv=>∃i:Nat,i≤M∧iv=.int .i64 (i:Int)∧Hid (∀k,k<i→tkB (t.getD k 0)=true)) (fun iv=>M - (intOf iv).toNat)
  case atStart=>exact⟨0,by omega,rfl,(by show ∀k,_;intro k hk;omega)⟩
  case round=>
   obtain⟨j,hj,rfl,HJ⟩:=hrel
   by_cases hltj:j<M
   ·have hdj:decide ((j:Int)<(M:Int))=true:=decide_eq_true (by omega)
    have hjI:(j:Int)<(M:Int):=by omega
    obtain⟨gr,or,c',ev, -,hcj, -⟩:=HR1.out.cellAt (i:=j) (by rw[←HM.out];exact hltj)
    simp only[Value.slice.injEq] at ev
    obtain⟨rfl, -,rfl⟩:=ev
    obtain⟨x,hx⟩:∃x:Int,x=t.getD j 0:=⟨_,rfl⟩
    rw[←hx] at hcj
    have HX:Hid (x=t.getD j 0):=hx
    have HF:Hid (tkB x=false→wrM t=false):=fun e=>wrM_false (j:=j) (by rw[←HM.out];exact hltj) (by rw[←HX.out];exact e)
    clear hx
    rcases tk_cases x with ⟨q1,q2,hf⟩|⟨q1,q2,q3,q4,hf⟩|⟨q1,q2,q3,q4,hf⟩
    ·have HF:Hid (wrM t=false):=HF.out hf
     clear hf
     go_wp2
     go_ret
     exact⟨by rw[HF.out];rfl,hbw⟩
    ·have HF:Hid (wrM t=false):=HF.out hf
     clear hf
     go_wp2
     go_ret
     exact⟨by rw[HF.out];rfl,hbw⟩
    ·have HO:Hid (tkB x=true):=hf
     clear hf
     go_wp2
     go_round
     case rel=>exact⟨j+1,by omega,by go_num,(by show ∀k,_;intro k hk;rcases Nat.lt_or_ge k j with h|h;exact HJ.out k h;rw[show k=j by omega,←HX.out];exact HO.out)⟩
     case measure=>simp[intOf]<;>omega
   ·have hdj:decide ((j:Int)<(M:Int))=false:=decide_eq_false (by omega)
    have hjI:(M:Int)≤(j:Int):=by omega
    have HO:Hid (wrM t=true):=by
     show _=_
     have h2:t.all tkB=true:=by
      rw[List.all_eq_true]
      intro x hx
      obtain⟨k,hk,rfl⟩:=List.mem_iff_getElem.1 hx
      have:=HJ.out k (by have:=HM.out;omega)
      simpa [hk] using this
     rw[HW.out,h2]
     rfl
    go_wp2
    go_ret
    exact⟨by rw[HO.out];rfl,hbw⟩

theorem wpList_loadG {P:Program} {ops:Array Oper} {rest:List Oper} {op:Oper} {a:Act} {w:World} {Q:Exit→Act→World→Prop} (ty:TypeId) (x:Operand) (ho:op.op=.load ty x) {g:Nat} (hx:a.eval x=.pointer (some ⟨g,0,none⟩))
  {bt:TypeId} (cs:List Value) (hb:BlkAt g bt cs w) {d:TypeDesc} (hu:P.underlying ty=some d) (hd:d.isRow=true) (hi:(P.info? ty).map (·.size)=some cs.length) (hw:Region.wanted op (yielded ops a.tmps)=true)
  (h:wpList P ops Q rest (a.put op.dst (.agg cs.toArray)) w):wpList P ops Q (op :: rest) a w:=by
 refine wpList_step fun K hK=>?_
 rw[if_pos hw]
 unfold Oper.wp
 rw[exec_load_part ty x ho hx [] cs [] hb (Below.refl _ _) (by simp) rfl hu hd hi]
 exact hK _ _ h

theorem cellKP {w W:World} {p:Addr} {v:Value} (h:w.cell? p=some v) (hb:Below w.heap.size w W):W.cell? p=some v:=by
 rw[hb.cell (World.block_lt_of_cell? _ _ h)]
 exact h
theorem infoMsg:(Tryz.prog.info? 74).map (·.size)=some 2:=by kernel_rfl
theorem allocMsg (w:World):(Instr.alloc 74 true (.tuple #[])).run Tryz.prog w=.ok (.pointer (some ⟨w.heap.size,0,none⟩)) (w.alloc (.cells #[.bool false,.slice none 0 0] 74)):=by kernel_rfl
theorem range_two {w:World} {b o:Nat} {u v:Value} (h0:w.cell? ⟨b,o,none⟩=some u) (h1:w.cell? ⟨b,o+1,none⟩=some v):w.rangeAt b o [u,v]:=by
 intro j x hj
 match j,hj with
 |0,hj=>simp at hj;subst hj;exact h0
 |1,hj=>simp at hj;subst hj;exact h1
theorem ms_at {w:World} {a:Option Addr} {n c:Nat} {p:Ptn} (h:MsR w (.slice a n c) p) {k:Nat} (hk:k<p.n):∃b off a' c',a=some ⟨b,off,none⟩∧w.cell? ⟨b,off+k * 2,none⟩=some (.bool (p.ini k))∧w.cell? ⟨b,off+k * 2+1,none⟩=some (.slice a' (p.tk k).length c')∧RdI .i64 w (.slice a' (p.tk k).length c') (p.tk k)∧(p.tk k).length≤c'∧c'≤maxLen:=by
 obtain⟨a',cap',ev, -, -,h5⟩:=h.form
 simp only[Value.slice.injEq] at ev
 obtain⟨rfl, -,rfl⟩:=ev
 rcases h5 with h5|⟨b,off,rfl,hc⟩
 ·omega
 obtain⟨vt,g1,g2,g3⟩:=hc k hk
 obtain⟨at',ct,rfl,hv2,hv3, -, -⟩:=id g3
 rw[show off+(2 * k+1)=off+k * 2+1 by omega] at g2
 rw[show off+2 * k=off+k * 2 by omega] at g1
 exact⟨b,off,at',ct,rfl,g1,g2,g3,hv2,hv3⟩
structure TkT (w:World):Prop where
 words:∀i,i<11→w.cell? ⟨1,i,none⟩=some (.string ⟨(wdL.getD i []).toArray⟩)
 ar0:w.cell? ⟨0,0,none⟩=some (.string ⟨#[45,62]⟩)
 ar1:w.cell? ⟨0,1,none⟩=some (.string ⟨#[60,45]⟩)
 mx:∃m,w.cell? ⟨3,0,none⟩=some (.int .i64 m)

theorem TkT.kept {w w':World} (h:TkT w) (hb:Below w.heap.size w w'):TkT w':=
 ⟨fun i hi=>cellKP (h.words i hi) hb,cellKP h.ar0 hb,cellKP h.ar1 hb,h.mx.imp fun m hm=>cellKP hm hb⟩

theorem stC_length15 (ls:List (List UInt8)):(stC ls).length=ls.length:=by simp[stC]

theorem mk_toList (s:List UInt8):(⟨s.toArray⟩:ByteArray).data.toList=s:=by simp

theorem split15_any (c:UInt8) (s:List UInt8) (hs:s.length≤1000000) (w:World) (hT:TkT w):
  Calls Tryz.prog 87 #[.string ⟨s.toArray⟩,.string ⟨#[c]⟩] w fun e w'=>∃v,e=.returned v∧OwnG w [Rw.st v (splL c s)] w':=by
 obtain⟨m,hm⟩:=hT.mx
 refine(Tryz.strings_Split ⟨s.toArray⟩ ⟨#[c]⟩ m w (by rw[str_size];omega) hm (by show 1≤1;omega)).mono ?_
 rintro e w' ⟨rfl,rfl⟩
 refine⟨_,rfl,?_⟩
 rw[split_lib,count_lib,List.map_map]
 have hl:=splL_count c s
 exact(OwnG.start w).lit 9 1 (splL c s).length w.heap.size (stC (splL c s)) _ rfl rfl (by unfold maxLen;omega) (by simp[stC])

theorem trim_any (s:List UInt8) (hs:s.length≤1000000) (w:World):
  Calls Tryz.prog 88 #[.string ⟨s.toArray⟩,.string ⟨#[32]⟩] w fun e w'=>e=.returned (.string ⟨(tmT s).toArray⟩)∧Below w.heap.size w w':=by
 refine(Tryz.strings_Trim_one ⟨s.toArray⟩ 32 (by decide) w (by rw[str_size];omega)).mono ?_
 rintro e w' ⟨rfl,hw⟩
 rw[mk_toList,trim_tm]
 refine⟨rfl,?_⟩
 rcases hw with rfl|rfl
 ·exact Below.refl _ _
 ·exact(Below.refl _ _).drew

theorem trimR_any (s:List UInt8) (hs:s.length≤1000000) (w:World):
  Calls Tryz.prog 129 #[.string ⟨s.toArray⟩,.string ⟨#[32]⟩] w fun e w'=>e=.returned (.string ⟨(teT s).toArray⟩)∧w'=w:=by
 refine(Tryz.strings_TrimRight_one ⟨s.toArray⟩ 32 (by decide) w (by rw[str_size];omega)).mono ?_
 rintro e w' ⟨rfl,hw⟩
 rw[mk_toList,trimR_te]
 exact⟨rfl,hw⟩

theorem cutP_any (s p:List UInt8) (w:World):
  Calls Tryz.prog 290 #[.string ⟨s.toArray⟩,.string ⟨p.toArray⟩] w fun e w'=>e=.returned (.tuple #[.string ⟨(if p.isPrefixOf s then s.drop p.length else s).toArray⟩,.bool (p.isPrefixOf s)])∧w'=w:=by
 refine(Tryz.strings_CutPrefix ⟨s.toArray⟩ ⟨p.toArray⟩ w).mono ?_
 rintro e w' ⟨rfl,hw⟩
 rw[mk_toList,mk_toList]
 exact⟨rfl,hw⟩

theorem cutS_any (s p:List UInt8) (hs:s.length≤1000000) (w:World):
  Calls Tryz.prog 127 #[.string ⟨s.toArray⟩,.string ⟨p.toArray⟩] w fun e w'=>e=.returned (.tuple #[.string ⟨(if p.isSuffixOf s then s.take (s.length - p.length) else s).toArray⟩,.bool (p.isSuffixOf s)])∧w'=w:=by
 refine(Tryz.strings_CutSuffix ⟨s.toArray⟩ ⟨p.toArray⟩ w (by rw[str_size];omega)).mono ?_
 rintro e w' ⟨rfl,hw⟩
 rw[mk_toList,mk_toList]
 exact⟨rfl,hw⟩

set_option maxHeartbeats 1000000 in
theorem clone_any (s:List UInt8) (hs:s.length≤1000000) (w:World):
  Calls Tryz.prog 128 #[.string ⟨s.toArray⟩] w fun e w'=>e=.returned (.string ⟨s.toArray⟩)∧Below w.heap.size w w':=by
 have HC:Hid (Calls Tryz.prog 210 #[.string ⟨s.toArray⟩] w fun e w'=>e=.returned (.string ⟨s.toArray⟩)∧Below w.heap.size w w'):=Tryz.stringslite_Clone ⟨s.toArray⟩ w (by rw[str_size];omega)
 generalize (⟨s.toArray⟩:ByteArray)=S at HC ⊢
 go_enter Tryz.func128,Tryz.ntmps128
 go_wp2_with fail
 refine HC.out.mono ?_
 rintro e w1 ⟨rfl,b1⟩
 go_wp2
 go_ret
 exact⟨rfl,b1⟩

def ixL (x:List UInt8):List (List UInt8)→Int
 |[]=> -1
 |z :: zs=>if z=x then 0 else if ixL x zs= -1 then -1 else ixL x zs+1

theorem ixL_ge (x:List UInt8):∀zs, -1≤ixL x zs
 |[]=>by simp[ixL]
 |z :: zs=>by
  have:=ixL_ge x zs
  unfold ixL
  split
  ·omega
  ·split<;>omega

theorem ix_lib (x:List UInt8):∀(zs:List (List UInt8)) (i:Nat),Lib.idxFromS (zs.map fun l=>⟨l.toArray⟩) ⟨x.toArray⟩ i=if ixL x zs= -1 then -1 else ixL x zs+i
 |[],i=>by simp[Lib.idxFromS,ixL]
 |z :: zs,i=>by
  have ih:=ix_lib x zs (i+1)
  have hge:=ixL_ge x zs
  show(if (⟨z.toArray⟩:ByteArray)=⟨x.toArray⟩ then (i:Int) else Lib.idxFromS (zs.map fun l=>⟨l.toArray⟩) ⟨x.toArray⟩ (i+1))=_
  rw[ih]
  have eu:ixL x (z :: zs)=if z=x then 0 else if ixL x zs= -1 then -1 else ixL x zs+1:=rfl
  rw[eu]
  by_cases h:z=x
  ·subst h
   simp
  ·have h2:¬(⟨z.toArray⟩:ByteArray)=⟨x.toArray⟩:=fun e=>h (by have:=congrArg (fun b:ByteArray=>b.data.toList) e;simpa using this)
   rw[if_neg h2,if_neg h]
   by_cases h3:ixL x zs= -1
   ·rw[if_pos h3,if_pos h3,if_pos rfl]
   ·rw[if_neg h3,if_neg h3,if_neg (by omega)]
    omega

theorem idxS_any (x:List UInt8) (ls:List (List UInt8)) (v:Value) (w:World) (h:RdC w v (stC ls)) (hn:ls.length≤1000000):
  Calls Tryz.prog 130 #[v,.string ⟨x.toArray⟩] w fun e w'=>e=.returned (.int .i64 (ixL x ls))∧w'=w:=by
 obtain⟨a,c,rfl,h2,h3,h4,h5⟩:=h
 rw[stC_length15] at h2 h5 ⊢
 have e0:∀zs:List (List UInt8),Lib.idxOfS (zs.map fun l=>⟨l.toArray⟩) ⟨x.toArray⟩=ixL x zs:=fun zs=>by
  have:=ix_lib x zs 0
  unfold Lib.idxOfS
  rw[this]
  have:=ixL_ge x zs
  by_cases h:ixL x zs= -1
  ·rw[if_pos h,h]
  ·rw[if_neg h];simp
 rcases h5 with h|⟨b,off,rfl,hc⟩
 ·have:ls=[]:=List.map_eq_nil_iff.1 h
  subst this
  refine(Tryz.slices_Index_string_empty a c ⟨x.toArray⟩ w).mono ?_
  rintro e w' ⟨rfl,hw⟩
  exact⟨rfl,hw⟩
 ·have:=Tryz.slices_Index_string b off ls.length c (ls.map fun l=>(⟨l.toArray⟩:ByteArray)) ⟨x.toArray⟩ w (by rw[List.length_map];exact Nat.le_refl _) (by omega) (fun j hj=>by
   have hj2:j<ls.length:=by simpa using hj
   rw[hc j (by simpa using hj2)]
   simp[stC,hj2])
  rw[List.take_of_length_le (by rw[List.length_map];exact Nat.le_refl _),e0] at this
  exact this
end Go.Proofs.YtpgjobpmafbigaaGreatDoor

namespace Go.Proofs.YtpgjobpmafbigaaGreatDoor
set_option linter.unusedSimpArgs false
set_option linter.unusedVariables false

def s2L (l:List UInt8):List UInt8:=otL (abF 136 6 l) 136 32
theorem s2L_length (l:List UInt8):(s2L l).length=32:=otL_length _ _ _
def kyS (k:List UInt8):List UInt8:=if 136<k.length then s2L k else k
def kyL (k:List UInt8):List UInt8:=kyS k++List.replicate (136 - (kyS k).length) 0
def mxP (K:List UInt8) (c:UInt8) (j:Nat):List UInt8:=(List.range j).map fun t=>K.getD t 0^^^c
def mcF (k b:List UInt8):List UInt8:=s2L (mxP (kyL k) 92 136++s2L (mxP (kyL k) 54 136++b))
theorem mcF_length (k b:List UInt8):(mcF k b).length=32:=s2L_length _
def k1F (ck b:List UInt8):List UInt8:=mcF (mcF ck b) [1]
def k2F (ck b:List UInt8):List UInt8:=mcF (mcF ck b) (k1F ck b++[2])
def k3F (ck b:List UInt8):List UInt8:=mcF (mcF ck b) (k2F ck b++[3])
structure Cph where
 key:List UInt8
 n:Nat
structure Sta where
 ck:List UInt8
 h:List UInt8
 c:Cph
def ncL (n:Nat):List UInt8:=List.replicate 4 0++st8 n
def opQ (k n a s:List UInt8):List UInt8×Int:=
 if s.length<16 then ([],13) else if tgL k n a (s.take (s.length - 16))=s.drop (s.length - 16) then (smL k 1 n (s.take (s.length - 16)),0) else ([],10)
def seC (c:Cph) (ad t:List UInt8):Cph×List UInt8×Int:=
 if c.key.length=0 then (c,t,0) else if c.key.length≠32 then (c,[],1) else if c.n=18446744073709551615 then (c,[],31) else (⟨c.key,c.n+1⟩,seL c.key (ncL c.n) ad t,0)
def opC (c:Cph) (ad s:List UInt8):Cph×List UInt8×Int:=
 if c.key.length=0 then (c,s,0) else if c.key.length≠32 then (c,[],1) else if c.n=18446744073709551615 then (c,[],31)
 else if (opQ c.key (ncL c.n) ad s).2=0 then (⟨c.key,c.n+1⟩,(opQ c.key (ncL c.n) ad s).1,0) else (c,[],(opQ c.key (ncL c.n) ad s).2)
def nwH (s:List UInt8):List UInt8:=if 32<s.length then s2L s else s++List.replicate (32 - s.length) 0
def nwS (s:List UInt8):Sta:=⟨nwH s,nwH s,⟨[],0⟩⟩
def mhS (s:Sta) (b:List UInt8):Sta:=⟨s.ck,s2L (s.h++b),s.c⟩
def mkS (s:Sta) (i:List UInt8):Sta:=⟨k1F s.ck i,s.h,⟨k2F s.ck i,0⟩⟩
def mbS (s:Sta) (i:List UInt8):Sta:=⟨k1F s.ck i,s2L (s.h++k2F s.ck i),⟨k3F s.ck i,0⟩⟩
def seS (s:Sta) (t:List UInt8):Sta×List UInt8×Int:=if (seC s.c s.h t).2.2=0 then (⟨s.ck,s2L (s.h++(seC s.c s.h t).2.1),(seC s.c s.h t).1⟩,(seC s.c s.h t).2.1,0) else (s,[],(seC s.c s.h t).2.2)
def opS (s:Sta) (b:List UInt8):Sta×List UInt8×Int:=if (opC s.c s.h b).2.2=0 then (⟨s.ck,s2L (s.h++b),(opC s.c s.h b).1⟩,(opC s.c s.h b).2.1,0) else (s,[],(opC s.c s.h b).2.2)
theorem nwH_length (s:List UInt8):(nwH s).length=32:=by
 unfold nwH
 split
 ·exact s2L_length _
 ·rw[List.length_append,List.length_replicate];omega
structure Sound (s:Sta):Prop where
 ck:s.ck.length=32
 h:s.h.length=32
 key:s.c.key.length=0∨s.c.key.length=32
 n:s.c.n<18446744073709551616
theorem Sound.mx {s:Sta} (h:Sound s) (i:List UInt8):Sound (mkS s i):=⟨mcF_length _ _,h.h,.inr (mcF_length _ _),by show 0<_;omega⟩
theorem Sound.put {s:Sta} (h:Sound s) (n:Nat) (hn:n<18446744073709551616):Sound ⟨s.ck,s.h,⟨s.c.key,n⟩⟩:=⟨h.ck,h.h,h.key,hn⟩
theorem opQ_len (k n a s:List UInt8):(opQ k n a s).1.length≤s.length:=by
 unfold opQ
 split
 ·show 0≤_;omega
 ·split
  ·show(smL _ _ _ _).length≤_;rw[smL_length,List.length_take];omega
  ·show 0≤_;omega
theorem opC_facts (c:Cph) (a t:List UInt8) (hn:c.n<18446744073709551616):(opC c a t).1.key=c.key∧(opC c a t).1.n<18446744073709551616∧(opC c a t).2.1.length≤t.length:=by
 unfold opC
 split
 ·exact⟨rfl,hn,Nat.le_refl _⟩
 ·split
  ·exact⟨rfl,hn,by show 0≤_;omega⟩
  ·split
   ·exact⟨rfl,hn,by show 0≤_;omega⟩
   ·split
    ·refine⟨rfl,?_,opQ_len _ _ _ _⟩
     show c.n+1<_;omega
    ·exact⟨rfl,hn,by show 0≤_;omega⟩
theorem Sound.op {s:Sta} (h:Sound s) (t:List UInt8):Sound (opS s t).1:=by
 obtain⟨h1,h2, -⟩:=opC_facts s.c s.h t h.n
 unfold opS
 split
 ·exact⟨h.ck,s2L_length _,by show(opC s.c s.h t).1.key.length=0∨(opC s.c s.h t).1.key.length=32;rw[h1];exact h.key,h2⟩
 ·exact h
end Go.Proofs.YtpgjobpmafbigaaGreatDoor
