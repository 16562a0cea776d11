/- What functions of the program, or of the reference, answer: contracts; several texts in one. -/
import Derived.Test.YtpgjobpmafbigaaGreatDoorBase
import Derived.Test.YtpgjobpmafbigaaGreatDoorChecked
import Derived.OwnWalk
import Derived.Test.YtpgjobpmafbigaaGreatDoorRows
import Derived.Deep.QuietTactic
import Derived.BigQuiet
import Derived.WalkSpells
import Derived.RegionTactic
import Derived.BigRegion
import Derived.Laws.BitsAllLaws
import Derived.Laws.Externs
import Derived.Lib.Mul64
import Derived.WalkKit
import Derived.Below

namespace Go.Proofs.YtpgjobpmafbigaaGreatDoor
open Go.ChangeShapes Go.WideShapes Go.ChangeAt Go.RowKit
set_option linter.unusedSimpArgs false
set_option linter.unusedVariables false

theorem ret_int {k:IntKind} {a b:Int} (h:a=b):Ending.returned (.int k a)=.returned (.int k b):=by rw[h]

theorem val_int {k:IntKind} {a b:Int} (h:a=b):Value.int k a=.int k b:=by rw[h]

theorem load_any (v:Value) (l:List UInt8) (w:World) (hr:Rd w v l):
  Calls Tryz.prog 247 #[v] w fun e w'=>e=.returned (.int .u64 ((leN (l.take 8):Nat):Int))∧w'=w:=by
 obtain⟨a,cap,rfl,h2,h3,h4,h5⟩:=hr
 unfold maxLen at h3
 go_enter Tryz.func247,Tryz.ntmps247
 go_wp2
 all_goals
  go_loop [3,8] (fun x i=>∃k:Nat,k≤l.length∧k≤8∧i=.int .i64 k∧x=.int .u64 ((leN (l.take k):Nat):Int)) (fun _ i=>8 - (intOf i).toNat)
  case atStart=>exact⟨0,Nat.zero_le _,by omega,rfl,rfl⟩
  case round=>
   obtain⟨k,hk,hk8,rfl,rfl⟩:=hrel
   by_cases hlt:k<l.length∧k<8
   ·obtain⟨g1,g2⟩:=hlt
    rcases h5 with rfl|⟨b,off,rfl,hc⟩
    ·simp at g1
    have hck:=hc k g1
    have hst:=load_step l k g1 g2
    have HS:Hid _:=hst
    clear hst hc h4
    go_wp2
    go_round
    case rel=>exact⟨k+1,by omega,by omega,by go_num,val_int (by simpa [g1] using HS.out)⟩
    case measure=>simp[intOf];omega
   ·go_wp2
    go_ret
    refine⟨ret_int ?_,rfl⟩
    have:k=8∨k=l.length:=by omega
    rcases this with rfl|rfl
    ·rfl
    ·rw[List.take_of_length_le (Nat.le_refl _),List.take_of_length_le hk8]

theorem info5:(Tryz.prog.info? 5).map (fun i=>(i.zero,i.size,i.bytes))=some (some (.int .u8 0),1,1):=by kernel_rfl

theorem store_k (x:Nat) (n:Int) (k:Nat) (hk:k≤8) (hn:(n<0∧k=0)∨(0≤n∧n≤8∧n=k)∨(8<n∧k=8)) (w:World):
  Calls Tryz.prog 182 #[.int .u64 x,.int .i64 n] w fun e w'=>∃v,e=.returned v∧New 5 w v ((List.range k).map (stB x)) w':=by
 obtain⟨i,hi,hz0,hz1,hz2⟩:=info_parts info5
 have HK:Hid ((n<0∧k=0)∨(0≤n∧n≤8∧n=k)∨(8<n∧k=8)):=hn
 have hn':n<0∨(0≤n∧n≤8)∨8<n:=by omega
 clear hn
 rcases hn' with h1|⟨h1,h2⟩|h1
 all_goals
  go_enter Tryz.func182,Tryz.ntmps182
  go_wp2_with (at_make;refine wpList_make_full _ rfl _ _ 26 rfl w.heap.size 5 i _ 1 Tryz.underlying26 hi hz0 hz1 _ _ _ _ k rfl rfl (by have:=HK.out;omega) (by have:=HK.out;omega) (by rw[hz2];omega) (by unfold maxLen;omega) (Nat.le_refl _) ?_)
  intro w1 hown hgr
  have hF:=Fill.start (stB x) hown hgr
  clear hown hgr
  go_wp2
  go_loopw [13] (fun i wr=>∃j:Nat,j≤k∧i=.int .i64 j∧Fill 5 w w.heap.size k (stB x) j wr) (fun i _=>k - (intOf i).toNat)
  case atStart=>exact⟨0,Nat.zero_le _,rfl,hF⟩
  case round=>
   obtain⟨j,hj,rfl,hFj⟩:=hrel
   by_cases hlt:j<k
   ·obtain⟨hcj,hfj⟩:=hFj.cell hlt
    go_wp2
    go_roundw
    case rel=>exact⟨j+1,by omega,by go_num,hFj.step (stB_shr x j)⟩
    case measure=>simp[intOf];omega
   ·have:j=k:=by omega
    subst this
    go_wp2
    go_ret
    exact⟨_,rfl,hFj.done⟩

theorem below_drewN {B:Nat} {w wr:World} (h:Below B w wr):∀n,Below B w (wr.drewN n)
 |0=>h
 |n+1=>(below_drewN h n).drew

theorem equal_short (va vb:Value) (la lb:List UInt8) (w:World) (ha:Rd w va la) (hb:Rd w vb lb) (hne:la.length≠lb.length):
  Calls Tryz.prog 94 #[va,vb] w fun e w'=>e=.returned (.bool (decide (la=lb)))∧Below w.heap.size w w':=by
 obtain⟨aa,capa,rfl,ha2,ha3,ha4,ha5⟩:=ha
 obtain⟨ab,capb,rfl,hb2,hb3,hb4,hb5⟩:=hb
 have h1:((la.length:Int) !=(lb.length:Int))=true:=by simp;omega
 have h2:decide (la=lb)=false:=by
  simp only[decide_eq_false_iff_not]
  rintro rfl;exact hne rfl
 rw[h2]
 clear h2 ha5 hb5
 go_enter Tryz.func94,Tryz.ntmps94
 go_wp2
 go_ret
 exact⟨rfl,Below.refl _ _⟩

theorem equal_long (va vb:Value) (la lb:List UInt8) (w:World) (ha:Rd w va la) (hb:Rd w vb lb) (heq:la.length=lb.length):
  Calls Tryz.prog 94 #[va,vb] w fun e w'=>e=.returned (.bool (decide (la=lb)))∧Below w.heap.size w w':=by
 obtain⟨aa,capa,ea,ha2,ha3,ha4,ha5⟩:=id ha
 obtain⟨ab,capb,eb,hb2,hb3,hb4,hb5⟩:=id hb
 have Ha:Hid (Rd w va la):=ha
 have Hb:Hid (Rd w vb lb):=hb
 clear ha hb ha5 hb5
 subst ea eb
 unfold maxLen at ha3 hb3
 have h1:((la.length:Int) !=(lb.length:Int))=false:=by simp;omega
 have HE:Hid (la.length=lb.length):=heq
 clear heq
 go_enter Tryz.func94,Tryz.ntmps94
 go_wp2
 clear h1
 go_loopw [5,14] (fun x i wr=>∃(k:Nat) (s:UInt8),k≤la.length∧i=.int .i64 k∧x=.int .u8 (s.toNat:Int)∧Hid (s=orL ((xorL la lb).take k))∧Below w.heap.size w wr) (fun _ i _=>la.length - (intOf i).toNat)
 case atStart=>exact⟨0,0,Nat.zero_le _,rfl,rfl,rfl,Below.refl _ _⟩
 case round=>
  obtain⟨k,s,hk,rfl,rfl,HS,hB⟩:=hrel
  by_cases hlt:k<la.length
  ·obtain⟨ba,oa,ca,ea,_,hca,_⟩:=(Rd.kept2 Ha hB).cellAt (i:=k) hlt
   obtain⟨bb,ob,cb,eb,_,hcb,_⟩:=(Rd.kept2 Hb hB).cellAt (i:=k) (by have:=HE.out;omega)
   simp only[Value.slice.injEq] at ea eb
   obtain⟨rfl,_,rfl⟩:=ea
   obtain⟨rfl,_,rfl⟩:=eb
   have hX:=xorL_take_succ la lb k hlt (by have:=HE.out;omega)
   have g1:(k:Int)<la.length:=by omega
   have g2:(k:Int)<lb.length:=by have:=HE.out;omega
   generalize la.getD k 0=x at hX hca
   generalize lb.getD k 0=y at hX hcb
   have HX:Hid _:=hX
   have HO:Hid _:=byte_xor x y
   have HP:Hid _:=byte_or s (x^^^y)
   clear hX
   go_wp2
   go_quiet (fail)
   go_wp2
   go_roundw
   case rel=>exact⟨k+1,s ||| (x^^^y),by omega,by go_num,val_int (by rw[HO.out];exact HP.out),by rw[HS.out,HX.out,orL_snoc];rfl,below_drewN hB _⟩
   case measure=>simp[intOf];omega
  ·have HZ:Hid ((((s.toNat:Nat):Int)==0)=decide (s=0)):=nat0_beq s
   have HF:Hid (s=orL (xorL la lb)):=by
    have:(xorL la lb).take k=xorL la lb:=List.take_of_length_le (by rw[xorL_length];have:=HE.out;omega)
    rw[this] at HS;exact HS
   go_wp2
   go_ret
   refine⟨congrArg (fun b=>Ending.returned (.bool b)) (HZ.out.trans ?_),hB⟩
   rw[HF.out]
   exact decide_eq_decide.2 (orL_xorL la lb HE.out)

theorem equal_any (va vb:Value) (la lb:List UInt8) (w:World) (ha:Rd w va la) (hb:Rd w vb lb):
  Calls Tryz.prog 94 #[va,vb] w fun e w'=>e=.returned (.bool (decide (la=lb)))∧Below w.heap.size w w':=by
 by_cases h:la.length=lb.length
 ·exact equal_long va vb la lb w ha hb h
 ·exact equal_short va vb la lb w ha hb h

theorem join_any (v:Value) (vs:List Value) (ls:List (List UInt8)) (w:World) (h:RdL w v vs ls) (ht:totL ls≤1000000000):
  Calls Tryz.prog 43 #[v] w fun e w'=>∃r,e=.returned r∧New 5 w r ls.flatten w':=by
 obtain⟨i,hi,hz0,hz1,hz2⟩:=info_parts info5
 have H:Hid (RdL w v vs ls):=h
 obtain⟨⟨a,cap,ev,h2,h3,h5⟩,h6,h7⟩:=id h
 clear h h5 h7
 subst ev
 unfold maxLen at h3
 have HL:Hid (vs.length=ls.length):=h6
 clear h6
 go_enter Tryz.func43,Tryz.ntmps43
 go_wp2
 go_loop [3,9] (fun x i=>∃(k t:Nat),k≤vs.length∧t≤1000000000∧i=.int .i64 k∧x=.int .i64 (t:Int)∧Hid (t=totL (ls.take k))) (fun _ i=>vs.length - (intOf i).toNat)
 case atStart=>exact⟨0,0,Nat.zero_le _,by omega,rfl,rfl,rfl⟩
 case round=>
  obtain⟨k,t,hk,htb,rfl,rfl,HT⟩:=hrel
  by_cases hlt:k<vs.length
  ·obtain⟨b,off,cap',a',cap2,ev,_,hc,hr⟩:=H.out.cellAt (i:=k) hlt
   simp only[Value.slice.injEq] at ev
   obtain⟨rfl,_,rfl⟩:=ev
   have HS:Hid _:=totL_take_succ ls k (by have:=HL.out;omega)
   have hle:=totL_take_le ls (k+1)
   rw[HS.out] at hle
   have hsum:t+(ls.getD k []).length≤1000000000:=by rw[HT.out];omega
   generalize ls.getD k []=lk at hc hr HS hsum
   clear hle hr
   go_wp2
   go_round
   case rel=>exact⟨k+1,t+lk.length,by omega,by omega,by go_num,by go_num,by rw[HT.out];exact HS.out.symm⟩
   case measure=>simp[intOf];omega
  ·have HF:Hid (t=totL ls):=by
    have:ls.take k=ls:=List.take_of_length_le (by have:=HL.out;omega)
    rw[this] at HT;exact HT
   go_wp2_with (at_make;go_must (refine wpList_make_own _ rfl _ _ 26 rfl w.heap.size 5 i _ 1 Tryz.underlying26 hi hz0 hz1 _ _ _ t rfl rfl rfl (by rw[hz2];omega) (by unfold maxLen;omega) (Nat.le_refl _) ?_))
   intro w1 hown hgr
   have hN1:New 5 w _ [] w1:=⟨hown,(Below.refl _ _).grown hgr (Nat.le_refl _) (by simp)⟩
   clear hown hgr
   go_wp2
   go_loopw [5,24] (fun r i wr=>∃(m:Nat),m≤vs.length∧i=.int .i64 m∧New 5 w r (ls.take m).flatten wr) (fun _ i _=>vs.length - (intOf i).toNat)
   case atStart=>exact⟨0,Nat.zero_le _,rfl,hN1⟩
   case round=>
    obtain⟨m,hm,rfl,hN⟩:=hrel
    by_cases hlm:m<vs.length
    ·obtain⟨b,off,cap',a',cap2,ev,_,hc,hr⟩:=(H.out.kept hN.2).cellAt (i:=m) hlm
     simp only[Value.slice.injEq] at ev
     obtain⟨rfl,_,rfl⟩:=ev
     have HS:Hid _:=flat_take_succ ls m (by have:=HL.out;omega)
     have hle:=totL_take_le ls (m+1)
     rw[totL_take_succ ls m (by have:=HL.out;omega)] at hle
     have hsum:(ls.take m).flatten.length+(ls.getD m []).length≤1000000000:=by unfold totL at hle ht;omega
     generalize ls.getD m []=lk at hc hr HS hsum
     clear hle
     have HSum:Hid ((ls.take m).flatten.length+lk.length≤1000000000):=hsum
     clear hsum
     go_wp2_with (at_builtin;go_must (refine wpList_append_new (w:=w) rfl _ _ 26 rfl 5 Tryz.underlying26 info5 u5 _ rfl hN _ lk rfl hr (by have:=HSum.out;omega) ?_))
     intro v2 w2 hN2 _
     go_wp2
     go_roundw
     case rel=>exact⟨m+1,by omega,by go_num,by rw[HS.out];exact hN2⟩
     case measure=>simp[intOf];omega
    ·have:ls.take m=ls:=List.take_of_length_le (by have:=HL.out;omega)
     rw[this] at hN
     clear this
     go_wp2
     go_ret
     exact⟨_,rfl,hN⟩

theorem equal_bool (va vb:Value) (la lb:List UInt8) (b:Bool) (hab:decide (la=lb)=b) (w:World) (ha:Rd w va la) (hb:Rd w vb lb):
  Calls Tryz.prog 94 #[va,vb] w fun e w'=>e=.returned (.bool b)∧Below w.heap.size w w':=by
 subst hab;exact equal_any va vb la lb w ha hb

theorem infoU8:(Tryz.prog.info? 5).map (fun i=>(i.zero,i.size,i.bytes))=some (some (.int .u8 0),1,1):=by kernel_rfl

theorem NewI.place {k:IntKind} {e:TypeId} {w wr:World} {g n cap:Nat} {l:List Int} (h:NewI k e w (.slice (some ⟨g,0,none⟩) n cap) l wr) {j:Nat} (hj:j<l.length):
  n=l.length∧w.heap.size≤g∧wr.cell? ⟨g,j,none⟩=some (.int k (l.getD j 0))∧wr.frozen? ⟨g,j,none⟩=false∧∀x:Int,NewI k e w (.slice (some ⟨g,0,none⟩) n cap) (l.set j x) (wr.setCell ⟨g,j,none⟩ (.int k x)):=by
 obtain⟨g',c',ev,h1, -,h2,h3,h4⟩:=h.at hj
 simp only[Value.slice.injEq,Option.some.injEq,Addr.mk.injEq,and_true,true_and] at ev
 obtain⟨rfl,rfl,rfl⟩:=ev
 exact⟨rfl,h1,h2,h3,h4⟩
theorem W16.len {l:List Nat} (h:W16 l):(nI l).length=16:=by rw[nI_length,h.1]
theorem W16.ne {l:List Nat} (h:W16 l):nI l≠[]:=by
 intro e
 have:=h.len
 rw[e] at this
 cases this
theorem Wrote.drew {g:Nat} {w w':World} (h:Wrote g w w'):Wrote g w w'.drew:=⟨h.size,h.other,fun B a hB hb=>(h.below B a hB hb).drew⟩
end Go.Proofs.YtpgjobpmafbigaaGreatDoor

namespace Go.Proofs.YtpgjobpmafbigaaGreatDoor
set_option linter.unusedSimpArgs false
set_option linter.unusedVariables false

def rsZ (x:Int):Nat:=(x % 3329).toNat
theorem rsZ_lt (x:Int):rsZ x<3329:=by unfold rsZ;omega
theorem rsZ_int (x:Int):((rsZ x:Nat):Int)=x % 3329:=by unfold rsZ;omega
theorem rsZ_nat (n:Nat):rsZ (n:Int)=n % 3329:=by unfold rsZ;omega
theorem pr3329:Pr 3329:=pr_trial 3329 (by decide) (by decide+kernel)
theorem pow_one (a e:Nat) (he:e=3328) (h:a % 3329≠0):a ^ e % 3329=1:=by
 have h1:=fermat pr3329 a (fun hd=>h (Nat.mod_eq_zero_of_dvd hd))
 have h2:3329 - 1=e:=by omega
 rw[h2] at h1
 exact h1
def tnJ (m:Nat):Nat→Nat
 |0=>0
 |j+1=>tnJ m j * 2+m / 2 ^ j % 2
def cpZ (d:Nat) (x:Int):Nat:=(2 ^ (d+1) * rsZ x+3329) / 6658 % 2 ^ d
def twZ (d:Nat) (y:Int):Nat:=(y % ((2 ^ d:Nat):Int)).toNat
def dcZ (d:Nat) (y:Int):Nat:=(6658 * twZ d y+2 ^ d) / 2 ^ (d+1)
def allB (p:Nat→Bool):Nat→Bool
 |0=>true
 |n+1=>p n&&allB p n
theorem allB_at {p:Nat→Bool}:∀{n:Nat},allB p n=true→∀i,i<n→p i=true
 |0,_,i,h=>by omega
 |n+1,h,i,hi=>by
  simp only[allB,Bool.and_eq_true] at h
  rcases Nat.lt_or_ge i n with h1|h1
  ·exact allB_at h.2 i h1
  ·have:i=n:=by omega
   subst this
   exact h.1
theorem twZ_lt (d:Nat) (y:Int):twZ d y<2 ^ d:=by
 have h:(0:Int)<((2 ^ d:Nat):Int):=by exact_mod_cast Nat.pow_pos (by decide)
 unfold twZ
 have:=Int.emod_lt_of_pos y h
 have:=Int.emod_nonneg y (by omega:((2 ^ d:Nat):Int)≠0)
 omega
theorem and_low (d:Nat) (hd:d≤62) (y:Int) (hy: -9223372036854775808≤y∧y≤9223372036854775807):bits .and .i64 y (((2 ^ d - 1:Nat)):Int)=((twZ d y:Nat):Int):=by
 have hp:2 ^ d≤2 ^ 62:=Nat.pow_le_pow_right (by decide) hd
 have hp1:1≤2 ^ d:=Nat.pow_pos (by decide)
 have hp2:(2:Nat) ^ 62=4611686018427387904:=by decide
 have e1:(BitVec.ofInt 64 (((2 ^ d - 1:Nat)):Int)).toNat=2 ^ d - 1:=ofInt_u64 _ (by omega)
 have e2:(BitVec.ofInt 64 y &&& BitVec.ofInt 64 (((2 ^ d - 1:Nat)):Int)).toNat=twZ d y:=by
  rw[BitVec.toNat_and,e1,Nat.and_two_pow_sub_one_eq_mod,BitVec.toNat_ofInt]
  unfold twZ
  have hdv:((2 ^ d:Nat):Int) ∣ ((2 ^ 64:Nat):Int):=by
   refine Int.natCast_dvd_natCast.2 ⟨2 ^ (64 - d),?_⟩
   rw[←Nat.pow_add]
   congr 1
   omega
  have h3:(y % ((2 ^ 64:Nat):Int)) % ((2 ^ d:Nat):Int)=y % ((2 ^ d:Nat):Int):=Int.emod_emod_of_dvd y hdv
  have h4:0≤y % ((2 ^ 64:Nat):Int):=Int.emod_nonneg y (by decide)
  rw[←h3]
  obtain⟨q,hq⟩:=Int.eq_ofNat_of_zero_le h4
  rw[hq]
  simp only[Int.toNat_natCast]
  rw[←Int.natCast_emod,Int.toNat_natCast]
 have h5:=twZ_lt d y
 show IntKind.i64.wrap ((BitVec.ofInt 64 y &&& BitVec.ofInt 64 (((2 ^ d - 1:Nat)):Int)).toNat:Int)=_
 rw[e2]
 exact IntWalk.i64_in _ (by constructor<;>omega)
theorem rs_add (a b:Int):rsZ (a+b)=(rsZ a+rsZ b) % 3329:=by unfold rsZ;omega
theorem rs_sub (a b:Int):rsZ (a - b)=(rsZ a+3329 - rsZ b) % 3329:=by unfold rsZ;omega
theorem rs_mul (a b:Int):rsZ (a * b)=rsZ a * rsZ b % 3329:=by
 have h:((rsZ (a * b):Nat):Int)=((rsZ a * rsZ b % 3329:Nat):Int):=by
  rw[rsZ_int,Int.natCast_emod,Int.natCast_mul,rsZ_int,rsZ_int]
  exact Int.mul_emod a b 3329
 exact_mod_cast h
end Go.Proofs.YtpgjobpmafbigaaGreatDoor

namespace Go.Proofs.YtpgjobpmafbigaaGreatDoor
open Go.ChangeShapes Go.WideShapes Go.ChangeAt Go.RowKit
set_option linter.unusedSimpArgs false
set_option linter.unusedVariables false

abbrev In64 (x:Int):Prop:= -9223372036854775808≤x∧x≤9223372036854775807
theorem retZ {k:IntKind} {a b:Int} (h:a=b):Ending.returned (.int k a)=.returned (.int k b):=by rw[h]

theorem and_none:bits .and .i64 3329 0=0:=by decide+kernel
theorem and_all:bits .and .i64 3329 (-1)=3329:=by decide+kernel
theorem zlifted_any (x:Int) (h1: -3329≤x) (h2:x<3329) (w:World):
  Calls Tryz.prog 333 #[.int .i64 x] w fun e w'=>e=.returned (.int .i64 ((rsZ x:Nat):Int))∧w'=w:=by
 rw[rsZ_int]
 have a0:=and_none
 have a1:=and_all
 by_cases h0:x<0
 ·have e1:x / 9223372036854775808= -1:=by omega
  have e2:x / 2 ^ 63= -1:=by omega
  have HE:Hid (x+3329=x % 3329):=by show _=_;omega
  go_enter Tryz.func333,Tryz.ntmps333
  go_wp2
  go_ret
  exact⟨retZ HE.out,rfl⟩
 ·have e1:x / 9223372036854775808=0:=by omega
  have e2:x / 2 ^ 63=0:=by omega
  have HE:Hid (x=x % 3329):=by show _=_;omega
  go_enter Tryz.func333,Tryz.ntmps333
  go_wp2
  go_ret
  exact⟨retZ (by have:=HE.out;omega),rfl⟩

theorem tmod_rest (x:Int):∃r:Int,x.tmod 3329=r∧ -3329<r∧r<3329∧rsZ r=rsZ x:=by
 refine⟨_,rfl,?_⟩
 unfold rsZ
 by_cases h:0≤x
 ·rw[Int.tmod_eq_emod_of_nonneg h]
  omega
 ·obtain⟨y,rfl⟩:∃y,x= -y:=⟨-x,by omega⟩
  rw[Int.neg_tmod,Int.tmod_eq_emod_of_nonneg (by omega)]
  omega
theorem zmod_any (x:Int) (hx:In64 x) (w:World):
  Calls Tryz.prog 274 #[.int .i64 x] w fun e w'=>e=.returned (.int .i64 ((rsZ x:Nat):Int))∧w'=w:=by
 obtain⟨r,hr,h1,h2,h3⟩:=tmod_rest x
 rw[←h3]
 have H3:Hid _:=h3
 clear h3
 go_enter Tryz.func274,Tryz.ntmps274
 go_wp2_with fail
 refine(zlifted_any r (by omega) h2 _).mono ?_
 rintro e w1 ⟨rfl,rfl⟩
 go_wp2
 go_ret
 exact⟨rfl,rfl⟩

theorem zadd_any (a b:Int) (ha:In64 a) (hb:In64 b) (w:World):
  Calls Tryz.prog 326 #[.int .i64 a,.int .i64 b] w fun e w'=>e=.returned (.int .i64 ((rsZ (a+b):Nat):Int))∧w'=w:=by
 have HF:Hid (rsZ (a+b)=rsZ (((rsZ a:Nat):Int)+((rsZ b:Nat):Int) - 3329)):=by
  show _=_
  rw[rsZ_int,rsZ_int]
  unfold rsZ
  omega
 have h1:=rsZ_lt a
 have h2:=rsZ_lt b
 go_enter Tryz.func326,Tryz.ntmps326
 go_wp2_with fail
 refine(zmod_any a ha _).mono ?_
 rintro e w1 ⟨rfl,rfl⟩
 go_wp2_with fail
 refine(zmod_any b hb _).mono ?_
 rintro e w2 ⟨rfl,rfl⟩
 generalize rsZ a=p at h1 HF ⊢
 generalize rsZ b=q at h2 HF ⊢
 go_wp2_with fail
 refine(zlifted_any _ (by omega) (by omega) _).mono ?_
 rintro e w3 ⟨rfl,rfl⟩
 go_wp2
 go_ret
 exact⟨retZ (by rw[HF.out]),rfl⟩

theorem zsub_any (a b:Int) (ha:In64 a) (hb:In64 b) (w:World):
  Calls Tryz.prog 281 #[.int .i64 a,.int .i64 b] w fun e w'=>e=.returned (.int .i64 ((rsZ (a - b):Nat):Int))∧w'=w:=by
 have HF:Hid (rsZ (a - b)=rsZ (((rsZ a:Nat):Int) - ((rsZ b:Nat):Int))):=by
  show _=_
  rw[rsZ_int,rsZ_int]
  unfold rsZ
  omega
 have h1:=rsZ_lt a
 have h2:=rsZ_lt b
 go_enter Tryz.func281,Tryz.ntmps281
 go_wp2_with fail
 refine(zmod_any a ha _).mono ?_
 rintro e w1 ⟨rfl,rfl⟩
 go_wp2_with fail
 refine(zmod_any b hb _).mono ?_
 rintro e w2 ⟨rfl,rfl⟩
 generalize rsZ a=p at h1 HF ⊢
 generalize rsZ b=q at h2 HF ⊢
 go_wp2_with fail
 refine(zlifted_any _ (by omega) (by omega) _).mono ?_
 rintro e w3 ⟨rfl,rfl⟩
 go_wp2
 go_ret
 exact⟨retZ (by rw[HF.out]),rfl⟩

theorem zmul_any (a b:Int) (ha:In64 a) (hb:In64 b) (w:World):
  Calls Tryz.prog 285 #[.int .i64 a,.int .i64 b] w fun e w'=>e=.returned (.int .i64 ((rsZ (a * b):Nat):Int))∧w'=w:=by
 have HF:Hid (rsZ (a * b)=rsZ ((rsZ a * rsZ b:Nat):Int)):=by
  show _=_
  rw[rs_mul,rsZ_nat]
 have h1:=rsZ_lt a
 have h2:=rsZ_lt b
 go_enter Tryz.func285,Tryz.ntmps285
 go_wp2_with fail
 refine(zmod_any a ha _).mono ?_
 rintro e w1 ⟨rfl,rfl⟩
 go_wp2_with fail
 refine(zmod_any b hb _).mono ?_
 rintro e w2 ⟨rfl,rfl⟩
 generalize rsZ a=p at h1 HF ⊢
 generalize rsZ b=q at h2 HF ⊢
 obtain⟨y,hy⟩:∃y:Nat,y=p * q:=⟨_,rfl⟩
 have hyb:y≤3329 * 3329:=by rw[hy];exact Nat.mul_le_mul (by omega) (by omega)
 have e1:(p:Int) * (q:Int)=(y:Int):=by rw[hy,Int.natCast_mul]
 rw[←hy] at HF
 clear hy
 go_wp2_with fail
 refine(zmod_any (y:Int) ⟨by omega,by omega⟩ _).mono ?_
 rintro e w3 ⟨rfl,rfl⟩
 go_wp2
 go_ret
 exact⟨retZ (by rw[HF.out]),rfl⟩
end Go.Proofs.YtpgjobpmafbigaaGreatDoor

namespace Go.Proofs.YtpgjobpmafbigaaGreatDoor
set_option linter.unusedSimpArgs false
set_option linter.unusedVariables false

def piF (f:Nat→Nat) (i:Nat):Nat:=f ((i % 5+3 * (i / 5)) % 5+5 * (i % 5))
def chB (f:Nat→Nat) (x y z:Nat):Bool:=decide ((bitN f x y z+if bitN f ((x+1) % 5) y z=0∧bitN f ((x+2) % 5) y z=1 then 1 else 0) % 2=1)
def chF (f:Nat→Nat) (i:Nat):Nat:=ofB (chB f (i % 5) (i / 5)) 64
def rhXY:Nat→Nat×Nat
 |0=>(1,0)
 |t+1=>((rhXY t).2,(2 * (rhXY t).1+3 * (rhXY t).2) % 5)
def rhPos (t:Nat):Nat:=(rhXY t).1+5 * (rhXY t).2
def rhBy (t:Nat):Nat:=(t+1) * (t+2) / 2 % 64
def rhTau (i:Nat):Nat:=(List.range 24).findIdx fun t=>rhPos t==i
theorem rhXY_lt:∀t,t<25→(rhXY t).1<5∧(rhXY t).2<5:=by decide
theorem rhPos_tau:∀i,i<25→i≠0→rhTau i<24∧rhPos (rhTau i)=i:=by decide
def rhG (f:Nat→Nat) (t z p:Nat):Bool:=decide ((p+64 - rhBy t) % 64<z)&&decide (bitN f (rhXY t).1 (rhXY t).2 ((p+64 - rhBy t) % 64)=1)
def rhF (f:Nat→Nat) (i:Nat):Nat:=if i=0 then f 0 else ofB (rhG f (rhTau i) 64) 64
theorem rhBy_lt (t:Nat):rhBy t<64:=Nat.mod_lt _ (by decide)
def rcStep (r:List Int):List Int:=
 [r.getD 7 0 % 2,r.getD 0 0,r.getD 1 0,r.getD 2 0,(r.getD 3 0+r.getD 7 0) % 2,(r.getD 4 0+r.getD 7 0) % 2,(r.getD 5 0+r.getD 7 0) % 2,r.getD 6 0]
def rcS:Nat→List Int
 |0=>[1,0,0,0,0,0,0,0]
 |n+1=>rcStep (rcS n)
end Go.Proofs.YtpgjobpmafbigaaGreatDoor

namespace Go.Proofs.YtpgjobpmafbigaaGreatDoor
open Go.ChangeShapes Go.WideShapes Go.ChangeAt Go.RowKit
set_option linter.unusedSimpArgs false
set_option linter.unusedVariables false

end Go.Proofs.YtpgjobpmafbigaaGreatDoor

namespace Go.Proofs.YtpgjobpmafbigaaGreatDoor
set_option linter.unusedSimpArgs false
set_option linter.unusedVariables false

def rcB (t:Nat):Bool:=decide ((rcS (t % 255)).getD 0 0=1)
def ioT (i J p:Nat):Bool:=(List.range J).any fun j=>decide (p=2 ^ j - 1)&&rcB (j+7 * i)
def ioG (x i J p:Nat):Bool:=Bool.xor (decide (x / 2 ^ p % 2=1)) (ioT i J p)
def ioL (x i J:Nat):Nat:=ofB (ioG x i J) 64
def ioF (f:Nat→Nat) (i k:Nat):Nat:=if k=0 then ioL (f 0) i 7 else f k
theorem ioL_lt (x i J:Nat):ioL x i J<18446744073709551616:=ofB_64 _ _ (Nat.le_refl _)
theorem thF_lt (f:Nat→Nat) (i:Nat):thF f i<18446744073709551616:=ofB_64 _ _ (Nat.le_refl _)
theorem chF_lt (f:Nat→Nat) (i:Nat):chF f i<18446744073709551616:=ofB_64 _ _ (Nat.le_refl _)
theorem piF_lt (f:Nat→Nat) (hf:∀i,f i<18446744073709551616) (i:Nat):piF f i<18446744073709551616:=hf _
theorem ioF_lt (f:Nat→Nat) (hf:∀i,f i<18446744073709551616) (j i:Nat):ioF f j i<18446744073709551616:=by
 unfold ioF
 split
 ·exact ioL_lt _ _ _
 ·exact hf i
def rdF (f:Nat→Nat) (i:Nat):Nat→Nat:=ioF (chF (piF (rhF (thF f)))) i
theorem rdF_lt (f:Nat→Nat) (j i:Nat):rdF f j i<18446744073709551616:=ioF_lt _ (chF_lt _) _ _
def rdsF (f:Nat→Nat):Nat→Nat→Nat
 |0=>f
 |n+1=>rdF (rdsF f n) n
theorem rdsF_lt (f:Nat→Nat) (hf:∀i,f i<18446744073709551616):∀n i,rdsF f n i<18446744073709551616
 |0,i=>hf i
 |n+1,i=>rdF_lt _ _ _
end Go.Proofs.YtpgjobpmafbigaaGreatDoor

namespace Go.Proofs.YtpgjobpmafbigaaGreatDoor
open Go.ChangeShapes Go.WideShapes Go.ChangeAt Go.RowKit
set_option linter.unusedSimpArgs false
set_option linter.unusedVariables false

theorem exec_head {op:Oper} {a:Act} {W:World} {ab:Option Addr} {L cb m:Nat} (x h:Operand) (ho:op.op=.slice 26 x none (some h) none) (hx:a.eval x=.slice ab L cb) (hh:a.eval h=.int .i64 (m:Int)) (hm:m≤L) (hL:L≤cb) (hc:cb≤maxLen) (hn:ab=none→cb=0):
  (execOp a.eval op).run Tryz.prog W=.ok (.value (.slice ab m cb)) W:=by
 have h1:(m:Int)≤(cb:Int):=by omega
 unfold maxLen at hc
 unfold execOp
 simp only[ho,hx,hh,Option.map]
 cases ab with
 |none=>
  have:=hn rfl
  subst this
  obtain rfl:m=0:=by omega
  obtain rfl:L=0:=by omega
  go_simp
 |some y=>
  go_simp
theorem exec_tail {ab:Option Addr} {L cb m:Nat} (hm:m≤L) (hL:L≤cb) (hc:cb≤maxLen) (hn:ab=none→cb=0):
  ∃ab':Option Addr,(∀{op:Oper} {a:Act} {W:World} (x h:Operand),op.op=.slice 26 x (some h) none none→a.eval x=.slice ab L cb→a.eval h=.int .i64 (m:Int)→(execOp a.eval op).run Tryz.prog W=.ok (.value (.slice ab' (L - m) (cb - m))) W)∧
   ∀(w:World) (b:List UInt8),Rd w (.slice ab L cb) b→Rd w (.slice ab' (L - m) (cb - m)) (b.drop m):=by
 have h1:(m:Int)≤(L:Int):=by omega
 have h2:(L:Int)≤(cb:Int):=by omega
 unfold maxLen at hc
 cases ab with
 |none=>
  have:=hn rfl
  subst this
  obtain rfl:L=0:=by omega
  obtain rfl:m=0:=by omega
  refine⟨none,fun x h ho hx hh=>?_,fun w b hb=>hb⟩
  unfold execOp
  simp only[ho,hx,hh,Option.map]
  go_simp
 |some y=>
  by_cases hcm:cb=m
  ·refine⟨some y,fun x h ho hx hh=>?_,fun w b hb=>?_⟩
   ·unfold execOp
    simp only[ho,hx,hh,Option.map]
    go_simp
   ·obtain⟨a',c',ev,h3,h4,h5,h6⟩:=hb
    simp only[Value.slice.injEq] at ev
    obtain⟨rfl,hLb,rfl⟩:=ev
    have h0:b.drop m=[]:=List.drop_eq_nil_of_le (by omega)
    rw[h0,show L - m=0 by omega,hcm,Nat.sub_self]
    exact⟨_,0,rfl,by simp,by simp,fun _=>rfl,.inl rfl⟩
  ·refine⟨some (y.add m),fun x h ho hx hh=>?_,fun w b hb=>?_⟩
   ·unfold execOp
    simp only[ho,hx,hh,Option.map]
    go_simp
   ·obtain⟨a',c',ev,h3,h4,h5,h6⟩:=hb
    simp only[Value.slice.injEq] at ev
    obtain⟨rfl,hLb,rfl⟩:=ev
    refine⟨_,_,(by rw[List.length_drop,←hLb]),(by rw[List.length_drop];omega),(by unfold maxLen;omega),(fun h=>by cases h),?_⟩
    rcases h6 with rfl|⟨g,off,e,hcell⟩
    ·exact .inl (by simp)
    ·simp only[Option.some.injEq] at e
     subst e
     refine .inr ⟨g,off+m,by unfold Addr.add;split<;>simp_all,fun i hi=>?_⟩
     rw[List.length_drop] at hi
     rw[Nat.add_assoc,hcell (m+i) (by omega)]
     simp
abbrev elV (l:List Nat):Value:=.agg ((nI l).map (Value.int .u64)).toArray
theorem elInfo {l:List Nat} (h:El4 l):(Tryz.prog.info? 157).map (·.size)=some (nI l).length:=by rw[h.len];kernel_rfl
theorem elMax {l:List Nat} (h:El4 l):(nI l).length≤maxLen:=by rw[h.len];decide
def z4:List Nat:=[0,0,0,0]
theorem z4_el:El4 z4:=El4.mk4 (by decide) (by decide) (by decide) (by decide)
theorem z4_wv:wv z4=0:=by decide
theorem z4_get (i:Nat):z4.getD i 0=0:=by
 match i with
 |0=>rfl
 |1=>rfl
 |2=>rfl
 |3=>rfl
 |(n+4)=>simp[z4]
theorem alloc_el (w:World):(Instr.alloc 157 true (.tuple #[])).run Tryz.prog w=.ok (.pointer (some ⟨w.heap.size,0,none⟩)) (w.alloc (.cells ((nI z4).map (Value.int .u64)).toArray 157)):=by kernel_rfl

def subEntry:Array Value→Sem Value:=fun args=>do
 let (x,y,b) ←Extern.MathBitsCarry.three "Sub64" args
 pure (Extern.MathBitsCarry.pair ((x+Extern.MathBitsCarry.m64 - y - b) % Extern.MathBitsCarry.m64) (if x<y+b then 1 else 0))
theorem run_subEntry {P:Program} (x y b:Nat) (hb:b≤1) (w:World):
  (subEntry #[.int .u64 x,.int .u64 y,.int .u64 b]).run P w=.ok (.tuple #[.int .u64 (((x+18446744073709551616 - y - b) % 18446744073709551616:Nat):Int),.int .u64 ((if x<y+b then 1 else 0:Nat):Int)]) w:=by
 have:b=0∨b=1:=by omega
 rcases this with rfl|rfl<;>rfl

theorem add64_run (x y:Nat):∃s c:Nat,s<18446744073709551616∧s+18446744073709551616 * c=x+y∧
  ∀w:World,(callFunc 322 #[.int .u64 (x:Int),.int .u64 (y:Int),.int .u64 0]).run Tryz.prog w=.ok (.value (.tuple #[.int .u64 (s:Int),.int .u64 (c:Int)])) w:=by
 refine⟨(x+y) % 18446744073709551616,(x+y) / 18446744073709551616,Nat.mod_lt _ (by decide),Nat.mod_add_div _ _,fun w=>?_⟩
 rw[run_callFunc_extern Tryz.func322 (by kernel_rfl) (by kernel_rfl) (by kernel_rfl) (e:=add64Entry) (by kernel_rfl),run_add64 _ _ 0 (by omega) (by omega) (by omega) (by omega)]
 simp only[Result.andThen]
 congr 5<;>omega

theorem sub64_run (x y b:Nat) (hx:x<18446744073709551616) (hy:y<18446744073709551616) (hb:b≤1):∃d b':Nat,d<18446744073709551616∧b'≤1∧d+y+b=x+18446744073709551616 * b'∧
  ∀w:World,(callFunc 323 #[.int .u64 (x:Int),.int .u64 (y:Int),.int .u64 (b:Int)]).run Tryz.prog w=.ok (.value (.tuple #[.int .u64 (d:Int),.int .u64 (b':Int)])) w:=by
 refine⟨(x+18446744073709551616 - y - b) % 18446744073709551616,if x<y+b then 1 else 0,Nat.mod_lt _ (by decide),by split<;>omega,by split<;>omega,fun w=>?_⟩
 rw[run_callFunc_extern Tryz.func323 (by kernel_rfl) (by kernel_rfl) (by kernel_rfl) (e:=subEntry) (by kernel_rfl),run_subEntry x y b hb]
 rfl

theorem mask32 (x:Nat) (hx:x<18446744073709551616):bits .and .u64 (x:Int) 4294967295=((x % 4294967296:Nat):Int):=by
 have:=u64_and_nat x 4294967295 hx (by decide)
 rw[show(4294967295:Int)=((4294967295:Nat):Int) from rfl,this,show(4294967295:Nat)=2 ^ 32 - 1 from rfl,Nat.and_two_pow_sub_one_eq_mod]

theorem mask63 (x:Nat) (hx:x<18446744073709551616):bits .and .u64 (x:Int) 9223372036854775807=((x % 9223372036854775808:Nat):Int):=by
 have:=u64_and_nat x 9223372036854775807 hx (by decide)
 rw[show(9223372036854775807:Int)=((9223372036854775807:Nat):Int) from rfl,this,show(9223372036854775807:Nat)=2 ^ 63 - 1 from rfl,Nat.and_two_pow_sub_one_eq_mod]

theorem wrapN (n:Nat) (h:n<18446744073709551616):IntKind.u64.wrap (n:Int)=(n:Int):=by rw[IntKind.wrap_u64];omega
theorem wrapM (a b n:Nat) (hn:n=a * b) (h:n<18446744073709551616):IntKind.u64.wrap ((a:Int) * (b:Int))=(n:Int):=by
 rw[←Int.natCast_mul,←hn]
 exact wrapN n h
theorem wrapA (a b n:Nat) (hn:n=a+b) (h:n<18446744073709551616):IntKind.u64.wrap ((a:Int)+(b:Int))=(n:Int):=by
 rw[←Int.natCast_add,←hn]
 exact wrapN n h

set_option maxHeartbeats 1000000 in
theorem mul64_any (x y:Nat) (hx:x<18446744073709551616) (hy:y<18446744073709551616) (w:World):
  Calls Tryz.prog 321 #[.int .u64 (x:Int),.int .u64 (y:Int)] w fun e w'=>(∃hi lo:Nat,e=.returned (.tuple #[.int .u64 (hi:Int),.int .u64 (lo:Int)])∧hi<18446744073709551616∧lo<18446744073709551616∧lo+18446744073709551616 * hi=x * y)∧w'=w:=by
 obtain⟨h1,h2,h3,h4⟩:=Lib.mul64_hi x y hx hy
 have hlt:x * y / 18446744073709551616<18446744073709551616:=by
  have:x * y<18446744073709551616 * 18446744073709551616:=Nat.mul_lt_mul'' hx hy
  omega
 obtain⟨x0,hx0⟩:∃n:Nat,n=x % 4294967296:=⟨_,rfl⟩
 obtain⟨x1,hx1⟩:∃n:Nat,n=x / 4294967296:=⟨_,rfl⟩
 obtain⟨y0,hy0⟩:∃n:Nat,n=y % 4294967296:=⟨_,rfl⟩
 obtain⟨y1,hy1⟩:∃n:Nat,n=y / 4294967296:=⟨_,rfl⟩
 rw[←hx0,←hy0] at h1
 rw[←hx0,←hy0,←hx1] at h2
 rw[←hx0,←hy0,←hx1,←hy1] at h3 h4
 obtain⟨p,hp⟩:∃n:Nat,n=x0 * y0:=⟨_,rfl⟩
 obtain⟨p1,hp1⟩:∃n:Nat,n=p / 4294967296:=⟨_,rfl⟩
 obtain⟨q,hq⟩:∃n:Nat,n=x1 * y0:=⟨_,rfl⟩
 obtain⟨t,ht⟩:∃n:Nat,n=q+p1:=⟨_,rfl⟩
 obtain⟨t0,ht0⟩:∃n:Nat,n=t % 4294967296:=⟨_,rfl⟩
 obtain⟨t1,ht1⟩:∃n:Nat,n=t / 4294967296:=⟨_,rfl⟩
 obtain⟨r,hr⟩:∃n:Nat,n=x0 * y1:=⟨_,rfl⟩
 obtain⟨u,hu⟩:∃n:Nat,n=t0+r:=⟨_,rfl⟩
 obtain⟨u1,hu1⟩:∃n:Nat,n=u / 4294967296:=⟨_,rfl⟩
 obtain⟨s,hs⟩:∃n:Nat,n=x1 * y1:=⟨_,rfl⟩
 obtain⟨v,hv⟩:∃n:Nat,n=s+t1:=⟨_,rfl⟩
 obtain⟨H,hH⟩:∃n:Nat,n=v+u1:=⟨_,rfl⟩
 obtain⟨L,hL⟩:∃n:Nat,n=x * y % 18446744073709551616:=⟨_,rfl⟩
 rw[←hp] at h1
 rw[←hp,←hq,←hp1,←ht] at h2
 rw[←hp,←hq,←hp1,←ht,←ht0,←hr,←hu] at h3
 rw[←hp,←hq,←hp1,←ht,←ht0,←ht1,←hr,←hu,←hu1,←hs,←hv,←hH] at h4
 have e1:bits .and .u64 (x:Int) 4294967295=(x0:Int):=by rw[mask32 x hx,hx0]
 have e2:bits .and .u64 (y:Int) 4294967295=(y0:Int):=by rw[mask32 y hy,hy0]
 have e3:(x:Int) / 4294967296=(x1:Int):=by omega
 have e4:(y:Int) / 4294967296=(y1:Int):=by omega
 have e5:IntKind.u64.wrap ((x0:Int) * (y0:Int))=(p:Int):=wrapM _ _ _ hp h1
 have e6:IntKind.u64.wrap ((x1:Int) * (y0:Int))=(q:Int):=wrapM _ _ _ hq (by omega)
 have e7:(p:Int) / 4294967296=(p1:Int):=by omega
 have e8:IntKind.u64.wrap ((q:Int)+(p1:Int))=(t:Int):=wrapA _ _ _ ht h2
 have e9:bits .and .u64 (t:Int) 4294967295=(t0:Int):=by rw[mask32 t h2,ht0]
 have e10:(t:Int) / 4294967296=(t1:Int):=by omega
 have e11:IntKind.u64.wrap ((x0:Int) * (y1:Int))=(r:Int):=wrapM _ _ _ hr (by omega)
 have e12:IntKind.u64.wrap ((t0:Int)+(r:Int))=(u:Int):=wrapA _ _ _ hu h3
 have e13:IntKind.u64.wrap ((x1:Int) * (y1:Int))=(s:Int):=wrapM _ _ _ hs (by omega)
 have e14:IntKind.u64.wrap ((s:Int)+(t1:Int))=(v:Int):=wrapA _ _ _ hv (by omega)
 have e15:(u:Int) / 4294967296=(u1:Int):=by omega
 have e16:IntKind.u64.wrap ((v:Int)+(u1:Int))=(H:Int):=wrapA _ _ _ hH (by omega)
 have e17:IntKind.u64.wrap ((x:Int) * (y:Int))=(L:Int):=by rw[←Int.natCast_mul,IntKind.wrap_u64];omega
 have HF:Hid (H<18446744073709551616∧L<18446744073709551616∧L+18446744073709551616 * H=x * y):=⟨by omega,by omega,by omega⟩
 clear hx hy hlt hx0 hx1 hy0 hy1 h1 h2 h3 h4 hp hp1 hq ht ht0 ht1 hr hu hu1 hs hv hH hL
 go_enter Tryz.func321,Tryz.ntmps321
 go_wp2
 go_ret2
 exact⟨⟨H,L,rfl,HF.out.1,HF.out.2.1,HF.out.2.2⟩,rfl⟩

theorem cellK {w W:World} {p:Addr} {v:Value} (h:w.cell? p=some v) (hb:Below w.heap.size w W):W.cell? p=some v:=by
 rw[hb.cell (World.block_lt_of_cell? _ _ h)]
 exact h

theorem wp_alloc_el {w0:World} {op:Oper} {a:Act} {w:World} {K:Act→World→Prop} {Q:Exit→Act→World→Prop} (hB:Below w0.heap.size w0 w) (ho:op.op=.alloc 157)
  (h:∀g w',RowAt .u64 157 g 4 (nI z4) w'→w0.heap.size≤g→Below w0.heap.size w0 w'→K (a.put op.dst (.pointer (some ⟨g,0,none⟩))) w'):op.wp Tryz.prog a w K Q:=by
 unfold Oper.wp execOp
 simp only[ho,Sem.run_bind,alloc_el,Result.andThen_ok,Sem.run_pure]
 refine h _ _ (RowAt.fresh (nI z4) rfl rfl z4_el.len.symm z4_el.ne (elMax z4_el)) hB.size (stepB hB (growB _))

theorem wp_store_el {w0:World} {g:Nat} {l l2:List Nat} {op:Oper} {a:Act} {w:World} {K:Act→World→Prop} {Q:Exit→Act→World→Prop} (hB:Below w0.heap.size w0 w) (hge:w0.heap.size≤g) (x y:Operand) (ho:op.op=.store 157 x y)
  (hx:a.eval x=.pointer (some ⟨g,0,none⟩)) (hy:a.eval y=elV l2) (hr:RowAt .u64 157 g 4 (nI l) w) (hl:El4 l) (hl2:El4 l2)
  (h:∀w',RowAt .u64 157 g 4 (nI l2) w'→Below w0.heap.size w0 w'→K (a.put op.dst undef) w'):op.wp Tryz.prog a w K Q:=
 wp_store_row 157 x y ho (nI l2) hx hy hr (by rw[hl.len,hl2.len]) (elInfo hl) fun w' h1 h2=>h w' h1 (h2.below _ _ hge hB)

theorem bodyPost_row2 {k:IntKind} {e:TypeId} {g cap:Nat} {l:List Int} {P:Program} {fn:Func} {p q:Tmp} {ty:TypeId} {d:TypeDesc} {v:Value} {R:Ending→World→Prop} {a:Act} {w:World} (h:fn.results=#[.cell p ty,.tmp q]) (hd:a.defers=[])
  (hp:a.tmps.getD p undef=.pointer (some ⟨g,0,none⟩)) (hq:a.tmps.getD q undef=v) (hr:RowAt k e g cap l w) (hu:P.underlying ty=some d) (hrow:d.isRow=true) (hi:(P.info? ty).map (·.size)=some l.length)
  (hR:R (.returned (.tuple #[.agg (l.map (Value.int k)).toArray,v])) w):bodyPost P fn R .ret a w:=by
 refine bodyPost_ret ?_ hd hR
 have hp':a.tmps[p]?.getD undef=.pointer (some ⟨g,0,none⟩):=by simpa using hp
 have hq':a.tmps[q]?.getD undef=v:=by simpa using hq
 have hl:=hr.load (P:=P) hu hrow hi
 simp[results,h,hp',hq',asAddr,hl]
theorem bodyPost_rows {k:IntKind} {e:TypeId} {g g2 cap cap2:Nat} {l l2:List Int} {P:Program} {fn:Func} {p q:Tmp} {ty:TypeId} {d:TypeDesc} {R:Ending→World→Prop} {a:Act} {w:World} (h:fn.results=#[.cell p ty,.cell q ty]) (hd:a.defers=[])
  (hp:a.tmps.getD p undef=.pointer (some ⟨g,0,none⟩)) (hq:a.tmps.getD q undef=.pointer (some ⟨g2,0,none⟩)) (hr:RowAt k e g cap l w) (hr2:RowAt k e g2 cap2 l2 w) (hu:P.underlying ty=some d) (hrow:d.isRow=true) (hi:(P.info? ty).map (·.size)=some l.length) (hi2:(P.info? ty).map (·.size)=some l2.length)
  (hR:R (.returned (.tuple #[.agg (l.map (Value.int k)).toArray,.agg (l2.map (Value.int k)).toArray])) w):bodyPost P fn R .ret a w:=by
 refine bodyPost_ret ?_ hd hR
 have hp':a.tmps[p]?.getD undef=.pointer (some ⟨g,0,none⟩):=by simpa using hp
 have hq':a.tmps[q]?.getD undef=.pointer (some ⟨g2,0,none⟩):=by simpa using hq
 have hl:=hr.load (P:=P) hu hrow hi
 have hl2:=hr2.load (P:=P) hu hrow hi2
 simp[results,h,hp',hq',asAddr,hl,hl2]

set_option maxRecDepth 100000 in
set_option maxHeartbeats 2000000 in
theorem addTimes_any (A B:Array Value) (a b:List Nat) (c:Nat) (C:Int) (ha:El4 a) (hb:El4 b) (hc:c<18446744073709551616) (hA:A=((nI a).map (Value.int .u64)).toArray) (hB:B=((nI b).map (Value.int .u64)).toArray) (hC:C=(c:Int)) (w:World):
  Calls Tryz.prog 248 #[.agg A,.int .u64 C,.agg B] w fun e w'=>∃(r:List Nat) (o:Nat),e=.returned (.tuple #[elV r,.int .u64 (o:Int)])∧El4 r∧o<18446744073709551616∧
   wv r+115792089237316195423570985008687907853269984665640564039457584007913129639936 * o=wv a+c * wv b∧Below w.heap.size w w':=by
 subst hC
 go_enter Tryz.func248,Tryz.ntmps248
 go_wp2_with (refine wpList_box_row (k:=.u64) rfl 157 _ rfl (nI a) (by rw[←hA];rfl) ha.ne (elMax ha) ?_)
 intro w1 r1 b1 s1
 rw[ha.len] at r1
 go_wp2_with (refine wpList_box_row (k:=.u64) rfl 157 _ rfl (nI b) (by rw[←hB];rfl) hb.ne (elMax hb) ?_)
 intro w2 r2 b2 s2
 rw[hb.len] at r2
 go_wp2_with (refine wpList_alloc_row (k:=.u64) rfl 157 rfl (nI z4) (alloc_el _) z4_el.ne (elMax z4_el) ?_)
 intro w3 r3 b3 s3
 rw[z4_el.len] at r3
 have hr1:=(r1.kept b2).kept b3
 have hr2:=r2.kept b3
 have hbw:=stepB (stepB b1 b2) b3
 have n1:w.heap.size<w1.heap.size:=by have:=s1.out;omega
 have n2:w1.heap.size<w2.heap.size:=by have:=s2.out;omega
 have HA:Hid (El4 a):=ha
 have HB:Hid (El4 b):=hb
 clear r1 r2 b1 b2 b3 s1 s2 s3 hA hB ha hb
 go_wp2
 go_loopw [14,8] (fun iv cv wx=>∃(i o:Nat) (cur:List Nat),i≤4∧iv=.int .i64 (i:Int)∧cv=.int .u64 (o:Int)∧o<18446744073709551616∧Hid (El4 cur)∧Hid (wv cur+18446744073709551616 ^ i * o=wv a+c * wv (b.take i))∧
  RowAt .u64 157 w.heap.size 4 (nI cur) wx∧RowAt .u64 157 w1.heap.size 4 (nI b) wx∧RowAt .u64 157 w2.heap.size 4 (nI z4) wx∧Below w.heap.size w wx) (fun iv _ _=>4 - (intOf iv).toNat)
 case atStart=>exact⟨0,0,a,by omega,rfl,rfl,by omega,HA,(by show _=_;rw[Nat.mul_zero,List.take_zero];rfl),hr1,hr2,r3,hbw⟩
 case round=>
  obtain⟨i,o,cur,hi,rfl,rfl,ho,HC,HE,ra,rb,rz,hbx⟩:=hrel
  clear hr1 hr2 r3 hbw
  by_cases hlt:i<4
  ·have hd:decide ((i:Int)<4)=true:=decide_eq_true (by omega)
   have hiI:(i:Int)<4:=by omega
   have hcb:=rb.cell (j:=i) (by rw[nI_length,HB.out.1];exact hlt)
   have hca:=ra.cell (j:=i) (by rw[nI_length,HC.out.1];exact hlt)
   have hfa:=ra.free i
   rw[nI_get] at hcb hca
   have hy:=HB.out.get i
   have hq:=HC.out.get i
   have HS:Hid (∀s o':Nat,s<18446744073709551616→s+18446744073709551616 * o'=cur.getD i 0+c * b.getD i 0+o→El4 (cur.set i s)∧o' <18446744073709551616∧wv (cur.set i s)+18446744073709551616 ^ (i+1) * o'=wv a+c * wv (b.take (i+1))):=by
    intro s o' hs he
    exact⟨HC.out.set i hs,at_bound _ _ _ _ _ _ hq hc hy ho he,at_step cur b i o o' s (wv a) c (by rw[HC.out.1];exact hlt) (by rw[HB.out.1];exact hlt) he HE.out⟩
   have HR:Hid (∀s:Nat,RowAt .u64 157 w.heap.size 4 (nI (cur.set i s)) (wr.setCell ⟨w.heap.size,i,none⟩ (.int .u64 (s:Int)))):=fun s=>by
    rw[←nI_set]
    exact ra.set i _
   have HRb:Hid (∀u:Value,RowAt .u64 157 w1.heap.size 4 (nI b) (wr.setCell ⟨w.heap.size,i,none⟩ u)∧RowAt .u64 157 w2.heap.size 4 (nI z4) (wr.setCell ⟨w.heap.size,i,none⟩ u)∧Below w.heap.size w (wr.setCell ⟨w.heap.size,i,none⟩ u)):=fun u=>
    ⟨rb.other (p:=⟨w.heap.size,i,none⟩) (by show w.heap.size≠_;omega) u,rz.other (p:=⟨w.heap.size,i,none⟩) (by show w.heap.size≠_;omega) u,(Wrote.set w.heap.size i wr u).below _ _ (Nat.le_refl _) hbx⟩
   generalize b.getD i 0=y at hcb hy HS
   generalize cur.getD i 0=q at hca hq HS
   clear ra rb rz hbx HE
   go_wp2_with fail
   refine(mul64_any c y hc hy _).mono ?_
   rintro e w4 ⟨⟨hi',lo,rfl,hhi,hlo,hp⟩,rfl⟩
   obtain⟨s1,c1,hs1,he1,run1⟩:=add64_run lo q
   obtain⟨s2,c2,hs2,he2,run2⟩:=add64_run s1 o
   have hpb:c * y≤18446744073709551615 * 18446744073709551615:=Nat.mul_le_mul (by omega) (by omega)
   obtain⟨g1,hg1⟩:∃n:Nat,n=hi'+c1:=⟨_,rfl⟩
   obtain⟨g2,hg2⟩:∃n:Nat,n=g1+c2:=⟨_,rfl⟩
   obtain⟨k1,k2,k3⟩:=HS.out s2 g2 hs2 (by omega)
   have a1:IntKind.u64.wrap ((hi':Int)+(c1:Int))=(g1:Int):=wrapA _ _ _ hg1 (by omega)
   have a2:IntKind.u64.wrap ((g1:Int)+(c2:Int))=(g2:Int):=wrapA _ _ _ hg2 (by omega)
   have K1:Hid (El4 (cur.set i s2)):=k1
   have K3:Hid _:=k3
   have hR:=HR.out s2
   obtain⟨hRb,hRz,hbn⟩:=HRb.out (.int .u64 (s2:Int))
   clear k1 k3 HS HR HRb hg1 hg2 hpb hp he1 he2
   go_wp2_with (first|simp only[run1]|simp only[run2])
   go_roundw
   case rel=>exact⟨i+1,g2,cur.set i s2,by omega,by go_num,rfl,k2,K1,K3,hR,hRb,hRz,hbn⟩
   case measure=>simp[intOf]<;>omega
  ·have hie:i=4:=by omega
   have hd:decide ((i:Int)<4)=false:=decide_eq_false (by omega)
   have hiI:(4:Int)≤(i:Int):=by omega
   have HE2:Hid (wv cur+115792089237316195423570985008687907853269984665640564039457584007913129639936 * o=wv a+c * wv b):=by
    have:=HE.out
    rw[hie,List.take_of_length_le (by rw[HB.out.1];exact Nat.le_refl _)] at this
    exact this
   clear HE hie
   go_wp2_with (first|refine wpList_load_row rfl 157 _ rfl rfl ra _ Tryz.underlying157 rfl (elInfo HC.out) ?_|(refine wpList_store_row rfl 157 _ _ rfl (nI cur) rfl rfl rz (by rw[z4_el.len,HC.out.len]) (elInfo z4_el) ?_;intro w6 r6 hw6))
   refine bodyPost_row2 (p:=6) (q:=7) (ty:=157) rfl rfl rfl rfl r6 Tryz.underlying157 rfl (elInfo HC.out) ?_
   exact⟨cur,o,rfl,HC.out,ho,HE2.out,hw6.below _ _ (by omega) hbx⟩
theorem wpList_val {P:Program} {ops:Array Oper} {rest:List Oper} {op:Oper} {a:Act} {w:World} {Q:Exit→Act→World→Prop} (hgd:op.guard=none) {v:Value} (hy:(execOp a.eval op).run P w=.ok (.value v) w)
  (h:wpList P ops Q rest (a.put op.dst v) w):wpList P ops Q (op :: rest) a w:=by
 refine wpList_plain hgd fun K hK=>?_
 unfold Oper.wp
 rw[hy]
 exact hK _ _ h

end Go.Proofs.YtpgjobpmafbigaaGreatDoor

namespace Go.Proofs.YtpgjobpmafbigaaGreatDoor
set_option linter.unusedSimpArgs false
set_option linter.unusedVariables false

def bt (x z:Nat):Nat:=x / 2 ^ z % 2
theorem bt_lt (x z:Nat):bt x z<2:=Nat.mod_lt _ (by decide)
theorem bt_test (x z:Nat):x.testBit z=decide (bt x z=1):=Nat.testBit_eq_decide_div_mod_eq
theorem bt_of (x z:Nat):bt x z=(x.testBit z).toNat:=by
 rw[bt_test]
 have:=bt_lt x z
 have h:bt x z=0∨bt x z=1:=by omega
 rcases h with h|h<;>simp[h]
theorem bitN_bt (f:Nat→Nat) (x y z:Nat):bitN f x y z=bt (f (x+5 * y)) z:=rfl
theorem bt_xor (x y z:Nat):bt (x^^^y) z=(bt x z+bt y z) % 2:=by
 simp only[bt_of,Nat.testBit_xor]
 cases x.testBit z<;>cases y.testBit z<;>rfl
theorem bt_and (x y z:Nat):bt (x &&& y) z=bt x z * bt y z:=by
 simp only[bt_of,Nat.testBit_and]
 cases x.testBit z<;>cases y.testBit z<;>rfl
theorem ext64 {x y:Nat} (hx:x<18446744073709551616) (hy:y<18446744073709551616) (h:∀z,z<64→bt x z=bt y z):x=y:=lanes_ext hx hy h
theorem xor_lt64 {x y:Nat} (hx:x<18446744073709551616) (hy:y<18446744073709551616):x^^^y<18446744073709551616:=by
 have h64:(2:Nat) ^ 64=18446744073709551616:=by decide
 rw[←h64] at *
 exact Nat.xor_lt_two_pow hx hy

def rotN (x n:Nat):Nat:=x * 2 ^ n % 18446744073709551616+x / 2 ^ (64 - n)
theorem rotN_bit (x n z:Nat) (hx:x<18446744073709551616) (hn:n<64) (hn0:0<n) (hz:z<64):bt (rotN x n) z=bt x ((z+64 - n) % 64):=by
 have h64:(18446744073709551616:Nat)=2 ^ n * 2 ^ (64 - n):=by rw[←Nat.pow_add,show n+(64 - n)=64 by omega]
 have hB:x / 2 ^ (64 - n)<2 ^ n:=by
  refine Nat.div_lt_of_lt_mul ?_
  rw[Nat.mul_comm,←h64]
  exact hx
 have e1:rotN x n=2 ^ n * (x % 2 ^ (64 - n))+x / 2 ^ (64 - n):=by
  unfold rotN
  rw[h64,Nat.mul_comm x,Nat.mul_mod_mul_left]
 rw[e1]
 by_cases h:z<n
 ·have hz2:(z+64 - n) % 64=64 - n+z:=by omega
  rw[hz2]
  unfold bt
  obtain⟨d,hd⟩:∃d,n=z+(d+1):=⟨n - z - 1,by omega⟩
  have e2:2 ^ n * (x % 2 ^ (64 - n))=2 ^ z * (2 * (2 ^ d * (x % 2 ^ (64 - n)))):=by
   rw[hd,Nat.pow_add,Nat.pow_succ]
   ac_rfl
  rw[e2,Nat.add_comm,Nat.add_mul_div_left _ _ (Nat.pow_pos (by decide)),Nat.add_mul_mod_self_left,Nat.div_div_eq_div_mul,←Nat.pow_add]
 ·have hz2:(z+64 - n) % 64=z - n:=by omega
  rw[hz2]
  have e3:(2 ^ n * (x % 2 ^ (64 - n))+x / 2 ^ (64 - n)) / 2 ^ z=x % 2 ^ (64 - n) / 2 ^ (z - n):=by
   obtain⟨d,hd⟩:∃d,z=n+d:=⟨z - n,by omega⟩
   rw[hd,Nat.pow_add,←Nat.div_div_eq_div_mul,Nat.mul_add_div (Nat.pow_pos (by decide)),Nat.div_eq_of_lt hB,Nat.add_zero,Nat.add_sub_cancel_left]
  have e4:bt (x % 2 ^ (64 - n)) (z - n)=bt x (z - n):=by
   rw[bt_of,bt_of,Nat.testBit_mod_two_pow]
   simp[show z - n<64 - n by omega]
  unfold bt at e4 ⊢
  rw[e3]
  exact e4
theorem rotN_lt (x n:Nat) (hx:x<18446744073709551616) (hn:n<64):rotN x n<18446744073709551616:=by
 have h64:(18446744073709551616:Nat)=2 ^ n * 2 ^ (64 - n):=by rw[←Nat.pow_add,show n+(64 - n)=64 by omega]
 have hB:x / 2 ^ (64 - n)<2 ^ n:=by
  refine Nat.div_lt_of_lt_mul ?_
  rw[Nat.mul_comm,←h64]
  exact hx
 have e1:rotN x n=2 ^ n * (x % 2 ^ (64 - n))+x / 2 ^ (64 - n):=by
  unfold rotN
  rw[h64,Nat.mul_comm x,Nat.mul_mod_mul_left]
 have h2:x % 2 ^ (64 - n)+1≤2 ^ (64 - n):=Nat.mod_lt _ (Nat.pow_pos (by decide))
 have h3:=Nat.mul_le_mul_left (2 ^ n) h2
 rw[←h64,Nat.mul_add] at h3
 omega
def turnN (x n:Nat):Nat:=if n=0 then x else rotN x n
theorem turnN_bit (x n z:Nat) (hx:x<18446744073709551616) (hn:n<64) (hz:z<64):bt (turnN x n) z=bt x ((z+64 - n) % 64):=by
 unfold turnN
 split
 ·rename_i h;subst h;rw[show(z+64 - 0) % 64=z by omega]
 ·exact rotN_bit x n z hx hn (by omega) hz
theorem turnN_lt (x n:Nat) (hx:x<18446744073709551616) (hn:n<64):turnN x n<18446744073709551616:=by
 unfold turnN
 split
 ·exact hx
 ·exact rotN_lt x n hx hn

def colN (f:Nat→Nat) (x:Nat):Nat:=f x^^^f (x+5)^^^f (x+10)^^^f (x+15)^^^f (x+20)
def thL (f:Nat→Nat) (k:Nat):Nat:=f k^^^colN f ((k % 5+4) % 5)^^^turnN (colN f ((k % 5+1) % 5)) 1
theorem colN_lt (f:Nat→Nat) (hf:∀i,f i<18446744073709551616) (x:Nat):colN f x<18446744073709551616:=
 xor_lt64 (xor_lt64 (xor_lt64 (xor_lt64 (hf _) (hf _)) (hf _)) (hf _)) (hf _)
theorem colN_bit (f:Nat→Nat) (x z:Nat):bt (colN f x) z=(bitN f x 0 z+bitN f x 1 z+bitN f x 2 z+bitN f x 3 z+bitN f x 4 z) % 2:=by
 unfold colN
 simp only[bt_xor,bitN_bt]
 simp only[Nat.mul_zero,Nat.add_zero,Nat.mul_one,show 5 * 2=10 from rfl,show 5 * 3=15 from rfl,show 5 * 4=20 from rfl]
 omega
theorem thL_lt (f:Nat→Nat) (hf:∀i,f i<18446744073709551616) (k:Nat):thL f k<18446744073709551616:=
 xor_lt64 (xor_lt64 (hf _) (colN_lt f hf _)) (turnN_lt _ _ (colN_lt f hf _) (by decide))
theorem ofB_bt (g:Nat→Bool) (z:Nat) (hz:z<64):bt (ofB g 64) z=if g z then 1 else 0:=ofB_bit g 64 z hz
theorem if_odd (n:Nat) (b:Bool) (h:b=decide (n % 2=1)):(if b then 1 else 0)=n % 2:=by
 subst h
 have:=Nat.mod_two_eq_zero_or_one n
 rcases this with h|h<;>simp[h]
theorem thL_eq (f:Nat→Nat) (hf:∀i,f i<18446744073709551616) (k:Nat) (hk:k<25):thL f k=thF f k:=by
 refine ext64 (thL_lt f hf k) (thF_lt f k) fun z hz=>?_
 unfold thL thF
 rw[bt_xor,bt_xor,turnN_bit _ _ _ (colN_lt f hf _) (by decide) hz,colN_bit,colN_bit,ofB_bt _ _ hz,if_odd (thN f (k % 5) z 5+bitN f (k % 5) (k / 5) z) (thB f (k % 5) (k / 5) z) rfl]
 simp only[thN]
 have e:k % 5+5 * (k / 5)=k:=by omega
 rw[show bt (f k) z=bitN f (k % 5) (k / 5) z from by rw[bitN_bt,e]]
 rw[show(z+64 - 1) % 64=(z+63) % 64 by omega]
 omega

def rhL (f:Nat→Nat) (i:Nat):Nat:=if i=0 then f 0 else turnN (f i) (rhBy (rhTau i))
theorem rhL_lt (f:Nat→Nat) (hf:∀i,f i<18446744073709551616) (k:Nat):rhL f k<18446744073709551616:=by
 unfold rhL
 split
 ·exact hf 0
 ·exact turnN_lt _ _ (hf _) (rhBy_lt _)
theorem rhL_eq (f:Nat→Nat) (hf:∀i,f i<18446744073709551616) (k:Nat) (hk:k<25):rhL f k=rhF f k:=by
 unfold rhL rhF
 split
 ·rfl
 ·rename_i h0
  refine ext64 (turnN_lt _ _ (hf _) (rhBy_lt _)) (ofB_64 _ _ (Nat.le_refl _)) fun z hz=>?_
  obtain⟨h1,h2⟩:=rhPos_tau k hk h0
  rw[turnN_bit _ _ _ (hf _) (rhBy_lt _) hz,ofB_bt _ _ hz]
  unfold rhG
  rw[bitN_bt,show(rhXY (rhTau k)).1+5 * (rhXY (rhTau k)).2=k from h2]
  have hlt:(z+64 - rhBy (rhTau k)) % 64<64:=Nat.mod_lt _ (by decide)
  have hb:=bt_lt (f k) ((z+64 - rhBy (rhTau k)) % 64)
  have hc:bt (f k) ((z+64 - rhBy (rhTau k)) % 64)=0∨bt (f k) ((z+64 - rhBy (rhTau k)) % 64)=1:=by omega
  rcases hc with hc|hc<;>simp[hlt,hc]

theorem sub_and (x y:Nat):x - (x &&& y)=x^^^(x &&& y):=by
 have h:(x^^^(x &&& y))+(x &&& y)=x:=by
  have hle:x<2 ^ (x+1):=Nat.lt_of_lt_of_le Nat.lt_two_pow_self (Nat.pow_le_pow_right (by decide) (by omega))
  have ha:x &&& y<2 ^ (x+1):=Nat.lt_of_le_of_lt Nat.and_le_left hle
  have hx:x^^^(x &&& y)<2 ^ (x+1):=Nat.xor_lt_two_pow hle ha
  have e0:BitVec.ofNat (x+1) (x^^^(x &&& y)) &&& BitVec.ofNat (x+1) (x &&& y)=0#(x+1):=by
   apply BitVec.eq_of_getLsbD_eq
   intro i hi
   simp only[BitVec.getLsbD_and,BitVec.getLsbD_ofNat,Nat.testBit_xor,Nat.testBit_and,BitVec.getLsbD_zero]
   cases x.testBit i<;>cases y.testBit i<;>simp
  have e1:=BitVec.add_eq_or_of_and_eq_zero _ _ e0
  have e2:=congrArg BitVec.toNat e1
  rw[BitVec.toNat_add,BitVec.toNat_or,BitVec.toNat_ofNat,BitVec.toNat_ofNat,Nat.mod_eq_of_lt hx,Nat.mod_eq_of_lt ha] at e2
  have e3:(x^^^(x &&& y)) ||| (x &&& y)=x:=by
   apply Nat.eq_of_testBit_eq
   intro i
   simp only[Nat.testBit_or,Nat.testBit_xor,Nat.testBit_and]
   cases x.testBit i<;>cases y.testBit i<;>rfl
  rw[e3] at e2
  have hx2:(x^^^(x &&& y))≤x:=by
   have:=Nat.mod_le ((x^^^(x &&& y))+(x &&& y)) (2 ^ (x+1))
   have h1:(x^^^(x &&& y)) ||| (x &&& y)=x:=e3
   have h2:(x^^^(x &&& y))≤(x^^^(x &&& y)) ||| (x &&& y):=Nat.left_le_or
   omega
  have hsum:(x^^^(x &&& y))+(x &&& y)<2 ^ (x+1):=by
   have h1:x &&& y≤x:=Nat.and_le_left
   have h2:2 * x<2 ^ (x+1):=by rw[Nat.pow_succ];have:= @Nat.lt_two_pow_self x;omega
   omega
  rwa [Nat.mod_eq_of_lt hsum] at e2
 omega
def chL (f:Nat→Nat) (k:Nat):Nat:=f k^^^(f (k - k % 5+(k % 5+2) % 5) - (f (k - k % 5+(k % 5+2) % 5) &&& f (k - k % 5+(k % 5+1) % 5)))
theorem chL_lt (f:Nat→Nat) (hf:∀i,f i<18446744073709551616) (k:Nat):chL f k<18446744073709551616:=
 xor_lt64 (hf _) (Nat.lt_of_le_of_lt (Nat.sub_le _ _) (hf _))
theorem chL_eq (f:Nat→Nat) (hf:∀i,f i<18446744073709551616) (k:Nat) (hk:k<25):chL f k=chF f k:=by
 refine ext64 (chL_lt f hf k) (chF_lt f k) fun z hz=>?_
 unfold chL chF
 rw[bt_xor,sub_and,bt_xor,bt_and,ofB_bt _ _ hz]
 unfold chB
 have e0:k % 5+5 * (k / 5)=k:=by omega
 have e1:k - k % 5+(k % 5+1) % 5=(k % 5+1) % 5+5 * (k / 5):=by omega
 have e2:k - k % 5+(k % 5+2) % 5=(k % 5+2) % 5+5 * (k / 5):=by omega
 rw[e1,e2,bitN_bt,bitN_bt,bitN_bt,e0]
 have h0:=bt_lt (f k) z
 have h1:=bt_lt (f ((k % 5+1) % 5+5 * (k / 5))) z
 have h2:=bt_lt (f ((k % 5+2) % 5+5 * (k / 5))) z
 generalize bt (f k) z=a at *
 generalize bt (f ((k % 5+1) % 5+5 * (k / 5))) z=b at *
 generalize bt (f ((k % 5+2) % 5+5 * (k / 5))) z=c at *
 have ha:a=0∨a=1:=by omega
 have hb:b=0∨b=1:=by omega
 have hc:c=0∨c=1:=by omega
 rcases ha with rfl|rfl<;>rcases hb with rfl|rfl<;>rcases hc with rfl|rfl<;>decide
def kst:List Nat:=[0x0000000000000001,0x0000000000008082,0x800000000000808a,0x8000000080008000,0x000000000000808b,0x0000000080000001,0x8000000080008081,0x8000000000008009,
 0x000000000000008a,0x0000000000000088,0x0000000080008009,0x000000008000000a,0x000000008000808b,0x800000000000008b,0x8000000000008089,0x8000000000008003,
 0x8000000000008002,0x8000000000000080,0x000000000000800a,0x800000008000000a,0x8000000080008081,0x8000000000008080,0x0000000080000001,0x8000000080008008]
theorem kst_eq:∀i,i<24→ofB (ioT i 7) 64=kst.getD i 0:=by decide+kernel
theorem kst_lt:∀i,i<24→kst.getD i 0<18446744073709551616:=by decide
theorem ioL_xor (x i:Nat) (hx:x<18446744073709551616) (hi:i<24):ioL x i 7=x^^^kst.getD i 0:=by
 rw[←kst_eq i hi]
 refine ext64 (ioL_lt _ _ _) (xor_lt64 hx (ofB_64 _ _ (Nat.le_refl _))) fun z hz=>?_
 unfold ioL
 rw[bt_xor,ofB_bt _ _ hz,ofB_bt _ _ hz]
 unfold ioG
 have hb:=bt_lt x z
 have hc:bt x z=0∨bt x z=1:=by omega
 rw[show x / 2 ^ z % 2=bt x z from rfl]
 rcases hc with hc|hc<;>cases ioT i 7 z<;>simp[hc]

theorem bitN_congr {f g:Nat→Nat} (h:∀i,i<25→f i=g i) (x y z:Nat) (hx:x<5) (hy:y<5):bitN f x y z=bitN g x y z:=by
 unfold bitN
 rw[h _ (by omega)]
theorem thN_congr {f g:Nat→Nat} (h:∀i,i<25→f i=g i) (x z:Nat):∀Y,Y≤5→thN f x z Y=thN g x z Y
 |0,_=>rfl
 |Y+1,hY=>by
  unfold thN
  rw[thN_congr h x z Y (by omega),bitN_congr h _ Y z (by omega) (by omega),bitN_congr h _ Y _ (by omega) (by omega)]
theorem thF_congr {f g:Nat→Nat} (h:∀i,i<25→f i=g i) (k:Nat) (hk:k<25):thF f k=thF g k:=by
 unfold thF
 refine ofB_congr 64 fun z hz=>?_
 unfold thB
 rw[thN_congr h _ z 5 (Nat.le_refl _),bitN_congr h _ _ z (by omega) (by omega)]
theorem rhF_congr {f g:Nat→Nat} (h:∀i,i<25→f i=g i) (k:Nat) (hk:k<25):rhF f k=rhF g k:=by
 unfold rhF
 split
 ·exact h 0 (by omega)
 ·rename_i h0
  refine ofB_congr 64 fun z hz=>?_
  unfold rhG
  have hxy:=rhXY_lt (rhTau k) (by have:=(rhPos_tau k hk h0).1;omega)
  rw[bitN_congr h _ _ _ hxy.1 hxy.2]
theorem piF_congr {f g:Nat→Nat} (h:∀i,i<25→f i=g i) (k:Nat) (hk:k<25):piF f k=piF g k:=h _ (by omega)
theorem chF_congr {f g:Nat→Nat} (h:∀i,i<25→f i=g i) (k:Nat) (hk:k<25):chF f k=chF g k:=by
 unfold chF
 refine ofB_congr 64 fun z hz=>?_
 unfold chB
 rw[bitN_congr h _ _ z (by omega) (by omega),bitN_congr h ((k % 5+1) % 5) _ z (by omega) (by omega),bitN_congr h ((k % 5+2) % 5) _ z (by omega) (by omega)]
theorem ioF_congr {f g:Nat→Nat} (h:∀i,i<25→f i=g i) (i k:Nat) (hk:k<25):ioF f i k=ioF g i k:=by
 unfold ioF
 split
 ·rw[h 0 (by omega)]
 ·exact h k hk
theorem rdF_congr {f g:Nat→Nat} (h:∀i,i<25→f i=g i) (i k:Nat) (hk:k<25):rdF f i k=rdF g i k:=
 ioF_congr (fun _ h4=>chF_congr (fun _ h3=>piF_congr (fun _ h2=>rhF_congr (fun _ h1=>thF_congr h _ h1) _ h2) _ h3) _ h4) i k hk
theorem rdsF_congr {f g:Nat→Nat} (h:∀i,i<25→f i=g i):∀n k,k<25→rdsF f n k=rdsF g n k
 |0,k,hk=>h k hk
 |n+1,k,hk=>rdF_congr (rdsF_congr h n) n k hk

def ioK (f:Nat→Nat) (i k:Nat):Nat:=if k=0 then f 0^^^kst.getD i 0 else f k
def rdL (f:Nat→Nat) (i:Nat):Nat→Nat:=ioK (chL (piF (rhL (thL f)))) i
theorem rdL_eq (f:Nat→Nat) (hf:∀i,f i<18446744073709551616) (i:Nat) (hi:i<24) (k:Nat) (hk:k<25):rdL f i k=rdF f i k:=by
 have h1:∀j,j<25→thL f j=thF f j:=fun j hj=>thL_eq f hf j hj
 have h2:∀j,j<25→rhL (thL f) j=rhF (thF f) j:=fun j hj=>(rhL_eq _ (thL_lt f hf) j hj).trans (rhF_congr h1 j hj)
 have h3:∀j,j<25→piF (rhL (thL f)) j=piF (rhF (thF f)) j:=fun j hj=>piF_congr h2 j hj
 have h4:∀j,j<25→chL (piF (rhL (thL f))) j=chF (piF (rhF (thF f))) j:=fun j hj=>
  (chL_eq _ (piF_lt _ (rhL_lt _ (thL_lt f hf))) j hj).trans (chF_congr h3 j hj)
 unfold rdL rdF ioK ioF
 by_cases e:k=0
 ·rw[if_pos e,if_pos e,ioL_xor _ _ (chF_lt _ _) hi,h4 0 (by omega)]
 ·rw[if_neg e,if_neg e,h4 k hk]
theorem rdL_lt (f:Nat→Nat) (hf:∀i,f i<18446744073709551616) (i:Nat) (hi:i<24) (k:Nat):rdL f i k<18446744073709551616:=by
 unfold rdL ioK
 have h:=chL_lt _ (piF_lt _ (rhL_lt _ (thL_lt f hf)))
 split
 ·exact xor_lt64 (h 0) (kst_lt i hi)
 ·exact h k
def rdsL (f:Nat→Nat):Nat→Nat→Nat
 |0=>f
 |n+1=>rdL (rdsL f n) n
theorem rdsL_lt (f:Nat→Nat) (hf:∀i,f i<18446744073709551616):∀n,n≤24→∀k,rdsL f n k<18446744073709551616
 |0,_,k=>hf k
 |n+1,hn,k=>rdL_lt _ (rdsL_lt f hf n (by omega)) n (by omega) k
theorem rdsL_eq (f:Nat→Nat) (hf:∀i,f i<18446744073709551616):∀n,n≤24→∀k,k<25→rdsL f n k=rdsF f n k
 |0,_,_,_=>rfl
 |n+1,hn,k,hk=>(rdL_eq _ (rdsL_lt f hf n (by omega)) n (by omega) k hk).trans (rdF_congr (rdsL_eq f hf n (by omega)) n k hk)
def upQ (f g:Nat→Nat) (K i:Nat):Nat:=if i<K then g i else f i
theorem upQ_zero (f g:Nat→Nat):stL f=stL (upQ f g 0):=stL_congr fun i hi=>by simp[upQ]
theorem upQ_done (f g:Nat→Nat):stL (upQ f g 25)=stL g:=stL_congr fun i hi=>by simp[upQ,hi]
theorem upQ_set (f g:Nat→Nat) (K:Nat):(stL (upQ f g K)).set K ((g K:Nat):Int)=stL (upQ f g (K+1)):=by
 rw[stL_set]
 refine stL_congr fun i hi=>?_
 unfold upQ
 by_cases e:i=K
 ·subst e;simp
 ·have:(i<K+1)↔i<K:=by omega
  simp[e,this]
theorem upQ_get (f g:Nat→Nat) (K:Nat):upQ f g K K=f K:=by simp[upQ]

theorem xorI (a b:Nat) (ha:a<18446744073709551616) (hb:b<18446744073709551616):bits .xor .u64 (a:Int) (b:Int)=((a^^^b:Nat):Int):=u64_xor_nat a b ha hb
theorem andI (a b:Nat) (ha:a<18446744073709551616) (hb:b<18446744073709551616):bits .and .u64 (a:Int) (b:Int)=((a &&& b:Nat):Int):=u64_and_nat a b ha hb
theorem ioKI (f:Nat→Nat) (i:Nat):(stL f).set 0 ((f 0^^^kst.getD i 0:Nat):Int)=stL (ioK f i):=by
 rw[stL_set]
 exact stL_congr fun k hk=>by by_cases e:k=0<;>simp[ioK,e]
end Go.Proofs.YtpgjobpmafbigaaGreatDoor

namespace Go.Proofs.YtpgjobpmafbigaaGreatDoor
open Go.ChangeShapes Go.WideShapes Go.ChangeAt Go.RowKit
set_option linter.unusedSimpArgs false
set_option linter.unusedVariables false

theorem or_turn (x n:Nat) (hx:x<18446744073709551616) (hn:n<64):(x * 2 ^ n % 18446744073709551616) ||| (x / 2 ^ (64 - n))=turnN x n:=by
 unfold turnN
 split
 ·rename_i h
  subst h
  rw[Nat.pow_zero,Nat.mul_one,Nat.mod_eq_of_lt hx,Nat.div_eq_of_lt (by simpa using hx),Nat.or_zero]
 ·unfold rotN
  have h64:(18446744073709551616:Nat)=2 ^ n * 2 ^ (64 - n):=by rw[←Nat.pow_add,show n+(64 - n)=64 by omega]
  have hB:x / 2 ^ (64 - n)<2 ^ n:=by
   refine Nat.div_lt_of_lt_mul ?_
   rw[Nat.mul_comm,←h64]
   exact hx
  rw[h64,Nat.mul_comm x,Nat.mul_mod_mul_left,Nat.two_pow_add_eq_or_of_lt hB]
theorem and63 (n:Nat) (hn:n<64):bits .and .u64 (n:Int) 63=(n:Int):=by
 have h:=u64_and_nat n 63 (by omega) (by decide)
 rw[show((63:Int))=((63:Nat):Int) from rfl,h,show(63:Nat)=2 ^ 6 - 1 from rfl,Nat.and_two_pow_sub_one_eq_mod,Nat.mod_eq_of_lt (by omega)]

set_option maxHeartbeats 400000 in
theorem rot_any (x n:Nat) (X B:Int) (hX:X=x) (hB:B=n) (hx:x<18446744073709551616) (hn:n<64) (w:World):
  Calls Tryz.prog 385 #[.int .u64 X,.int .i64 B] w fun e w'=>e=.returned (.int .u64 ((turnN x n:Nat):Int))∧w'=w:=by
 subst hX hB
 have ha:=and63 n hn
 have HN:Hid (((64:Int) - (n:Int)).toNat=64 - n):=by show Int.toNat _=_;omega
 have HE:Hid _:=or_turn x n hx hn
 go_enter Tryz.func385,Tryz.ntmps385
 go_wp2
 go_ret
 refine⟨retI ?_,rfl⟩
 have e1:((x:Int) * 2 ^ n)=((x * 2 ^ n:Nat):Int):=by simp
 have e2:((x:Int) / 2 ^ (64 - n))=((x / 2 ^ (64 - n):Nat):Int):=by simp
 rw[e1,e2,IntKind.wrap_u64,show((x * 2 ^ n:Nat):Int) % 18446744073709551616=((x * 2 ^ n % 18446744073709551616:Nat):Int) by omega,u64_or_nat _ _ (Nat.mod_lt _ (by decide)) (Nat.lt_of_le_of_lt (Nat.div_le_self _ _) hx),HE.out]

theorem isRound_any (r:Int) (w:World):
  Calls Tryz.prog 365 #[.int .i64 r] w fun e w'=>e=.returned (.bool (decide (0≤r∧r≤23)))∧w'=w:=by
 by_cases h0:0≤r
 ·have HE:Hid (decide (r<24)=decide (0≤r∧r≤23)):=by
   show decide _=decide _
   by_cases h:r<24<;>simp[h]<;>omega
  go_enter Tryz.func365,Tryz.ntmps365
  go_wp2
  go_ret
  exact⟨congrArg (fun b=>Ending.returned (.bool b)) HE.out,rfl⟩
 ·have hd:decide (0≤r)=false:=decide_eq_false h0
  go_enter Tryz.func365,Tryz.ntmps365
  go_wp2
  go_ret
  exact⟨rfl,rfl⟩

def trT:List Int:=[0,1,62,28,27,36,44,6,55,20,3,10,43,25,39,41,45,15,21,8,18,2,61,56,14]
def ksT:List Int:=kst.map fun x=>((x:Nat):Int)
theorem trT_eq:∀i,i<25→trT.getD i 0=((if i=0 then 0 else rhBy (rhTau i):Nat):Int):=by decide
theorem ksT_get (i:Nat) (hi:i<24):ksT.getD i 0=((kst.getD i 0:Nat):Int):=by
 have h:i<kst.length:=hi
 simp[ksT,h]
structure Tabs (w:World):Prop where
 turns:∀i,i<25→w.cell? ⟨7,i,none⟩=some (.int .i64 (trT.getD i 0))
 consts:∀i,i<24→w.cell? ⟨6,i,none⟩=some (.int .u64 (ksT.getD i 0))
theorem Tabs.kept {w w':World} (h:Tabs w) (hb:Below w.heap.size w w'):Tabs w':=
 ⟨fun i hi=>by rw[hb.cell (p:=⟨7,i,none⟩) (World.block_lt_of_cell? w _ (h.turns i hi))];exact h.turns i hi,
  fun i hi=>by rw[hb.cell (p:=⟨6,i,none⟩) (World.block_lt_of_cell? w _ (h.consts i hi))];exact h.consts i hi⟩
theorem Tabs.two {w:World} (h:Tabs w):7<w.heap.size:=by
 have h1:7<w.heap.size:=World.block_lt_of_cell? w _ (h.turns 0 (by decide))
 have h2:6<w.heap.size:=World.block_lt_of_cell? w _ (h.consts 0 (by decide))
 omega
theorem Tabs.wrote {g:Nat} {w w':World} (h:Tabs w) (hw:Wrote g w w') (hg:7<g):Tabs w':=by
 have hb:=hw.below (7+1) w hg (Below.refl _ _)
 exact⟨fun i hi=>by rw[hb.cell (p:=⟨7,i,none⟩) (by decide:(7:Nat)<7+1)];exact h.turns i hi,
  fun i hi=>by rw[hb.cell (p:=⟨6,i,none⟩) (by decide:(6:Nat)<7+1)];exact h.consts i hi⟩
def plL:List Nat:=[0,4,8,12,1,5,9,13,2,6,10,14,3,7,11,15,0,5,10,15,1,6,11,12,2,7,8,13,3,4,9,14]
def PlT (w:World):Prop:=∀i,i<32→w.cell? ⟨8,i,none⟩=some (.int .i64 ((plL.getD i 0:Nat):Int))
theorem PlT.kept {w w':World} (h:PlT w) (hb:Below w.heap.size w w'):PlT w':=fun i hi=>by
 rw[hb.cell (p:=⟨8,i,none⟩) (World.block_lt_of_cell? w _ (h i hi))]
 exact h i hi
def p17L:List Nat:=[17,289,296,1062,2642,2580,1729]
def PwT (w:World):Prop:=∀i,i<7→w.cell? ⟨2,i,none⟩=some (.int .i64 ((p17L.getD i 0:Nat):Int))
theorem PwT.kept {w w':World} (h:PwT w) (hb:Below w.heap.size w w'):PwT w':=fun i hi=>by
 rw[hb.cell (p:=⟨2,i,none⟩) (World.block_lt_of_cell? w _ (h i hi))]
 exact h i hi
theorem p17_lt:∀i,i<7→p17L.getD i 0<3329:=by decide
def zP (m:Nat):Nat→Nat
 |0=>1
 |j+1=>if m / 2 ^ j % 2=1 then zP m j * p17L.getD (6 - j) 0 % 3329 else zP m j
theorem zP_all:allB (fun m=>zP m 7==17 ^ tnJ m 7 % 3329) 128=true:=by decide+kernel
theorem zP_seven (m:Nat) (h:m<128):zP m 7=17 ^ tnJ m 7 % 3329:=by
 have:=allB_at zP_all m h
 simpa using this
theorem bit_of (i:Int) (j:Nat) (h:j<7):i / 2 ^ j % 2=((twZ 7 i / 2 ^ j % 2:Nat):Int):=by
 unfold twZ
 match j,h with
 |0,_=>omega
 |1,_=>omega
 |2,_=>omega
 |3,_=>omega
 |4,_=>omega
 |5,_=>omega
 |6,_=>omega
theorem and_bit (y:Int) (h:In64 y):bits .and .i64 y 1=y % 2:=by
 have h1:=and_low 1 (by decide) y h
 rw[show((twZ 1 y:Nat):Int)=y % 2 by unfold twZ;omega] at h1
 exact h1
theorem div_in (i:Int) (j:Nat) (h:j<7) (hi:In64 i):In64 (i / 2 ^ j):=by
 match j,h with
 |0,_=>constructor<;>omega
 |1,_=>constructor<;>omega
 |2,_=>constructor<;>omega
 |3,_=>constructor<;>omega
 |4,_=>constructor<;>omega
 |5,_=>constructor<;>omega
 |6,_=>constructor<;>omega

set_option maxRecDepth 100000 in
set_option maxHeartbeats 1000000 in
theorem zzeta_any (i:Int) (hi:In64 i) (w:World) (hT:PwT w):
  Calls Tryz.prog 258 #[.int .i64 i] w fun e w'=>e=.returned (.int .i64 ((17 ^ tnJ (twZ 7 i) 7 % 3329:Nat):Int))∧w'=w:=by
 obtain⟨Z,hZ⟩:∃Z:Nat,Z=17 ^ tnJ (twZ 7 i) 7 % 3329:=⟨_,rfl⟩
 rw[←hZ]
 have HZ:Hid (Z=zP (twZ 7 i) 7):=by
  show _=_
  rw[hZ,zP_seven _ (twZ_lt 7 i)]
 have HT:Hid _:=hT
 have HI:Hid _:=hi
 clear hZ hT hi
 go_enter Tryz.func258,Tryz.ntmps258
 go_wp2_with fail
 go_loop [3,5] (fun ov jv=>∃j o:Nat,j≤7∧ov=.int .i64 (o:Int)∧Hid (o=zP (twZ 7 i) j)∧o<3329∧jv=.int .i64 (j:Int)) (fun _ jv=>7 - (intOf jv).toNat)
 case atStart=>exact⟨0,1,by omega,rfl,rfl,by omega,rfl⟩
 case round=>
  obtain⟨j,o,hj,rfl,HO,ho,rfl⟩:=hrel
  by_cases hl:j<7
  ·have hd:decide ((j:Int)<7)=true:=decide_eq_true (by omega)
   have hjI:(j:Int)<7:=by omega
   have hj0:¬(j:Int)<0:=by omega
   have b1:=bit_of i j hl
   have b2:=and_bit (i / 2 ^ j) (div_in i j hl HI.out)
   rw[b1] at b2
   have hbl:twZ 7 i / 2 ^ j % 2<2:=Nat.mod_lt _ (by decide)
   by_cases hb:twZ 7 i / 2 ^ j % 2=1
   ·have HN:Hid (zP (twZ 7 i) (j+1)=o * p17L.getD (6 - j) 0 % 3329):=by
     show _=_
     rw[HO.out,zP,if_pos hb]
    rw[hb] at b2
    obtain⟨k,hk⟩:∃k:Nat,k=6 - j:=⟨_,rfl⟩
    have hc:=HT.out k (by omega)
    have hy:=p17_lt k (by omega)
    have ek:6 - (j:Int)=(k:Int):=by omega
    have hk7:k<7:=by omega
    have hkI:(k:Int)<7:=by omega
    rw[←hk] at HN
    generalize p17L.getD k 0=y at hc hy HN
    have HM:Hid (rsZ ((o:Int) * (y:Int))=zP (twZ 7 i) (j+1)):=by
     show _=_
     rw[HN.out,←Int.natCast_mul,rsZ_nat]
    clear HN hk hb b1 hbl
    go_wp2_with fail
    refine(zmul_any (o:Int) (y:Int) ⟨by omega,by omega⟩ ⟨by omega,by omega⟩ _).mono ?_
    rintro e w1 ⟨rfl,rfl⟩
    have hb1:=rsZ_lt ((o:Int) * (y:Int))
    generalize rsZ ((o:Int) * (y:Int))=p at HM hb1
    clear hc
    go_wp2
    go_round
    case rel=>exact⟨j+1,p,by omega,rfl,HM,hb1,by go_num⟩
    case measure=>simp[intOf]<;>omega
   ·have hb0:twZ 7 i / 2 ^ j % 2=0:=by omega
    have HN:Hid (o=zP (twZ 7 i) (j+1)):=by
     show _=_
     rw[HO.out,zP,if_neg hb]
    rw[hb0] at b2
    clear hb hb0 b1 hbl
    go_wp2
    go_round
    case rel=>exact⟨j+1,o,by omega,rfl,HN,ho,by go_num⟩
    case measure=>simp[intOf]<;>omega
  ·have hje:j=7:=by omega
   have hd:decide ((j:Int)<7)=false:=decide_eq_false (by omega)
   have hjI:(7:Int)≤(j:Int):=by omega
   have HN2:Hid (o=Z):=by show _=_;rw[HZ.out,HO.out,hje]
   clear hje HO
   go_wp2
   go_ret
   exact⟨retZ (by rw[HN2.out]),rfl⟩
end Go.Proofs.YtpgjobpmafbigaaGreatDoor
