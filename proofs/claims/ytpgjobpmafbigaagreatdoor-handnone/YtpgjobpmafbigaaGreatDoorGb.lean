/- What functions of the program, or of the reference, answer: contracts; several texts in one. -/
import Derived.Test.YtpgjobpmafbigaaGreatDoorGa
import Derived.Test.YtpgjobpmafbigaaGreatDoorChecked
import Derived.OwnWalk
import Derived.Deep.QuietTactic
import Derived.BigQuiet
import Derived.WalkSpells
import Derived.RegionTactic
import Derived.BigRegion
import Derived.Laws.Externs
import Derived.Lib.Mul64
import Derived.Test.YtpgjobpmafbigaaGreatDoorRows
import Derived.WalkKit
import Derived.Laws.BitsAllLaws
import Derived.Below
import Derived.Lib.Split
import Derived.Lib.SplitLaws
import Derived.Lib.TrimByte
import Derived.Lib.Strings
import Derived.Lib.Join
import Derived.Lib.SlicesS
import Derived.Lib.SmallJoins
import Derived.Deep.SlicePairs
import Derived.Deep.Strs
import Derived.OpenShut
import Derived.ChangeSlices
import Derived.Lib.LaidTab
import Derived.Shelf.LaysM
import Derived.Shelf.Strings.OnBuilder
import Derived.Shelf.Strings.Trim
import Derived.Shelf.Small.Wraps
import Derived.Shelf.Strconv.Clone
import Derived.Shelf.Strings.Split
import Derived.Shelf.Slices.Turned
import Derived.Test.YtpgjobpmafbigaaGreatDoorProg
import Derived.Deep.DeepCutAuto

namespace Go.Proofs.YtpgjobpmafbigaaGreatDoor
set_option linter.unusedSimpArgs false
set_option linter.unusedVariables false

def rsZ (x:Int):Nat:=(x % 3329).toNat
theorem rsZ_lt (x:Int):rsZ x<3329:=by unfold rsZ;omega
theorem rsZ_int (x:Int):((rsZ x:Nat):Int)=x % 3329:=by unfold rsZ;omega
theorem rsZ_nat (n:Nat):rsZ (n:Int)=n % 3329:=by unfold rsZ;omega
theorem pow_one (a e:Nat) (he:e=3328) (h:a % 3329≠0):a ^ e % 3329=1:=by
 have h1:=fermat pr3329 a (fun hd=>h (Nat.mod_eq_zero_of_dvd hd))
 have h2:3329 - 1=e:=by omega
 rw[h2] at h1
 exact h1
def tnJ (m:Nat):Nat→Nat
 |0=>0
 |j+1=>tnJ m j * 2+m / 2 ^ j % 2
def cpZ (d:Nat) (x:Int):Nat:=(2 ^ (d+1) * rsZ x+3329) / 6658 % 2 ^ d
def twZ (d:Nat) (y:Int):Nat:=(y % ((2 ^ d:Nat):Int)).toNat
def dcZ (d:Nat) (y:Int):Nat:=(6658 * twZ d y+2 ^ d) / 2 ^ (d+1)
end Go.Proofs.YtpgjobpmafbigaaGreatDoor

namespace Go.Proofs.YtpgjobpmafbigaaGreatDoor
open Go.ChangeShapes Go.WideShapes Go.ChangeAt Go.RowKit
set_option linter.unusedSimpArgs false
set_option linter.unusedVariables false

abbrev In64 (x:Int):Prop:= -9223372036854775808≤x∧x≤9223372036854775807
theorem retZ {k:IntKind} {a b:Int} (h:a=b):Ending.returned (.int k a)=.returned (.int k b):=by rw[h]

abbrev elV (l:List Nat):Value:=.agg ((nI l).map (Value.int .u64)).toArray
theorem elInfo {l:List Nat} (h:El4 l):(Tryz.prog.info? 157).map (·.size)=some (nI l).length:=by rw[h.len];kernel_rfl
theorem elMax {l:List Nat} (h:El4 l):(nI l).length≤maxLen:=by rw[h.len];decide
theorem z4_get (i:Nat):z4.getD i 0=0:=by
 match i with
 |0=>rfl
 |1=>rfl
 |2=>rfl
 |3=>rfl
 |(n+4)=>simp[z4]
theorem alloc_el (w:World):(Instr.alloc 157 true (.tuple #[])).run Tryz.prog w=.ok (.pointer (some ⟨w.heap.size,0,none⟩)) (w.alloc (.cells ((nI z4).map (Value.int .u64)).toArray 157)):=by kernel_rfl

theorem run_subEntry {P:Program} (x y b:Nat) (hb:b≤1) (w:World):
 (subEntry #[.int .u64 x,.int .u64 y,.int .u64 b]).run P w=.ok (.tuple #[.int .u64 (((x+18446744073709551616 - y - b) % 18446744073709551616:Nat):Int),.int .u64 ((if x<y+b then 1 else 0:Nat):Int)]) w:=by
 have:b=0∨b=1:=by omega
 rcases this with rfl|rfl<;>rfl

theorem add64_run (x y:Nat):∃s c:Nat,s<18446744073709551616∧s+18446744073709551616 * c=x+y∧
 ∀w:World,(callFunc 322 #[.int .u64 (x:Int),.int .u64 (y:Int),.int .u64 0]).run Tryz.prog w=.ok (.value (.tuple #[.int .u64 (s:Int),.int .u64 (c:Int)])) w:=by
 refine⟨(x+y) % 18446744073709551616,(x+y) / 18446744073709551616,Nat.mod_lt _ (by decide),Nat.mod_add_div _ _,fun w=>?_⟩
 rw[run_callFunc_extern Tryz.func322 (by kernel_rfl) (by kernel_rfl) (by kernel_rfl) (e:=add64Entry) (by kernel_rfl),run_add64 _ _ 0 (by omega) (by omega) (by omega) (by omega)]
 simp only[Result.andThen]
 congr 5<;>omega

theorem sub64_run (x y b:Nat) (hx:x<18446744073709551616) (hy:y<18446744073709551616) (hb:b≤1):∃d b':Nat,d<18446744073709551616∧b'≤1∧d+y+b=x+18446744073709551616 * b'∧
 ∀w:World,(callFunc 323 #[.int .u64 (x:Int),.int .u64 (y:Int),.int .u64 (b:Int)]).run Tryz.prog w=.ok (.value (.tuple #[.int .u64 (d:Int),.int .u64 (b':Int)])) w:=by
 refine⟨(x+18446744073709551616 - y - b) % 18446744073709551616,if x<y+b then 1 else 0,Nat.mod_lt _ (by decide),by split<;>omega,by split<;>omega,fun w=>?_⟩
 rw[run_callFunc_extern Tryz.func323 (by kernel_rfl) (by kernel_rfl) (by kernel_rfl) (e:=subEntry) (by kernel_rfl),run_subEntry x y b hb]
 rfl

theorem mask32 (x:Nat) (hx:x<18446744073709551616):bits .and .u64 (x:Int) 4294967295=((x % 4294967296:Nat):Int):=by
 have:=u64_and_nat x 4294967295 hx (by decide)
 rw[show(4294967295:Int)=((4294967295:Nat):Int) from rfl,this,show(4294967295:Nat)=2 ^ 32 - 1 from rfl,Nat.and_two_pow_sub_one_eq_mod]

theorem mask63 (x:Nat) (hx:x<18446744073709551616):bits .and .u64 (x:Int) 9223372036854775807=((x % 9223372036854775808:Nat):Int):=by
 have:=u64_and_nat x 9223372036854775807 hx (by decide)
 rw[show(9223372036854775807:Int)=((9223372036854775807:Nat):Int) from rfl,this,show(9223372036854775807:Nat)=2 ^ 63 - 1 from rfl,Nat.and_two_pow_sub_one_eq_mod]

theorem wrapN (n:Nat) (h:n<18446744073709551616):IntKind.u64.wrap (n:Int)=(n:Int):=by rw[IntKind.wrap_u64];omega
theorem wrapM (a b n:Nat) (hn:n=a * b) (h:n<18446744073709551616):IntKind.u64.wrap ((a:Int) * (b:Int))=(n:Int):=by
 rw[←Int.natCast_mul,←hn]
 exact wrapN n h
theorem wrapA (a b n:Nat) (hn:n=a+b) (h:n<18446744073709551616):IntKind.u64.wrap ((a:Int)+(b:Int))=(n:Int):=by
 rw[←Int.natCast_add,←hn]
 exact wrapN n h

set_option maxHeartbeats 1000000 in
theorem mul64_any (x y:Nat) (hx:x<18446744073709551616) (hy:y<18446744073709551616) (w:World):
 Calls Tryz.prog 321 #[.int .u64 (x:Int),.int .u64 (y:Int)] w fun e w'=>(∃hi lo:Nat,e=.returned (.tuple #[.int .u64 (hi:Int),.int .u64 (lo:Int)])∧hi<18446744073709551616∧lo<18446744073709551616∧lo+18446744073709551616 * hi=x * y)∧w'=w:=by
 obtain⟨h1,h2,h3,h4⟩:=Lib.mul64_hi x y hx hy
 have hlt:x * y / 18446744073709551616<18446744073709551616:=by
 have:x * y<18446744073709551616 * 18446744073709551616:=Nat.mul_lt_mul'' hx hy
 omega
 obtain⟨x0,hx0⟩:∃n:Nat,n=x % 4294967296:=⟨_,rfl⟩
 obtain⟨x1,hx1⟩:∃n:Nat,n=x / 4294967296:=⟨_,rfl⟩
 obtain⟨y0,hy0⟩:∃n:Nat,n=y % 4294967296:=⟨_,rfl⟩
 obtain⟨y1,hy1⟩:∃n:Nat,n=y / 4294967296:=⟨_,rfl⟩
 rw[←hx0,←hy0] at h1
 rw[←hx0,←hy0,←hx1] at h2
 rw[←hx0,←hy0,←hx1,←hy1] at h3 h4
 obtain⟨p,hp⟩:∃n:Nat,n=x0 * y0:=⟨_,rfl⟩
 obtain⟨p1,hp1⟩:∃n:Nat,n=p / 4294967296:=⟨_,rfl⟩
 obtain⟨q,hq⟩:∃n:Nat,n=x1 * y0:=⟨_,rfl⟩
 obtain⟨t,ht⟩:∃n:Nat,n=q+p1:=⟨_,rfl⟩
 obtain⟨t0,ht0⟩:∃n:Nat,n=t % 4294967296:=⟨_,rfl⟩
 obtain⟨t1,ht1⟩:∃n:Nat,n=t / 4294967296:=⟨_,rfl⟩
 obtain⟨r,hr⟩:∃n:Nat,n=x0 * y1:=⟨_,rfl⟩
 obtain⟨u,hu⟩:∃n:Nat,n=t0+r:=⟨_,rfl⟩
 obtain⟨u1,hu1⟩:∃n:Nat,n=u / 4294967296:=⟨_,rfl⟩
 obtain⟨s,hs⟩:∃n:Nat,n=x1 * y1:=⟨_,rfl⟩
 obtain⟨v,hv⟩:∃n:Nat,n=s+t1:=⟨_,rfl⟩
 obtain⟨H,hH⟩:∃n:Nat,n=v+u1:=⟨_,rfl⟩
 obtain⟨L,hL⟩:∃n:Nat,n=x * y % 18446744073709551616:=⟨_,rfl⟩
 rw[←hp] at h1
 rw[←hp,←hq,←hp1,←ht] at h2
 rw[←hp,←hq,←hp1,←ht,←ht0,←hr,←hu] at h3
 rw[←hp,←hq,←hp1,←ht,←ht0,←ht1,←hr,←hu,←hu1,←hs,←hv,←hH] at h4
 have e1:bits .and .u64 (x:Int) 4294967295=(x0:Int):=by rw[mask32 x hx,hx0]
 have e2:bits .and .u64 (y:Int) 4294967295=(y0:Int):=by rw[mask32 y hy,hy0]
 have e3:(x:Int) / 4294967296=(x1:Int):=by omega
 have e4:(y:Int) / 4294967296=(y1:Int):=by omega
 have e5:IntKind.u64.wrap ((x0:Int) * (y0:Int))=(p:Int):=wrapM _ _ _ hp h1
 have e6:IntKind.u64.wrap ((x1:Int) * (y0:Int))=(q:Int):=wrapM _ _ _ hq (by omega)
 have e7:(p:Int) / 4294967296=(p1:Int):=by omega
 have e8:IntKind.u64.wrap ((q:Int)+(p1:Int))=(t:Int):=wrapA _ _ _ ht h2
 have e9:bits .and .u64 (t:Int) 4294967295=(t0:Int):=by rw[mask32 t h2,ht0]
 have e10:(t:Int) / 4294967296=(t1:Int):=by omega
 have e11:IntKind.u64.wrap ((x0:Int) * (y1:Int))=(r:Int):=wrapM _ _ _ hr (by omega)
 have e12:IntKind.u64.wrap ((t0:Int)+(r:Int))=(u:Int):=wrapA _ _ _ hu h3
 have e13:IntKind.u64.wrap ((x1:Int) * (y1:Int))=(s:Int):=wrapM _ _ _ hs (by omega)
 have e14:IntKind.u64.wrap ((s:Int)+(t1:Int))=(v:Int):=wrapA _ _ _ hv (by omega)
 have e15:(u:Int) / 4294967296=(u1:Int):=by omega
 have e16:IntKind.u64.wrap ((v:Int)+(u1:Int))=(H:Int):=wrapA _ _ _ hH (by omega)
 have e17:IntKind.u64.wrap ((x:Int) * (y:Int))=(L:Int):=by rw[←Int.natCast_mul,IntKind.wrap_u64];omega
 have HF:Hid (H<18446744073709551616∧L<18446744073709551616∧L+18446744073709551616 * H=x * y):=⟨by omega,by omega,by omega⟩
 clear hx hy hlt hx0 hx1 hy0 hy1 h1 h2 h3 h4 hp hp1 hq ht ht0 ht1 hr hu hu1 hs hv hH hL
 go_enter Tryz.func321,Tryz.ntmps321
 go_wp2
 go_ret2
 exact⟨⟨H,L,rfl,HF.out.1,HF.out.2.1,HF.out.2.2⟩,rfl⟩

theorem cellK {w W:World} {p:Addr} {v:Value} (h:w.cell? p=some v) (hb:Below w.heap.size w W):W.cell? p=some v:=by
 rw[hb.cell (World.block_lt_of_cell? _ _ h)]
 exact h

theorem wp_alloc_el {w0:World} {op:Oper} {a:Act} {w:World} {K:Act→World→Prop} {Q:Exit→Act→World→Prop} (hB:Below w0.heap.size w0 w) (ho:op.op=.alloc 157)
 (h:∀g w',RowAt .u64 157 g 4 (nI z4) w'→w0.heap.size≤g→Below w0.heap.size w0 w'→K (a.put op.dst (.pointer (some ⟨g,0,none⟩))) w'):op.wp Tryz.prog a w K Q:=by
 unfold Oper.wp execOp
 simp only[ho,Sem.run_bind,alloc_el,Result.andThen_ok,Sem.run_pure]
 refine h _ _ (RowAt.fresh (nI z4) rfl rfl z4_el.len.symm z4_el.ne (elMax z4_el)) hB.size (stepB hB (growB _))

theorem wp_store_el {w0:World} {g:Nat} {l l2:List Nat} {op:Oper} {a:Act} {w:World} {K:Act→World→Prop} {Q:Exit→Act→World→Prop} (hB:Below w0.heap.size w0 w) (hge:w0.heap.size≤g) (x y:Operand) (ho:op.op=.store 157 x y)
 (hx:a.eval x=.pointer (some ⟨g,0,none⟩)) (hy:a.eval y=elV l2) (hr:RowAt .u64 157 g 4 (nI l) w) (hl:El4 l) (hl2:El4 l2)
 (h:∀w',RowAt .u64 157 g 4 (nI l2) w'→Below w0.heap.size w0 w'→K (a.put op.dst undef) w'):op.wp Tryz.prog a w K Q:=
 wp_store_row 157 x y ho (nI l2) hx hy hr (by rw[hl.len,hl2.len]) (elInfo hl) fun w' h1 h2=>h w' h1 (h2.below _ _ hge hB)

theorem bodyPost_row2 {k:IntKind} {e:TypeId} {g cap:Nat} {l:List Int} {P:Program} {fn:Func} {p q:Tmp} {ty:TypeId} {d:TypeDesc} {v:Value} {R:Ending→World→Prop} {a:Act} {w:World} (h:fn.results=#[.cell p ty,.tmp q]) (hd:a.defers=[])
 (hp:a.tmps.getD p undef=.pointer (some ⟨g,0,none⟩)) (hq:a.tmps.getD q undef=v) (hr:RowAt k e g cap l w) (hu:P.underlying ty=some d) (hrow:d.isRow=true) (hi:(P.info? ty).map (·.size)=some l.length)
 (hR:R (.returned (.tuple #[.agg (l.map (Value.int k)).toArray,v])) w):bodyPost P fn R .ret a w:=by
 refine bodyPost_ret ?_ hd hR
 have hp':a.tmps[p]?.getD undef=.pointer (some ⟨g,0,none⟩):=by simpa using hp
 have hq':a.tmps[q]?.getD undef=v:=by simpa using hq
 have hl:=hr.load (P:=P) hu hrow hi
 simp[results,h,hp',hq',asAddr,hl]
theorem bodyPost_rows {k:IntKind} {e:TypeId} {g g2 cap cap2:Nat} {l l2:List Int} {P:Program} {fn:Func} {p q:Tmp} {ty:TypeId} {d:TypeDesc} {R:Ending→World→Prop} {a:Act} {w:World} (h:fn.results=#[.cell p ty,.cell q ty]) (hd:a.defers=[])
 (hp:a.tmps.getD p undef=.pointer (some ⟨g,0,none⟩)) (hq:a.tmps.getD q undef=.pointer (some ⟨g2,0,none⟩)) (hr:RowAt k e g cap l w) (hr2:RowAt k e g2 cap2 l2 w) (hu:P.underlying ty=some d) (hrow:d.isRow=true) (hi:(P.info? ty).map (·.size)=some l.length) (hi2:(P.info? ty).map (·.size)=some l2.length)
 (hR:R (.returned (.tuple #[.agg (l.map (Value.int k)).toArray,.agg (l2.map (Value.int k)).toArray])) w):bodyPost P fn R .ret a w:=by
 refine bodyPost_ret ?_ hd hR
 have hp':a.tmps[p]?.getD undef=.pointer (some ⟨g,0,none⟩):=by simpa using hp
 have hq':a.tmps[q]?.getD undef=.pointer (some ⟨g2,0,none⟩):=by simpa using hq
 have hl:=hr.load (P:=P) hu hrow hi
 have hl2:=hr2.load (P:=P) hu hrow hi2
 simp[results,h,hp',hq',asAddr,hl,hl2]

set_option maxRecDepth 100000 in
set_option maxHeartbeats 2000000 in
theorem addTimes_any (A B:Array Value) (a b:List Nat) (c:Nat) (C:Int) (ha:El4 a) (hb:El4 b) (hc:c<18446744073709551616) (hA:A=((nI a).map (Value.int .u64)).toArray) (hB:B=((nI b).map (Value.int .u64)).toArray) (hC:C=(c:Int)) (w:World):
 Calls Tryz.prog 248 #[.agg A,.int .u64 C,.agg B] w fun e w'=>∃(r:List Nat) (o:Nat),e=.returned (.tuple #[elV r,.int .u64 (o:Int)])∧El4 r∧o<18446744073709551616∧
  wv r+115792089237316195423570985008687907853269984665640564039457584007913129639936 * o=wv a+c * wv b∧Below w.heap.size w w':=by
 subst hC
 go_enter Tryz.func248,Tryz.ntmps248
 go_wp2_with (refine wpList_box_row (k:=.u64) rfl 157 _ rfl (nI a) (by rw[←hA];rfl) ha.ne (elMax ha) ?_)
 intro w1 r1 b1 s1
 rw[ha.len] at r1
 go_wp2_with (refine wpList_box_row (k:=.u64) rfl 157 _ rfl (nI b) (by rw[←hB];rfl) hb.ne (elMax hb) ?_)
 intro w2 r2 b2 s2
 rw[hb.len] at r2
 go_wp2_with (refine wpList_alloc_row (k:=.u64) rfl 157 rfl (nI z4) (alloc_el _) z4_el.ne (elMax z4_el) ?_)
 intro w3 r3 b3 s3
 rw[z4_el.len] at r3
 have hr1:=(r1.kept b2).kept b3
 have hr2:=r2.kept b3
 have hbw:=stepB (stepB b1 b2) b3
 have n1:w.heap.size<w1.heap.size:=by have:=s1.out;omega
 have n2:w1.heap.size<w2.heap.size:=by have:=s2.out;omega
 have HA:Hid (El4 a):=ha
 have HB:Hid (El4 b):=hb
 clear r1 r2 b1 b2 b3 s1 s2 s3 hA hB ha hb
 go_wp2
 go_loopw [14,8] (fun iv cv wx=>∃(i o:Nat) (cur:List Nat),i≤4∧iv=.int .i64 (i:Int)∧cv=.int .u64 (o:Int)∧o<18446744073709551616∧Hid (El4 cur)∧Hid (wv cur+18446744073709551616 ^ i * o=wv a+c * wv (b.take i))∧
 RowAt .u64 157 w.heap.size 4 (nI cur) wx∧RowAt .u64 157 w1.heap.size 4 (nI b) wx∧RowAt .u64 157 w2.heap.size 4 (nI z4) wx∧Below w.heap.size w wx) (fun iv _ _=>4 - (intOf iv).toNat)
 case atStart=>exact⟨0,0,a,by omega,rfl,rfl,by omega,HA,(by show _=_;rw[Nat.mul_zero,List.take_zero];rfl),hr1,hr2,r3,hbw⟩
 case round=>
 obtain⟨i,o,cur,hi,rfl,rfl,ho,HC,HE,ra,rb,rz,hbx⟩:=hrel
 clear hr1 hr2 r3 hbw
 by_cases hlt:i<4
 ·have hd:decide ((i:Int)<4)=true:=decide_eq_true (by omega)
  have hiI:(i:Int)<4:=by omega
  have hcb:=rb.cell (j:=i) (by rw[nI_length,HB.out.1];exact hlt)
  have hca:=ra.cell (j:=i) (by rw[nI_length,HC.out.1];exact hlt)
  have hfa:=ra.free i
  rw[nI_get] at hcb hca
  have hy:=HB.out.get i
  have hq:=HC.out.get i
  have HS:Hid (∀s o':Nat,s<18446744073709551616→s+18446744073709551616 * o'=cur.getD i 0+c * b.getD i 0+o→El4 (cur.set i s)∧o' <18446744073709551616∧wv (cur.set i s)+18446744073709551616 ^ (i+1) * o'=wv a+c * wv (b.take (i+1))):=by
  intro s o' hs he
  exact⟨HC.out.set i hs,at_bound _ _ _ _ _ _ hq hc hy ho he,at_step cur b i o o' s (wv a) c (by rw[HC.out.1];exact hlt) (by rw[HB.out.1];exact hlt) he HE.out⟩
  have HR:Hid (∀s:Nat,RowAt .u64 157 w.heap.size 4 (nI (cur.set i s)) (wr.setCell ⟨w.heap.size,i,none⟩ (.int .u64 (s:Int)))):=fun s=>by
  rw[←nI_set]
  exact ra.set i _
  have HRb:Hid (∀u:Value,RowAt .u64 157 w1.heap.size 4 (nI b) (wr.setCell ⟨w.heap.size,i,none⟩ u)∧RowAt .u64 157 w2.heap.size 4 (nI z4) (wr.setCell ⟨w.heap.size,i,none⟩ u)∧Below w.heap.size w (wr.setCell ⟨w.heap.size,i,none⟩ u)):=fun u=>
  ⟨rb.other (p:=⟨w.heap.size,i,none⟩) (by show w.heap.size≠_;omega) u,rz.other (p:=⟨w.heap.size,i,none⟩) (by show w.heap.size≠_;omega) u,(Wrote.set w.heap.size i wr u).below _ _ (Nat.le_refl _) hbx⟩
  generalize b.getD i 0=y at hcb hy HS
  generalize cur.getD i 0=q at hca hq HS
  clear ra rb rz hbx HE
  go_wp2_with fail
  refine(mul64_any c y hc hy _).mono ?_
  rintro e w4 ⟨⟨hi',lo,rfl,hhi,hlo,hp⟩,rfl⟩
  obtain⟨s1,c1,hs1,he1,run1⟩:=add64_run lo q
  obtain⟨s2,c2,hs2,he2,run2⟩:=add64_run s1 o
  have hpb:c * y≤18446744073709551615 * 18446744073709551615:=Nat.mul_le_mul (by omega) (by omega)
  obtain⟨g1,hg1⟩:∃n:Nat,n=hi'+c1:=⟨_,rfl⟩
  obtain⟨g2,hg2⟩:∃n:Nat,n=g1+c2:=⟨_,rfl⟩
  obtain⟨k1,k2,k3⟩:=HS.out s2 g2 hs2 (by omega)
  have a1:IntKind.u64.wrap ((hi':Int)+(c1:Int))=(g1:Int):=wrapA _ _ _ hg1 (by omega)
  have a2:IntKind.u64.wrap ((g1:Int)+(c2:Int))=(g2:Int):=wrapA _ _ _ hg2 (by omega)
  have K1:Hid (El4 (cur.set i s2)):=k1
  have K3:Hid _:=k3
  have hR:=HR.out s2
  obtain⟨hRb,hRz,hbn⟩:=HRb.out (.int .u64 (s2:Int))
  clear k1 k3 HS HR HRb hg1 hg2 hpb hp he1 he2
  go_wp2_with (first|simp only[run1]|simp only[run2])
  go_roundw
  case rel=>exact⟨i+1,g2,cur.set i s2,by omega,by go_num,rfl,k2,K1,K3,hR,hRb,hRz,hbn⟩
  case measure=>simp[intOf]<;>omega
 ·have hie:i=4:=by omega
  have hd:decide ((i:Int)<4)=false:=decide_eq_false (by omega)
  have hiI:(4:Int)≤(i:Int):=by omega
  have HE2:Hid (wv cur+115792089237316195423570985008687907853269984665640564039457584007913129639936 * o=wv a+c * wv b):=by
  have:=HE.out
  rw[hie,List.take_of_length_le (by rw[HB.out.1];exact Nat.le_refl _)] at this
  exact this
  clear HE hie
  go_wp2_with (first|refine wpList_load_row rfl 157 _ rfl rfl ra _ Tryz.underlying157 rfl (elInfo HC.out) ?_|(refine wpList_store_row rfl 157 _ _ rfl (nI cur) rfl rfl rz (by rw[z4_el.len,HC.out.len]) (elInfo z4_el) ?_;intro w6 r6 hw6))
  refine bodyPost_row2 (p:=6) (q:=7) (ty:=157) rfl rfl rfl rfl r6 Tryz.underlying157 rfl (elInfo HC.out) ?_
  exact⟨cur,o,rfl,HC.out,ho,HE2.out,hw6.below _ _ (by omega) hbx⟩
theorem ret_int {k:IntKind} {a b:Int} (h:a=b):Ending.returned (.int k a)=.returned (.int k b):=by rw[h]

theorem val_int {k:IntKind} {a b:Int} (h:a=b):Value.int k a=.int k b:=by rw[h]

theorem load_any (v:Value) (l:List UInt8) (w:World) (hr:Rd w v l):
 Calls Tryz.prog 247 #[v] w fun e w'=>e=.returned (.int .u64 ((leN (l.take 8):Nat):Int))∧w'=w:=by
 obtain⟨a,cap,rfl,h2,h3,h4,h5⟩:=hr
 unfold maxLen at h3
 go_enter Tryz.func247,Tryz.ntmps247
 go_wp2
 all_goals
 go_loop [3,8] (fun x i=>∃k:Nat,k≤l.length∧k≤8∧i=.int .i64 k∧x=.int .u64 ((leN (l.take k):Nat):Int)) (fun _ i=>8 - (intOf i).toNat)
 case atStart=>exact⟨0,Nat.zero_le _,by omega,rfl,rfl⟩
 case round=>
  obtain⟨k,hk,hk8,rfl,rfl⟩:=hrel
  by_cases hlt:k<l.length∧k<8
  ·obtain⟨g1,g2⟩:=hlt
  rcases h5 with rfl|⟨b,off,rfl,hc⟩
  ·simp at g1
  have hck:=hc k g1
  have hst:=load_step l k g1 g2
  have HS:Hid _:=hst
  clear hst hc h4
  go_wp2
  go_round
  case rel=>exact⟨k+1,by omega,by omega,by go_num,val_int (by simpa [g1] using HS.out)⟩
  case measure=>simp[intOf];omega
  ·go_wp2
  go_ret
  refine⟨ret_int ?_,rfl⟩
  have:k=8∨k=l.length:=by omega
  rcases this with rfl|rfl
  ·rfl
  ·rw[List.take_of_length_le (Nat.le_refl _),List.take_of_length_le hk8]

theorem info5:(Tryz.prog.info? 5).map (fun i=>(i.zero,i.size,i.bytes))=some (some (.int .u8 0),1,1):=by kernel_rfl

theorem store_k (x:Nat) (n:Int) (k:Nat) (hk:k≤8) (hn:(n<0∧k=0)∨(0≤n∧n≤8∧n=k)∨(8<n∧k=8)) (w:World):
 Calls Tryz.prog 182 #[.int .u64 x,.int .i64 n] w fun e w'=>∃v,e=.returned v∧New 5 w v ((List.range k).map (stB x)) w':=by
 obtain⟨i,hi,hz0,hz1,hz2⟩:=info_parts info5
 have HK:Hid ((n<0∧k=0)∨(0≤n∧n≤8∧n=k)∨(8<n∧k=8)):=hn
 have hn':n<0∨(0≤n∧n≤8)∨8<n:=by omega
 clear hn
 rcases hn' with h1|⟨h1,h2⟩|h1
 all_goals
 go_enter Tryz.func182,Tryz.ntmps182
 go_wp2_with (at_make;refine wpList_make_full _ rfl _ _ 26 rfl w.heap.size 5 i _ 1 Tryz.underlying26 hi hz0 hz1 _ _ _ _ k rfl rfl (by have:=HK.out;omega) (by have:=HK.out;omega) (by rw[hz2];omega) (by unfold maxLen;omega) (Nat.le_refl _) ?_)
 intro w1 hown hgr
 have hF:=Fill.start (stB x) hown hgr
 clear hown hgr
 go_wp2
 go_loopw [13] (fun i wr=>∃j:Nat,j≤k∧i=.int .i64 j∧Fill 5 w w.heap.size k (stB x) j wr) (fun i _=>k - (intOf i).toNat)
 case atStart=>exact⟨0,Nat.zero_le _,rfl,hF⟩
 case round=>
  obtain⟨j,hj,rfl,hFj⟩:=hrel
  by_cases hlt:j<k
  ·obtain⟨hcj,hfj⟩:=hFj.cell hlt
  go_wp2
  go_roundw
  case rel=>exact⟨j+1,by omega,by go_num,hFj.step (stB_shr x j)⟩
  case measure=>simp[intOf];omega
  ·have:j=k:=by omega
  subst this
  go_wp2
  go_ret
  exact⟨_,rfl,hFj.done⟩

theorem below_drewN {B:Nat} {w wr:World} (h:Below B w wr):∀n,Below B w (wr.drewN n)
 |0=>h
 |n+1=>(below_drewN h n).drew

theorem equal_short (va vb:Value) (la lb:List UInt8) (w:World) (ha:Rd w va la) (hb:Rd w vb lb) (hne:la.length≠lb.length):
 Calls Tryz.prog 94 #[va,vb] w fun e w'=>e=.returned (.bool (decide (la=lb)))∧Below w.heap.size w w':=by
 obtain⟨aa,capa,rfl,ha2,ha3,ha4,ha5⟩:=ha
 obtain⟨ab,capb,rfl,hb2,hb3,hb4,hb5⟩:=hb
 have h1:((la.length:Int) !=(lb.length:Int))=true:=by simp;omega
 have h2:decide (la=lb)=false:=by
 simp only[decide_eq_false_iff_not]
 rintro rfl;exact hne rfl
 rw[h2]
 clear h2 ha5 hb5
 go_enter Tryz.func94,Tryz.ntmps94
 go_wp2
 go_ret
 exact⟨rfl,Below.refl _ _⟩

theorem equal_long (va vb:Value) (la lb:List UInt8) (w:World) (ha:Rd w va la) (hb:Rd w vb lb) (heq:la.length=lb.length):
 Calls Tryz.prog 94 #[va,vb] w fun e w'=>e=.returned (.bool (decide (la=lb)))∧Below w.heap.size w w':=by
 obtain⟨aa,capa,ea,ha2,ha3,ha4,ha5⟩:=id ha
 obtain⟨ab,capb,eb,hb2,hb3,hb4,hb5⟩:=id hb
 have Ha:Hid (Rd w va la):=ha
 have Hb:Hid (Rd w vb lb):=hb
 clear ha hb ha5 hb5
 subst ea eb
 unfold maxLen at ha3 hb3
 have h1:((la.length:Int) !=(lb.length:Int))=false:=by simp;omega
 have HE:Hid (la.length=lb.length):=heq
 clear heq
 go_enter Tryz.func94,Tryz.ntmps94
 go_wp2
 clear h1
 go_loopw [5,14] (fun x i wr=>∃(k:Nat) (s:UInt8),k≤la.length∧i=.int .i64 k∧x=.int .u8 (s.toNat:Int)∧Hid (s=orL ((xorL la lb).take k))∧Below w.heap.size w wr) (fun _ i _=>la.length - (intOf i).toNat)
 case atStart=>exact⟨0,0,Nat.zero_le _,rfl,rfl,rfl,Below.refl _ _⟩
 case round=>
 obtain⟨k,s,hk,rfl,rfl,HS,hB⟩:=hrel
 by_cases hlt:k<la.length
 ·obtain⟨ba,oa,ca,ea,_,hca,_⟩:=(Rd.kept2 Ha hB).cellAt (i:=k) hlt
  obtain⟨bb,ob,cb,eb,_,hcb,_⟩:=(Rd.kept2 Hb hB).cellAt (i:=k) (by have:=HE.out;omega)
  simp only[Value.slice.injEq] at ea eb
  obtain⟨rfl,_,rfl⟩:=ea
  obtain⟨rfl,_,rfl⟩:=eb
  have hX:=xorL_take_succ la lb k hlt (by have:=HE.out;omega)
  have g1:(k:Int)<la.length:=by omega
  have g2:(k:Int)<lb.length:=by have:=HE.out;omega
  generalize la.getD k 0=x at hX hca
  generalize lb.getD k 0=y at hX hcb
  have HX:Hid _:=hX
  have HO:Hid _:=byte_xor x y
  have HP:Hid _:=byte_or s (x^^^y)
  clear hX
  go_wp2
  go_quiet (fail)
  go_wp2
  go_roundw
  case rel=>exact⟨k+1,s ||| (x^^^y),by omega,by go_num,val_int (by rw[HO.out];exact HP.out),by rw[HS.out,HX.out,orL_snoc];rfl,below_drewN hB _⟩
  case measure=>simp[intOf];omega
 ·have HZ:Hid ((((s.toNat:Nat):Int)==0)=decide (s=0)):=nat0_beq s
  have HF:Hid (s=orL (xorL la lb)):=by
  have:(xorL la lb).take k=xorL la lb:=List.take_of_length_le (by rw[xorL_length];have:=HE.out;omega)
  rw[this] at HS;exact HS
  go_wp2
  go_ret
  refine⟨congrArg (fun b=>Ending.returned (.bool b)) (HZ.out.trans ?_),hB⟩
  rw[HF.out]
  exact decide_eq_decide.2 (orL_xorL la lb HE.out)

theorem equal_any (va vb:Value) (la lb:List UInt8) (w:World) (ha:Rd w va la) (hb:Rd w vb lb):
 Calls Tryz.prog 94 #[va,vb] w fun e w'=>e=.returned (.bool (decide (la=lb)))∧Below w.heap.size w w':=by
 by_cases h:la.length=lb.length
 ·exact equal_long va vb la lb w ha hb h
 ·exact equal_short va vb la lb w ha hb h

theorem join_any (v:Value) (vs:List Value) (ls:List (List UInt8)) (w:World) (h:RdL w v vs ls) (ht:totL ls≤1000000000):
 Calls Tryz.prog 43 #[v] w fun e w'=>∃r,e=.returned r∧New 5 w r ls.flatten w':=by
 obtain⟨i,hi,hz0,hz1,hz2⟩:=info_parts info5
 have H:Hid (RdL w v vs ls):=h
 obtain⟨⟨a,cap,ev,h2,h3,h5⟩,h6,h7⟩:=id h
 clear h h5 h7
 subst ev
 unfold maxLen at h3
 have HL:Hid (vs.length=ls.length):=h6
 clear h6
 go_enter Tryz.func43,Tryz.ntmps43
 go_wp2
 go_loop [3,9] (fun x i=>∃(k t:Nat),k≤vs.length∧t≤1000000000∧i=.int .i64 k∧x=.int .i64 (t:Int)∧Hid (t=totL (ls.take k))) (fun _ i=>vs.length - (intOf i).toNat)
 case atStart=>exact⟨0,0,Nat.zero_le _,by omega,rfl,rfl,rfl⟩
 case round=>
 obtain⟨k,t,hk,htb,rfl,rfl,HT⟩:=hrel
 by_cases hlt:k<vs.length
 ·obtain⟨b,off,cap',a',cap2,ev,_,hc,hr⟩:=H.out.cellAt (i:=k) hlt
  simp only[Value.slice.injEq] at ev
  obtain⟨rfl,_,rfl⟩:=ev
  have HS:Hid _:=totL_take_succ ls k (by have:=HL.out;omega)
  have hle:=totL_take_le ls (k+1)
  rw[HS.out] at hle
  have hsum:t+(ls.getD k []).length≤1000000000:=by rw[HT.out];omega
  generalize ls.getD k []=lk at hc hr HS hsum
  clear hle hr
  go_wp2
  go_round
  case rel=>exact⟨k+1,t+lk.length,by omega,by omega,by go_num,by go_num,by rw[HT.out];exact HS.out.symm⟩
  case measure=>simp[intOf];omega
 ·have HF:Hid (t=totL ls):=by
  have:ls.take k=ls:=List.take_of_length_le (by have:=HL.out;omega)
  rw[this] at HT;exact HT
  go_wp2_with (at_make;go_must (refine wpList_make_own _ rfl _ _ 26 rfl w.heap.size 5 i _ 1 Tryz.underlying26 hi hz0 hz1 _ _ _ t rfl rfl rfl (by rw[hz2];omega) (by unfold maxLen;omega) (Nat.le_refl _) ?_))
  intro w1 hown hgr
  have hN1:New 5 w _ [] w1:=⟨hown,(Below.refl _ _).grown hgr (Nat.le_refl _) (by simp)⟩
  clear hown hgr
  go_wp2
  go_loopw [5,24] (fun r i wr=>∃(m:Nat),m≤vs.length∧i=.int .i64 m∧New 5 w r (ls.take m).flatten wr) (fun _ i _=>vs.length - (intOf i).toNat)
  case atStart=>exact⟨0,Nat.zero_le _,rfl,hN1⟩
  case round=>
  obtain⟨m,hm,rfl,hN⟩:=hrel
  by_cases hlm:m<vs.length
  ·obtain⟨b,off,cap',a',cap2,ev,_,hc,hr⟩:=(H.out.kept hN.2).cellAt (i:=m) hlm
   simp only[Value.slice.injEq] at ev
   obtain⟨rfl,_,rfl⟩:=ev
   have HS:Hid _:=flat_take_succ ls m (by have:=HL.out;omega)
   have hle:=totL_take_le ls (m+1)
   rw[totL_take_succ ls m (by have:=HL.out;omega)] at hle
   have hsum:(ls.take m).flatten.length+(ls.getD m []).length≤1000000000:=by unfold totL at hle ht;omega
   generalize ls.getD m []=lk at hc hr HS hsum
   clear hle
   have HSum:Hid ((ls.take m).flatten.length+lk.length≤1000000000):=hsum
   clear hsum
   go_wp2_with (at_builtin;go_must (refine wpList_append_new (w:=w) rfl _ _ 26 rfl 5 Tryz.underlying26 info5 u5 _ rfl hN _ lk rfl hr (by have:=HSum.out;omega) ?_))
   intro v2 w2 hN2 _
   go_wp2
   go_roundw
   case rel=>exact⟨m+1,by omega,by go_num,by rw[HS.out];exact hN2⟩
   case measure=>simp[intOf];omega
  ·have:ls.take m=ls:=List.take_of_length_le (by have:=HL.out;omega)
   rw[this] at hN
   clear this
   go_wp2
   go_ret
   exact⟨_,rfl,hN⟩

theorem equal_bool (va vb:Value) (la lb:List UInt8) (b:Bool) (hab:decide (la=lb)=b) (w:World) (ha:Rd w va la) (hb:Rd w vb lb):
 Calls Tryz.prog 94 #[va,vb] w fun e w'=>e=.returned (.bool b)∧Below w.heap.size w w':=by
 subst hab;exact equal_any va vb la lb w ha hb

theorem exec_head {op:Oper} {a:Act} {W:World} {ab:Option Addr} {L cb m:Nat} (x h:Operand) (ho:op.op=.slice 26 x none (some h) none) (hx:a.eval x=.slice ab L cb) (hh:a.eval h=.int .i64 (m:Int)) (hm:m≤L) (hL:L≤cb) (hc:cb≤maxLen) (hn:ab=none→cb=0):
 (execOp a.eval op).run Tryz.prog W=.ok (.value (.slice ab m cb)) W:=by
 have h1:(m:Int)≤(cb:Int):=by omega
 unfold maxLen at hc
 unfold execOp
 simp only[ho,hx,hh,Option.map]
 cases ab with
 |none=>
 have:=hn rfl
 subst this
 obtain rfl:m=0:=by omega
 obtain rfl:L=0:=by omega
 go_simp
 |some y=>
 go_simp
theorem exec_tail {ab:Option Addr} {L cb m:Nat} (hm:m≤L) (hL:L≤cb) (hc:cb≤maxLen) (hn:ab=none→cb=0):
 ∃ab':Option Addr,(∀{op:Oper} {a:Act} {W:World} (x h:Operand),op.op=.slice 26 x (some h) none none→a.eval x=.slice ab L cb→a.eval h=.int .i64 (m:Int)→(execOp a.eval op).run Tryz.prog W=.ok (.value (.slice ab' (L - m) (cb - m))) W)∧
  ∀(w:World) (b:List UInt8),Rd w (.slice ab L cb) b→Rd w (.slice ab' (L - m) (cb - m)) (b.drop m):=by
 have h1:(m:Int)≤(L:Int):=by omega
 have h2:(L:Int)≤(cb:Int):=by omega
 unfold maxLen at hc
 cases ab with
 |none=>
 have:=hn rfl
 subst this
 obtain rfl:L=0:=by omega
 obtain rfl:m=0:=by omega
 refine⟨none,fun x h ho hx hh=>?_,fun w b hb=>hb⟩
 unfold execOp
 simp only[ho,hx,hh,Option.map]
 go_simp
 |some y=>
 by_cases hcm:cb=m
 ·refine⟨some y,fun x h ho hx hh=>?_,fun w b hb=>?_⟩
  ·unfold execOp
  simp only[ho,hx,hh,Option.map]
  go_simp
  ·obtain⟨a',c',ev,h3,h4,h5,h6⟩:=hb
  simp only[Value.slice.injEq] at ev
  obtain⟨rfl,hLb,rfl⟩:=ev
  have h0:b.drop m=[]:=List.drop_eq_nil_of_le (by omega)
  rw[h0,show L - m=0 by omega,hcm,Nat.sub_self]
  exact⟨_,0,rfl,by simp,by simp,fun _=>rfl,.inl rfl⟩
 ·refine⟨some (y.add m),fun x h ho hx hh=>?_,fun w b hb=>?_⟩
  ·unfold execOp
  simp only[ho,hx,hh,Option.map]
  go_simp
  ·obtain⟨a',c',ev,h3,h4,h5,h6⟩:=hb
  simp only[Value.slice.injEq] at ev
  obtain⟨rfl,hLb,rfl⟩:=ev
  refine⟨_,_,(by rw[List.length_drop,←hLb]),(by rw[List.length_drop];omega),(by unfold maxLen;omega),(fun h=>by cases h),?_⟩
  rcases h6 with rfl|⟨g,off,e,hcell⟩
  ·exact .inl (by simp)
  ·simp only[Option.some.injEq] at e
   subst e
   refine .inr ⟨g,off+m,by unfold Addr.add;split<;>simp_all,fun i hi=>?_⟩
   rw[List.length_drop] at hi
   rw[Nat.add_assoc,hcell (m+i) (by omega)]
   simp
theorem wpList_val {P:Program} {ops:Array Oper} {rest:List Oper} {op:Oper} {a:Act} {w:World} {Q:Exit→Act→World→Prop} (hgd:op.guard=none) {v:Value} (hy:(execOp a.eval op).run P w=.ok (.value v) w)
 (h:wpList P ops Q rest (a.put op.dst v) w):wpList P ops Q (op :: rest) a w:=by
 refine wpList_plain hgd fun K hK=>?_
 unfold Oper.wp
 rw[hy]
 exact hK _ _ h

end Go.Proofs.YtpgjobpmafbigaaGreatDoor

namespace Go.Proofs.YtpgjobpmafbigaaGreatDoor
set_option linter.unusedSimpArgs false
set_option linter.unusedVariables false

def piF (f:Nat→Nat) (i:Nat):Nat:=f ((i % 5+3 * (i / 5)) % 5+5 * (i % 5))
def chB (f:Nat→Nat) (x y z:Nat):Bool:=decide ((bitN f x y z+if bitN f ((x+1) % 5) y z=0∧bitN f ((x+2) % 5) y z=1 then 1 else 0) % 2=1)
def chF (f:Nat→Nat) (i:Nat):Nat:=ofB (chB f (i % 5) (i / 5)) 64
def rhPos (t:Nat):Nat:=(rhXY t).1+5 * (rhXY t).2
def rhBy (t:Nat):Nat:=(t+1) * (t+2) / 2 % 64
def rhTau (i:Nat):Nat:=(List.range 24).findIdx fun t=>rhPos t==i
def rhG (f:Nat→Nat) (t z p:Nat):Bool:=decide ((p+64 - rhBy t) % 64<z)&&decide (bitN f (rhXY t).1 (rhXY t).2 ((p+64 - rhBy t) % 64)=1)
def rhF (f:Nat→Nat) (i:Nat):Nat:=if i=0 then f 0 else ofB (rhG f (rhTau i) 64) 64
theorem rhBy_lt (t:Nat):rhBy t<64:=Nat.mod_lt _ (by decide)
def rcB (t:Nat):Bool:=decide ((rcS (t % 255)).getD 0 0=1)
def ioT (i J p:Nat):Bool:=(List.range J).any fun j=>decide (p=2 ^ j - 1)&&rcB (j+7 * i)
def ioG (x i J p:Nat):Bool:=Bool.xor (decide (x / 2 ^ p % 2=1)) (ioT i J p)
def ioL (x i J:Nat):Nat:=ofB (ioG x i J) 64
def ioF (f:Nat→Nat) (i k:Nat):Nat:=if k=0 then ioL (f 0) i 7 else f k
theorem ioL_lt (x i J:Nat):ioL x i J<18446744073709551616:=ofB_64 _ _ (Nat.le_refl _)
theorem thF_lt (f:Nat→Nat) (i:Nat):thF f i<18446744073709551616:=ofB_64 _ _ (Nat.le_refl _)
theorem chF_lt (f:Nat→Nat) (i:Nat):chF f i<18446744073709551616:=ofB_64 _ _ (Nat.le_refl _)
theorem piF_lt (f:Nat→Nat) (hf:∀i,f i<18446744073709551616) (i:Nat):piF f i<18446744073709551616:=hf _
theorem ioF_lt (f:Nat→Nat) (hf:∀i,f i<18446744073709551616) (j i:Nat):ioF f j i<18446744073709551616:=by
 unfold ioF
 split
 ·exact ioL_lt _ _ _
 ·exact hf i
def rdF (f:Nat→Nat) (i:Nat):Nat→Nat:=ioF (chF (piF (rhF (thF f)))) i
theorem rdF_lt (f:Nat→Nat) (j i:Nat):rdF f j i<18446744073709551616:=ioF_lt _ (chF_lt _) _ _
def rdsF (f:Nat→Nat):Nat→Nat→Nat
 |0=>f
 |n+1=>rdF (rdsF f n) n
theorem rdsF_lt (f:Nat→Nat) (hf:∀i,f i<18446744073709551616):∀n i,rdsF f n i<18446744073709551616
 |0,i=>hf i
 |n+1,i=>rdF_lt _ _ _
def allB (p:Nat→Bool):Nat→Bool
 |0=>true
 |n+1=>p n&&allB p n
theorem allB_at {p:Nat→Bool}:∀{n:Nat},allB p n=true→∀i,i<n→p i=true
 |0,_,i,h=>by omega
 |n+1,h,i,hi=>by
 simp only[allB,Bool.and_eq_true] at h
 rcases Nat.lt_or_ge i n with h1|h1
 ·exact allB_at h.2 i h1
 ·have:i=n:=by omega
  subst this
  exact h.1
theorem twZ_lt (d:Nat) (y:Int):twZ d y<2 ^ d:=by
 have h:(0:Int)<((2 ^ d:Nat):Int):=by exact_mod_cast Nat.pow_pos (by decide)
 unfold twZ
 have:=Int.emod_lt_of_pos y h
 have:=Int.emod_nonneg y (by omega:((2 ^ d:Nat):Int)≠0)
 omega
theorem and_low (d:Nat) (hd:d≤62) (y:Int) (hy: -9223372036854775808≤y∧y≤9223372036854775807):bits .and .i64 y (((2 ^ d - 1:Nat)):Int)=((twZ d y:Nat):Int):=by
 have hp:2 ^ d≤2 ^ 62:=Nat.pow_le_pow_right (by decide) hd
 have hp1:1≤2 ^ d:=Nat.pow_pos (by decide)
 have hp2:(2:Nat) ^ 62=4611686018427387904:=by decide
 have e1:(BitVec.ofInt 64 (((2 ^ d - 1:Nat)):Int)).toNat=2 ^ d - 1:=ofInt_u64 _ (by omega)
 have e2:(BitVec.ofInt 64 y &&& BitVec.ofInt 64 (((2 ^ d - 1:Nat)):Int)).toNat=twZ d y:=by
 rw[BitVec.toNat_and,e1,Nat.and_two_pow_sub_one_eq_mod,BitVec.toNat_ofInt]
 unfold twZ
 have hdv:((2 ^ d:Nat):Int) ∣ ((2 ^ 64:Nat):Int):=by
  refine Int.natCast_dvd_natCast.2 ⟨2 ^ (64 - d),?_⟩
  rw[←Nat.pow_add]
  congr 1
  omega
 have h3:(y % ((2 ^ 64:Nat):Int)) % ((2 ^ d:Nat):Int)=y % ((2 ^ d:Nat):Int):=Int.emod_emod_of_dvd y hdv
 have h4:0≤y % ((2 ^ 64:Nat):Int):=Int.emod_nonneg y (by decide)
 rw[←h3]
 obtain⟨q,hq⟩:=Int.eq_ofNat_of_zero_le h4
 rw[hq]
 simp only[Int.toNat_natCast]
 rw[←Int.natCast_emod,Int.toNat_natCast]
 have h5:=twZ_lt d y
 show IntKind.i64.wrap ((BitVec.ofInt 64 y &&& BitVec.ofInt 64 (((2 ^ d - 1:Nat)):Int)).toNat:Int)=_
 rw[e2]
 exact IntWalk.i64_in _ (by constructor<;>omega)
theorem rs_add (a b:Int):rsZ (a+b)=(rsZ a+rsZ b) % 3329:=by unfold rsZ;omega
theorem rs_sub (a b:Int):rsZ (a - b)=(rsZ a+3329 - rsZ b) % 3329:=by unfold rsZ;omega
theorem rs_mul (a b:Int):rsZ (a * b)=rsZ a * rsZ b % 3329:=by
 have h:((rsZ (a * b):Nat):Int)=((rsZ a * rsZ b % 3329:Nat):Int):=by
 rw[rsZ_int,Int.natCast_emod,Int.natCast_mul,rsZ_int,rsZ_int]
 exact Int.mul_emod a b 3329
 exact_mod_cast h
end Go.Proofs.YtpgjobpmafbigaaGreatDoor

namespace Go.Proofs.YtpgjobpmafbigaaGreatDoor
open Go.ChangeShapes Go.WideShapes Go.ChangeAt Go.RowKit
set_option linter.unusedSimpArgs false
set_option linter.unusedVariables false

theorem zlifted_any (x:Int) (h1: -3329≤x) (h2:x<3329) (w:World):
 Calls Tryz.prog 333 #[.int .i64 x] w fun e w'=>e=.returned (.int .i64 ((rsZ x:Nat):Int))∧w'=w:=by
 rw[rsZ_int]
 have a0:=and_none
 have a1:=and_all
 by_cases h0:x<0
 ·have e1:x / 9223372036854775808= -1:=by omega
 have e2:x / 2 ^ 63= -1:=by omega
 have HE:Hid (x+3329=x % 3329):=by show _=_;omega
 go_enter Tryz.func333,Tryz.ntmps333
 go_wp2
 go_ret
 exact⟨retZ HE.out,rfl⟩
 ·have e1:x / 9223372036854775808=0:=by omega
 have e2:x / 2 ^ 63=0:=by omega
 have HE:Hid (x=x % 3329):=by show _=_;omega
 go_enter Tryz.func333,Tryz.ntmps333
 go_wp2
 go_ret
 exact⟨retZ (by have:=HE.out;omega),rfl⟩

theorem tmod_rest (x:Int):∃r:Int,x.tmod 3329=r∧ -3329<r∧r<3329∧rsZ r=rsZ x:=by
 refine⟨_,rfl,?_⟩
 unfold rsZ
 by_cases h:0≤x
 ·rw[Int.tmod_eq_emod_of_nonneg h]
 omega
 ·obtain⟨y,rfl⟩:∃y,x= -y:=⟨-x,by omega⟩
 rw[Int.neg_tmod,Int.tmod_eq_emod_of_nonneg (by omega)]
 omega
theorem zmod_any (x:Int) (hx:In64 x) (w:World):
 Calls Tryz.prog 274 #[.int .i64 x] w fun e w'=>e=.returned (.int .i64 ((rsZ x:Nat):Int))∧w'=w:=by
 obtain⟨r,hr,h1,h2,h3⟩:=tmod_rest x
 rw[←h3]
 have H3:Hid _:=h3
 clear h3
 go_enter Tryz.func274,Tryz.ntmps274
 go_wp2_with fail
 refine(zlifted_any r (by omega) h2 _).mono ?_
 rintro e w1 ⟨rfl,rfl⟩
 go_wp2
 go_ret
 exact⟨rfl,rfl⟩

theorem zadd_any (a b:Int) (ha:In64 a) (hb:In64 b) (w:World):
 Calls Tryz.prog 326 #[.int .i64 a,.int .i64 b] w fun e w'=>e=.returned (.int .i64 ((rsZ (a+b):Nat):Int))∧w'=w:=by
 have HF:Hid (rsZ (a+b)=rsZ (((rsZ a:Nat):Int)+((rsZ b:Nat):Int) - 3329)):=by
 show _=_
 rw[rsZ_int,rsZ_int]
 unfold rsZ
 omega
 have h1:=rsZ_lt a
 have h2:=rsZ_lt b
 go_enter Tryz.func326,Tryz.ntmps326
 go_wp2_with fail
 refine(zmod_any a ha _).mono ?_
 rintro e w1 ⟨rfl,rfl⟩
 go_wp2_with fail
 refine(zmod_any b hb _).mono ?_
 rintro e w2 ⟨rfl,rfl⟩
 generalize rsZ a=p at h1 HF ⊢
 generalize rsZ b=q at h2 HF ⊢
 go_wp2_with fail
 refine(zlifted_any _ (by omega) (by omega) _).mono ?_
 rintro e w3 ⟨rfl,rfl⟩
 go_wp2
 go_ret
 exact⟨retZ (by rw[HF.out]),rfl⟩

theorem zsub_any (a b:Int) (ha:In64 a) (hb:In64 b) (w:World):
 Calls Tryz.prog 281 #[.int .i64 a,.int .i64 b] w fun e w'=>e=.returned (.int .i64 ((rsZ (a - b):Nat):Int))∧w'=w:=by
 have HF:Hid (rsZ (a - b)=rsZ (((rsZ a:Nat):Int) - ((rsZ b:Nat):Int))):=by
 show _=_
 rw[rsZ_int,rsZ_int]
 unfold rsZ
 omega
 have h1:=rsZ_lt a
 have h2:=rsZ_lt b
 go_enter Tryz.func281,Tryz.ntmps281
 go_wp2_with fail
 refine(zmod_any a ha _).mono ?_
 rintro e w1 ⟨rfl,rfl⟩
 go_wp2_with fail
 refine(zmod_any b hb _).mono ?_
 rintro e w2 ⟨rfl,rfl⟩
 generalize rsZ a=p at h1 HF ⊢
 generalize rsZ b=q at h2 HF ⊢
 go_wp2_with fail
 refine(zlifted_any _ (by omega) (by omega) _).mono ?_
 rintro e w3 ⟨rfl,rfl⟩
 go_wp2
 go_ret
 exact⟨retZ (by rw[HF.out]),rfl⟩

theorem zmul_any (a b:Int) (ha:In64 a) (hb:In64 b) (w:World):
 Calls Tryz.prog 285 #[.int .i64 a,.int .i64 b] w fun e w'=>e=.returned (.int .i64 ((rsZ (a * b):Nat):Int))∧w'=w:=by
 have HF:Hid (rsZ (a * b)=rsZ ((rsZ a * rsZ b:Nat):Int)):=by
 show _=_
 rw[rs_mul,rsZ_nat]
 have h1:=rsZ_lt a
 have h2:=rsZ_lt b
 go_enter Tryz.func285,Tryz.ntmps285
 go_wp2_with fail
 refine(zmod_any a ha _).mono ?_
 rintro e w1 ⟨rfl,rfl⟩
 go_wp2_with fail
 refine(zmod_any b hb _).mono ?_
 rintro e w2 ⟨rfl,rfl⟩
 generalize rsZ a=p at h1 HF ⊢
 generalize rsZ b=q at h2 HF ⊢
 obtain⟨y,hy⟩:∃y:Nat,y=p * q:=⟨_,rfl⟩
 have hyb:y≤3329 * 3329:=by rw[hy];exact Nat.mul_le_mul (by omega) (by omega)
 have e1:(p:Int) * (q:Int)=(y:Int):=by rw[hy,Int.natCast_mul]
 rw[←hy] at HF
 clear hy
 go_wp2_with fail
 refine(zmod_any (y:Int) ⟨by omega,by omega⟩ _).mono ?_
 rintro e w3 ⟨rfl,rfl⟩
 go_wp2
 go_ret
 exact⟨retZ (by rw[HF.out]),rfl⟩
end Go.Proofs.YtpgjobpmafbigaaGreatDoor

namespace Go.Proofs.YtpgjobpmafbigaaGreatDoor
set_option linter.unusedSimpArgs false
set_option linter.unusedVariables false

def bt (x z:Nat):Nat:=x / 2 ^ z % 2
theorem bt_lt (x z:Nat):bt x z<2:=Nat.mod_lt _ (by decide)
theorem bt_test (x z:Nat):x.testBit z=decide (bt x z=1):=Nat.testBit_eq_decide_div_mod_eq
theorem bt_of (x z:Nat):bt x z=(x.testBit z).toNat:=by
 rw[bt_test]
 have:=bt_lt x z
 have h:bt x z=0∨bt x z=1:=by omega
 rcases h with h|h<;>simp[h]
theorem bitN_bt (f:Nat→Nat) (x y z:Nat):bitN f x y z=bt (f (x+5 * y)) z:=rfl
theorem bt_xor (x y z:Nat):bt (x^^^y) z=(bt x z+bt y z) % 2:=by
 simp only[bt_of,Nat.testBit_xor]
 cases x.testBit z<;>cases y.testBit z<;>rfl
theorem bt_and (x y z:Nat):bt (x &&& y) z=bt x z * bt y z:=by
 simp only[bt_of,Nat.testBit_and]
 cases x.testBit z<;>cases y.testBit z<;>rfl
theorem ext64 {x y:Nat} (hx:x<18446744073709551616) (hy:y<18446744073709551616) (h:∀z,z<64→bt x z=bt y z):x=y:=lanes_ext hx hy h
theorem xor_lt64 {x y:Nat} (hx:x<18446744073709551616) (hy:y<18446744073709551616):x^^^y<18446744073709551616:=by
 have h64:(2:Nat) ^ 64=18446744073709551616:=by decide
 rw[←h64] at *
 exact Nat.xor_lt_two_pow hx hy

def rotN (x n:Nat):Nat:=x * 2 ^ n % 18446744073709551616+x / 2 ^ (64 - n)
theorem rotN_bit (x n z:Nat) (hx:x<18446744073709551616) (hn:n<64) (hn0:0<n) (hz:z<64):bt (rotN x n) z=bt x ((z+64 - n) % 64):=by
 have h64:(18446744073709551616:Nat)=2 ^ n * 2 ^ (64 - n):=by rw[←Nat.pow_add,show n+(64 - n)=64 by omega]
 have hB:x / 2 ^ (64 - n)<2 ^ n:=by
 refine Nat.div_lt_of_lt_mul ?_
 rw[Nat.mul_comm,←h64]
 exact hx
 have e1:rotN x n=2 ^ n * (x % 2 ^ (64 - n))+x / 2 ^ (64 - n):=by
 unfold rotN
 rw[h64,Nat.mul_comm x,Nat.mul_mod_mul_left]
 rw[e1]
 by_cases h:z<n
 ·have hz2:(z+64 - n) % 64=64 - n+z:=by omega
 rw[hz2]
 unfold bt
 obtain⟨d,hd⟩:∃d,n=z+(d+1):=⟨n - z - 1,by omega⟩
 have e2:2 ^ n * (x % 2 ^ (64 - n))=2 ^ z * (2 * (2 ^ d * (x % 2 ^ (64 - n)))):=by
  rw[hd,Nat.pow_add,Nat.pow_succ]
  ac_rfl
 rw[e2,Nat.add_comm,Nat.add_mul_div_left _ _ (Nat.pow_pos (by decide)),Nat.add_mul_mod_self_left,Nat.div_div_eq_div_mul,←Nat.pow_add]
 ·have hz2:(z+64 - n) % 64=z - n:=by omega
 rw[hz2]
 have e3:(2 ^ n * (x % 2 ^ (64 - n))+x / 2 ^ (64 - n)) / 2 ^ z=x % 2 ^ (64 - n) / 2 ^ (z - n):=by
  obtain⟨d,hd⟩:∃d,z=n+d:=⟨z - n,by omega⟩
  rw[hd,Nat.pow_add,←Nat.div_div_eq_div_mul,Nat.mul_add_div (Nat.pow_pos (by decide)),Nat.div_eq_of_lt hB,Nat.add_zero,Nat.add_sub_cancel_left]
 have e4:bt (x % 2 ^ (64 - n)) (z - n)=bt x (z - n):=by
  rw[bt_of,bt_of,Nat.testBit_mod_two_pow]
  simp[show z - n<64 - n by omega]
 unfold bt at e4 ⊢
 rw[e3]
 exact e4
theorem rotN_lt (x n:Nat) (hx:x<18446744073709551616) (hn:n<64):rotN x n<18446744073709551616:=by
 have h64:(18446744073709551616:Nat)=2 ^ n * 2 ^ (64 - n):=by rw[←Nat.pow_add,show n+(64 - n)=64 by omega]
 have hB:x / 2 ^ (64 - n)<2 ^ n:=by
 refine Nat.div_lt_of_lt_mul ?_
 rw[Nat.mul_comm,←h64]
 exact hx
 have e1:rotN x n=2 ^ n * (x % 2 ^ (64 - n))+x / 2 ^ (64 - n):=by
 unfold rotN
 rw[h64,Nat.mul_comm x,Nat.mul_mod_mul_left]
 have h2:x % 2 ^ (64 - n)+1≤2 ^ (64 - n):=Nat.mod_lt _ (Nat.pow_pos (by decide))
 have h3:=Nat.mul_le_mul_left (2 ^ n) h2
 rw[←h64,Nat.mul_add] at h3
 omega
def turnN (x n:Nat):Nat:=if n=0 then x else rotN x n
theorem turnN_bit (x n z:Nat) (hx:x<18446744073709551616) (hn:n<64) (hz:z<64):bt (turnN x n) z=bt x ((z+64 - n) % 64):=by
 unfold turnN
 split
 ·rename_i h;subst h;rw[show(z+64 - 0) % 64=z by omega]
 ·exact rotN_bit x n z hx hn (by omega) hz
theorem turnN_lt (x n:Nat) (hx:x<18446744073709551616) (hn:n<64):turnN x n<18446744073709551616:=by
 unfold turnN
 split
 ·exact hx
 ·exact rotN_lt x n hx hn

def colN (f:Nat→Nat) (x:Nat):Nat:=f x^^^f (x+5)^^^f (x+10)^^^f (x+15)^^^f (x+20)
def thL (f:Nat→Nat) (k:Nat):Nat:=f k^^^colN f ((k % 5+4) % 5)^^^turnN (colN f ((k % 5+1) % 5)) 1
theorem colN_lt (f:Nat→Nat) (hf:∀i,f i<18446744073709551616) (x:Nat):colN f x<18446744073709551616:=
 xor_lt64 (xor_lt64 (xor_lt64 (xor_lt64 (hf _) (hf _)) (hf _)) (hf _)) (hf _)
theorem colN_bit (f:Nat→Nat) (x z:Nat):bt (colN f x) z=(bitN f x 0 z+bitN f x 1 z+bitN f x 2 z+bitN f x 3 z+bitN f x 4 z) % 2:=by
 unfold colN
 simp only[bt_xor,bitN_bt]
 simp only[Nat.mul_zero,Nat.add_zero,Nat.mul_one,show 5 * 2=10 from rfl,show 5 * 3=15 from rfl,show 5 * 4=20 from rfl]
 omega
theorem thL_lt (f:Nat→Nat) (hf:∀i,f i<18446744073709551616) (k:Nat):thL f k<18446744073709551616:=
 xor_lt64 (xor_lt64 (hf _) (colN_lt f hf _)) (turnN_lt _ _ (colN_lt f hf _) (by decide))
theorem ofB_bt (g:Nat→Bool) (z:Nat) (hz:z<64):bt (ofB g 64) z=if g z then 1 else 0:=ofB_bit g 64 z hz
theorem if_odd (n:Nat) (b:Bool) (h:b=decide (n % 2=1)):(if b then 1 else 0)=n % 2:=by
 subst h
 have:=Nat.mod_two_eq_zero_or_one n
 rcases this with h|h<;>simp[h]
theorem thL_eq (f:Nat→Nat) (hf:∀i,f i<18446744073709551616) (k:Nat) (hk:k<25):thL f k=thF f k:=by
 refine ext64 (thL_lt f hf k) (thF_lt f k) fun z hz=>?_
 unfold thL thF
 rw[bt_xor,bt_xor,turnN_bit _ _ _ (colN_lt f hf _) (by decide) hz,colN_bit,colN_bit,ofB_bt _ _ hz,if_odd (thN f (k % 5) z 5+bitN f (k % 5) (k / 5) z) (thB f (k % 5) (k / 5) z) rfl]
 simp only[thN]
 have e:k % 5+5 * (k / 5)=k:=by omega
 rw[show bt (f k) z=bitN f (k % 5) (k / 5) z from by rw[bitN_bt,e]]
 rw[show(z+64 - 1) % 64=(z+63) % 64 by omega]
 omega

def rhL (f:Nat→Nat) (i:Nat):Nat:=if i=0 then f 0 else turnN (f i) (rhBy (rhTau i))
theorem rhL_lt (f:Nat→Nat) (hf:∀i,f i<18446744073709551616) (k:Nat):rhL f k<18446744073709551616:=by
 unfold rhL
 split
 ·exact hf 0
 ·exact turnN_lt _ _ (hf _) (rhBy_lt _)
theorem rhL_eq (f:Nat→Nat) (hf:∀i,f i<18446744073709551616) (k:Nat) (hk:k<25):rhL f k=rhF f k:=by
 unfold rhL rhF
 split
 ·rfl
 ·rename_i h0
 refine ext64 (turnN_lt _ _ (hf _) (rhBy_lt _)) (ofB_64 _ _ (Nat.le_refl _)) fun z hz=>?_
 obtain⟨h1,h2⟩:=rhPos_tau k hk h0
 rw[turnN_bit _ _ _ (hf _) (rhBy_lt _) hz,ofB_bt _ _ hz]
 unfold rhG
 rw[bitN_bt,show(rhXY (rhTau k)).1+5 * (rhXY (rhTau k)).2=k from h2]
 have hlt:(z+64 - rhBy (rhTau k)) % 64<64:=Nat.mod_lt _ (by decide)
 have hb:=bt_lt (f k) ((z+64 - rhBy (rhTau k)) % 64)
 have hc:bt (f k) ((z+64 - rhBy (rhTau k)) % 64)=0∨bt (f k) ((z+64 - rhBy (rhTau k)) % 64)=1:=by omega
 rcases hc with hc|hc<;>simp[hlt,hc]

theorem sub_and (x y:Nat):x - (x &&& y)=x^^^(x &&& y):=by
 have h:(x^^^(x &&& y))+(x &&& y)=x:=by
 have hle:x<2 ^ (x+1):=Nat.lt_of_lt_of_le Nat.lt_two_pow_self (Nat.pow_le_pow_right (by decide) (by omega))
 have ha:x &&& y<2 ^ (x+1):=Nat.lt_of_le_of_lt Nat.and_le_left hle
 have hx:x^^^(x &&& y)<2 ^ (x+1):=Nat.xor_lt_two_pow hle ha
 have e0:BitVec.ofNat (x+1) (x^^^(x &&& y)) &&& BitVec.ofNat (x+1) (x &&& y)=0#(x+1):=by
  apply BitVec.eq_of_getLsbD_eq
  intro i hi
  simp only[BitVec.getLsbD_and,BitVec.getLsbD_ofNat,Nat.testBit_xor,Nat.testBit_and,BitVec.getLsbD_zero]
  cases x.testBit i<;>cases y.testBit i<;>simp
 have e1:=BitVec.add_eq_or_of_and_eq_zero _ _ e0
 have e2:=congrArg BitVec.toNat e1
 rw[BitVec.toNat_add,BitVec.toNat_or,BitVec.toNat_ofNat,BitVec.toNat_ofNat,Nat.mod_eq_of_lt hx,Nat.mod_eq_of_lt ha] at e2
 have e3:(x^^^(x &&& y)) ||| (x &&& y)=x:=by
  apply Nat.eq_of_testBit_eq
  intro i
  simp only[Nat.testBit_or,Nat.testBit_xor,Nat.testBit_and]
  cases x.testBit i<;>cases y.testBit i<;>rfl
 rw[e3] at e2
 have hx2:(x^^^(x &&& y))≤x:=by
  have:=Nat.mod_le ((x^^^(x &&& y))+(x &&& y)) (2 ^ (x+1))
  have h1:(x^^^(x &&& y)) ||| (x &&& y)=x:=e3
  have h2:(x^^^(x &&& y))≤(x^^^(x &&& y)) ||| (x &&& y):=Nat.left_le_or
  omega
 have hsum:(x^^^(x &&& y))+(x &&& y)<2 ^ (x+1):=by
  have h1:x &&& y≤x:=Nat.and_le_left
  have h2:2 * x<2 ^ (x+1):=by rw[Nat.pow_succ];have:= @Nat.lt_two_pow_self x;omega
  omega
 rwa [Nat.mod_eq_of_lt hsum] at e2
 omega
def chL (f:Nat→Nat) (k:Nat):Nat:=f k^^^(f (k - k % 5+(k % 5+2) % 5) - (f (k - k % 5+(k % 5+2) % 5) &&& f (k - k % 5+(k % 5+1) % 5)))
theorem chL_lt (f:Nat→Nat) (hf:∀i,f i<18446744073709551616) (k:Nat):chL f k<18446744073709551616:=
 xor_lt64 (hf _) (Nat.lt_of_le_of_lt (Nat.sub_le _ _) (hf _))
theorem chL_eq (f:Nat→Nat) (hf:∀i,f i<18446744073709551616) (k:Nat) (hk:k<25):chL f k=chF f k:=by
 refine ext64 (chL_lt f hf k) (chF_lt f k) fun z hz=>?_
 unfold chL chF
 rw[bt_xor,sub_and,bt_xor,bt_and,ofB_bt _ _ hz]
 unfold chB
 have e0:k % 5+5 * (k / 5)=k:=by omega
 have e1:k - k % 5+(k % 5+1) % 5=(k % 5+1) % 5+5 * (k / 5):=by omega
 have e2:k - k % 5+(k % 5+2) % 5=(k % 5+2) % 5+5 * (k / 5):=by omega
 rw[e1,e2,bitN_bt,bitN_bt,bitN_bt,e0]
 have h0:=bt_lt (f k) z
 have h1:=bt_lt (f ((k % 5+1) % 5+5 * (k / 5))) z
 have h2:=bt_lt (f ((k % 5+2) % 5+5 * (k / 5))) z
 generalize bt (f k) z=a at *
 generalize bt (f ((k % 5+1) % 5+5 * (k / 5))) z=b at *
 generalize bt (f ((k % 5+2) % 5+5 * (k / 5))) z=c at *
 have ha:a=0∨a=1:=by omega
 have hb:b=0∨b=1:=by omega
 have hc:c=0∨c=1:=by omega
 rcases ha with rfl|rfl<;>rcases hb with rfl|rfl<;>rcases hc with rfl|rfl<;>decide
theorem kst_lt:∀i,i<24→kst.getD i 0<18446744073709551616:=by decide
theorem ioL_xor (x i:Nat) (hx:x<18446744073709551616) (hi:i<24):ioL x i 7=x^^^kst.getD i 0:=by
 rw[←kst_eq i hi]
 refine ext64 (ioL_lt _ _ _) (xor_lt64 hx (ofB_64 _ _ (Nat.le_refl _))) fun z hz=>?_
 unfold ioL
 rw[bt_xor,ofB_bt _ _ hz,ofB_bt _ _ hz]
 unfold ioG
 have hb:=bt_lt x z
 have hc:bt x z=0∨bt x z=1:=by omega
 rw[show x / 2 ^ z % 2=bt x z from rfl]
 rcases hc with hc|hc<;>cases ioT i 7 z<;>simp[hc]

theorem bitN_congr {f g:Nat→Nat} (h:∀i,i<25→f i=g i) (x y z:Nat) (hx:x<5) (hy:y<5):bitN f x y z=bitN g x y z:=by
 unfold bitN
 rw[h _ (by omega)]
theorem thN_congr {f g:Nat→Nat} (h:∀i,i<25→f i=g i) (x z:Nat):∀Y,Y≤5→thN f x z Y=thN g x z Y
 |0,_=>rfl
 |Y+1,hY=>by
 unfold thN
 rw[thN_congr h x z Y (by omega),bitN_congr h _ Y z (by omega) (by omega),bitN_congr h _ Y _ (by omega) (by omega)]
theorem thF_congr {f g:Nat→Nat} (h:∀i,i<25→f i=g i) (k:Nat) (hk:k<25):thF f k=thF g k:=by
 unfold thF
 refine ofB_congr 64 fun z hz=>?_
 unfold thB
 rw[thN_congr h _ z 5 (Nat.le_refl _),bitN_congr h _ _ z (by omega) (by omega)]
theorem rhF_congr {f g:Nat→Nat} (h:∀i,i<25→f i=g i) (k:Nat) (hk:k<25):rhF f k=rhF g k:=by
 unfold rhF
 split
 ·exact h 0 (by omega)
 ·rename_i h0
 refine ofB_congr 64 fun z hz=>?_
 unfold rhG
 have hxy:=rhXY_lt (rhTau k) (by have:=(rhPos_tau k hk h0).1;omega)
 rw[bitN_congr h _ _ _ hxy.1 hxy.2]
theorem piF_congr {f g:Nat→Nat} (h:∀i,i<25→f i=g i) (k:Nat) (hk:k<25):piF f k=piF g k:=h _ (by omega)
theorem chF_congr {f g:Nat→Nat} (h:∀i,i<25→f i=g i) (k:Nat) (hk:k<25):chF f k=chF g k:=by
 unfold chF
 refine ofB_congr 64 fun z hz=>?_
 unfold chB
 rw[bitN_congr h _ _ z (by omega) (by omega),bitN_congr h ((k % 5+1) % 5) _ z (by omega) (by omega),bitN_congr h ((k % 5+2) % 5) _ z (by omega) (by omega)]
theorem ioF_congr {f g:Nat→Nat} (h:∀i,i<25→f i=g i) (i k:Nat) (hk:k<25):ioF f i k=ioF g i k:=by
 unfold ioF
 split
 ·rw[h 0 (by omega)]
 ·exact h k hk
theorem rdF_congr {f g:Nat→Nat} (h:∀i,i<25→f i=g i) (i k:Nat) (hk:k<25):rdF f i k=rdF g i k:=
 ioF_congr (fun _ h4=>chF_congr (fun _ h3=>piF_congr (fun _ h2=>rhF_congr (fun _ h1=>thF_congr h _ h1) _ h2) _ h3) _ h4) i k hk
theorem rdsF_congr {f g:Nat→Nat} (h:∀i,i<25→f i=g i):∀n k,k<25→rdsF f n k=rdsF g n k
 |0,k,hk=>h k hk
 |n+1,k,hk=>rdF_congr (rdsF_congr h n) n k hk

def ioK (f:Nat→Nat) (i k:Nat):Nat:=if k=0 then f 0^^^kst.getD i 0 else f k
def rdL (f:Nat→Nat) (i:Nat):Nat→Nat:=ioK (chL (piF (rhL (thL f)))) i
theorem rdL_eq (f:Nat→Nat) (hf:∀i,f i<18446744073709551616) (i:Nat) (hi:i<24) (k:Nat) (hk:k<25):rdL f i k=rdF f i k:=by
 have h1:∀j,j<25→thL f j=thF f j:=fun j hj=>thL_eq f hf j hj
 have h2:∀j,j<25→rhL (thL f) j=rhF (thF f) j:=fun j hj=>(rhL_eq _ (thL_lt f hf) j hj).trans (rhF_congr h1 j hj)
 have h3:∀j,j<25→piF (rhL (thL f)) j=piF (rhF (thF f)) j:=fun j hj=>piF_congr h2 j hj
 have h4:∀j,j<25→chL (piF (rhL (thL f))) j=chF (piF (rhF (thF f))) j:=fun j hj=>
 (chL_eq _ (piF_lt _ (rhL_lt _ (thL_lt f hf))) j hj).trans (chF_congr h3 j hj)
 unfold rdL rdF ioK ioF
 by_cases e:k=0
 ·rw[if_pos e,if_pos e,ioL_xor _ _ (chF_lt _ _) hi,h4 0 (by omega)]
 ·rw[if_neg e,if_neg e,h4 k hk]
theorem rdL_lt (f:Nat→Nat) (hf:∀i,f i<18446744073709551616) (i:Nat) (hi:i<24) (k:Nat):rdL f i k<18446744073709551616:=by
 unfold rdL ioK
 have h:=chL_lt _ (piF_lt _ (rhL_lt _ (thL_lt f hf)))
 split
 ·exact xor_lt64 (h 0) (kst_lt i hi)
 ·exact h k
def rdsL (f:Nat→Nat):Nat→Nat→Nat
 |0=>f
 |n+1=>rdL (rdsL f n) n
theorem rdsL_lt (f:Nat→Nat) (hf:∀i,f i<18446744073709551616):∀n,n≤24→∀k,rdsL f n k<18446744073709551616
 |0,_,k=>hf k
 |n+1,hn,k=>rdL_lt _ (rdsL_lt f hf n (by omega)) n (by omega) k
theorem rdsL_eq (f:Nat→Nat) (hf:∀i,f i<18446744073709551616):∀n,n≤24→∀k,k<25→rdsL f n k=rdsF f n k
 |0,_,_,_=>rfl
 |n+1,hn,k,hk=>(rdL_eq _ (rdsL_lt f hf n (by omega)) n (by omega) k hk).trans (rdF_congr (rdsL_eq f hf n (by omega)) n k hk)
def upQ (f g:Nat→Nat) (K i:Nat):Nat:=if i<K then g i else f i
theorem upQ_zero (f g:Nat→Nat):stL f=stL (upQ f g 0):=stL_congr fun i hi=>by simp[upQ]
theorem upQ_done (f g:Nat→Nat):stL (upQ f g 25)=stL g:=stL_congr fun i hi=>by simp[upQ,hi]
theorem upQ_set (f g:Nat→Nat) (K:Nat):(stL (upQ f g K)).set K ((g K:Nat):Int)=stL (upQ f g (K+1)):=by
 rw[stL_set]
 refine stL_congr fun i hi=>?_
 unfold upQ
 by_cases e:i=K
 ·subst e;simp
 ·have:(i<K+1)↔i<K:=by omega
 simp[e,this]
theorem upQ_get (f g:Nat→Nat) (K:Nat):upQ f g K K=f K:=by simp[upQ]

theorem xorI (a b:Nat) (ha:a<18446744073709551616) (hb:b<18446744073709551616):bits .xor .u64 (a:Int) (b:Int)=((a^^^b:Nat):Int):=u64_xor_nat a b ha hb
theorem andI (a b:Nat) (ha:a<18446744073709551616) (hb:b<18446744073709551616):bits .and .u64 (a:Int) (b:Int)=((a &&& b:Nat):Int):=u64_and_nat a b ha hb
theorem ioKI (f:Nat→Nat) (i:Nat):(stL f).set 0 ((f 0^^^kst.getD i 0:Nat):Int)=stL (ioK f i):=by
 rw[stL_set]
 exact stL_congr fun k hk=>by by_cases e:k=0<;>simp[ioK,e]
end Go.Proofs.YtpgjobpmafbigaaGreatDoor

namespace Go.Proofs.YtpgjobpmafbigaaGreatDoor
open Go.ChangeShapes Go.WideShapes Go.ChangeAt Go.RowKit
set_option linter.unusedSimpArgs false
set_option linter.unusedVariables false

theorem infoU8:(Tryz.prog.info? 5).map (fun i=>(i.zero,i.size,i.bytes))=some (some (.int .u8 0),1,1):=by kernel_rfl

theorem W16.len {l:List Nat} (h:W16 l):(nI l).length=16:=by rw[nI_length,h.1]
theorem W16.ne {l:List Nat} (h:W16 l):nI l≠[]:=by
 intro e
 have:=h.len
 rw[e] at this
 cases this
theorem Wrote.drew {g:Nat} {w w':World} (h:Wrote g w w'):Wrote g w w'.drew:=⟨h.size,h.other,fun B a hB hb=>(h.below B a hB hb).drew⟩
def PwT (w:World):Prop:=∀i,i<7→w.cell? ⟨2,i,none⟩=some (.int .i64 ((p17L.getD i 0:Nat):Int))
theorem PwT.kept {w w':World} (h:PwT w) (hb:Below w.heap.size w w'):PwT w':=fun i hi=>by
 rw[hb.cell (p:=⟨2,i,none⟩) (World.block_lt_of_cell? w _ (h i hi))]
 exact h i hi
theorem p17_lt:∀i,i<7→p17L.getD i 0<3329:=by decide
def zP (m:Nat):Nat→Nat
 |0=>1
 |j+1=>if m / 2 ^ j % 2=1 then zP m j * p17L.getD (6 - j) 0 % 3329 else zP m j
theorem zP_seven (m:Nat) (h:m<128):zP m 7=17 ^ tnJ m 7 % 3329:=by
 have:=allB_at zP_all m h
 simpa using this
theorem bit_of (i:Int) (j:Nat) (h:j<7):i / 2 ^ j % 2=((twZ 7 i / 2 ^ j % 2:Nat):Int):=by
 unfold twZ
 match j,h with
 |0,_=>omega
 |1,_=>omega
 |2,_=>omega
 |3,_=>omega
 |4,_=>omega
 |5,_=>omega
 |6,_=>omega
theorem and_bit (y:Int) (h:In64 y):bits .and .i64 y 1=y % 2:=by
 have h1:=and_low 1 (by decide) y h
 rw[show((twZ 1 y:Nat):Int)=y % 2 by unfold twZ;omega] at h1
 exact h1
theorem div_in (i:Int) (j:Nat) (h:j<7) (hi:In64 i):In64 (i / 2 ^ j):=by
 match j,h with
 |0,_=>constructor<;>omega
 |1,_=>constructor<;>omega
 |2,_=>constructor<;>omega
 |3,_=>constructor<;>omega
 |4,_=>constructor<;>omega
 |5,_=>constructor<;>omega
 |6,_=>constructor<;>omega

set_option maxRecDepth 100000 in
set_option maxHeartbeats 1000000 in
theorem zzeta_any (i:Int) (hi:In64 i) (w:World) (hT:PwT w):
 Calls Tryz.prog 258 #[.int .i64 i] w fun e w'=>e=.returned (.int .i64 ((17 ^ tnJ (twZ 7 i) 7 % 3329:Nat):Int))∧w'=w:=by
 obtain⟨Z,hZ⟩:∃Z:Nat,Z=17 ^ tnJ (twZ 7 i) 7 % 3329:=⟨_,rfl⟩
 rw[←hZ]
 have HZ:Hid (Z=zP (twZ 7 i) 7):=by
 show _=_
 rw[hZ,zP_seven _ (twZ_lt 7 i)]
 have HT:Hid _:=hT
 have HI:Hid _:=hi
 clear hZ hT hi
 go_enter Tryz.func258,Tryz.ntmps258
 go_wp2_with fail
 go_loop [3,5] (fun ov jv=>∃j o:Nat,j≤7∧ov=.int .i64 (o:Int)∧Hid (o=zP (twZ 7 i) j)∧o<3329∧jv=.int .i64 (j:Int)) (fun _ jv=>7 - (intOf jv).toNat)
 case atStart=>exact⟨0,1,by omega,rfl,rfl,by omega,rfl⟩
 case round=>
 obtain⟨j,o,hj,rfl,HO,ho,rfl⟩:=hrel
 by_cases hl:j<7
 ·have hd:decide ((j:Int)<7)=true:=decide_eq_true (by omega)
  have hjI:(j:Int)<7:=by omega
  have hj0:¬(j:Int)<0:=by omega
  have b1:=bit_of i j hl
  have b2:=and_bit (i / 2 ^ j) (div_in i j hl HI.out)
  rw[b1] at b2
  have hbl:twZ 7 i / 2 ^ j % 2<2:=Nat.mod_lt _ (by decide)
  by_cases hb:twZ 7 i / 2 ^ j % 2=1
  ·have HN:Hid (zP (twZ 7 i) (j+1)=o * p17L.getD (6 - j) 0 % 3329):=by
   show _=_
   rw[HO.out,zP,if_pos hb]
  rw[hb] at b2
  obtain⟨k,hk⟩:∃k:Nat,k=6 - j:=⟨_,rfl⟩
  have hc:=HT.out k (by omega)
  have hy:=p17_lt k (by omega)
  have ek:6 - (j:Int)=(k:Int):=by omega
  have hk7:k<7:=by omega
  have hkI:(k:Int)<7:=by omega
  rw[←hk] at HN
  generalize p17L.getD k 0=y at hc hy HN
  have HM:Hid (rsZ ((o:Int) * (y:Int))=zP (twZ 7 i) (j+1)):=by
   show _=_
   rw[HN.out,←Int.natCast_mul,rsZ_nat]
  clear HN hk hb b1 hbl
  go_wp2_with fail
  refine(zmul_any (o:Int) (y:Int) ⟨by omega,by omega⟩ ⟨by omega,by omega⟩ _).mono ?_
  rintro e w1 ⟨rfl,rfl⟩
  have hb1:=rsZ_lt ((o:Int) * (y:Int))
  generalize rsZ ((o:Int) * (y:Int))=p at HM hb1
  clear hc
  go_wp2
  go_round
  case rel=>exact⟨j+1,p,by omega,rfl,HM,hb1,by go_num⟩
  case measure=>simp[intOf]<;>omega
  ·have hb0:twZ 7 i / 2 ^ j % 2=0:=by omega
  have HN:Hid (o=zP (twZ 7 i) (j+1)):=by
   show _=_
   rw[HO.out,zP,if_neg hb]
  rw[hb0] at b2
  clear hb hb0 b1 hbl
  go_wp2
  go_round
  case rel=>exact⟨j+1,o,by omega,rfl,HN,ho,by go_num⟩
  case measure=>simp[intOf]<;>omega
 ·have hje:j=7:=by omega
  have hd:decide ((j:Int)<7)=false:=decide_eq_false (by omega)
  have hjI:(7:Int)≤(j:Int):=by omega
  have HN2:Hid (o=Z):=by show _=_;rw[HZ.out,HO.out,hje]
  clear hje HO
  go_wp2
  go_ret
  exact⟨retZ (by rw[HN2.out]),rfl⟩
theorem or_turn (x n:Nat) (hx:x<18446744073709551616) (hn:n<64):(x * 2 ^ n % 18446744073709551616) ||| (x / 2 ^ (64 - n))=turnN x n:=by
 unfold turnN
 split
 ·rename_i h
 subst h
 rw[Nat.pow_zero,Nat.mul_one,Nat.mod_eq_of_lt hx,Nat.div_eq_of_lt (by simpa using hx),Nat.or_zero]
 ·unfold rotN
 have h64:(18446744073709551616:Nat)=2 ^ n * 2 ^ (64 - n):=by rw[←Nat.pow_add,show n+(64 - n)=64 by omega]
 have hB:x / 2 ^ (64 - n)<2 ^ n:=by
  refine Nat.div_lt_of_lt_mul ?_
  rw[Nat.mul_comm,←h64]
  exact hx
 rw[h64,Nat.mul_comm x,Nat.mul_mod_mul_left,Nat.two_pow_add_eq_or_of_lt hB]
theorem and63 (n:Nat) (hn:n<64):bits .and .u64 (n:Int) 63=(n:Int):=by
 have h:=u64_and_nat n 63 (by omega) (by decide)
 rw[show((63:Int))=((63:Nat):Int) from rfl,h,show(63:Nat)=2 ^ 6 - 1 from rfl,Nat.and_two_pow_sub_one_eq_mod,Nat.mod_eq_of_lt (by omega)]

set_option maxHeartbeats 400000 in
theorem rot_any (x n:Nat) (X B:Int) (hX:X=x) (hB:B=n) (hx:x<18446744073709551616) (hn:n<64) (w:World):
 Calls Tryz.prog 385 #[.int .u64 X,.int .i64 B] w fun e w'=>e=.returned (.int .u64 ((turnN x n:Nat):Int))∧w'=w:=by
 subst hX hB
 have ha:=and63 n hn
 have HN:Hid (((64:Int) - (n:Int)).toNat=64 - n):=by show Int.toNat _=_;omega
 have HE:Hid _:=or_turn x n hx hn
 go_enter Tryz.func385,Tryz.ntmps385
 go_wp2
 go_ret
 refine⟨retI ?_,rfl⟩
 have e1:((x:Int) * 2 ^ n)=((x * 2 ^ n:Nat):Int):=by simp
 have e2:((x:Int) / 2 ^ (64 - n))=((x / 2 ^ (64 - n):Nat):Int):=by simp
 rw[e1,e2,IntKind.wrap_u64,show((x * 2 ^ n:Nat):Int) % 18446744073709551616=((x * 2 ^ n % 18446744073709551616:Nat):Int) by omega,u64_or_nat _ _ (Nat.mod_lt _ (by decide)) (Nat.lt_of_le_of_lt (Nat.div_le_self _ _) hx),HE.out]

theorem isRound_any (r:Int) (w:World):
 Calls Tryz.prog 365 #[.int .i64 r] w fun e w'=>e=.returned (.bool (decide (0≤r∧r≤23)))∧w'=w:=by
 by_cases h0:0≤r
 ·have HE:Hid (decide (r<24)=decide (0≤r∧r≤23)):=by
  show decide _=decide _
  by_cases h:r<24<;>simp[h]<;>omega
 go_enter Tryz.func365,Tryz.ntmps365
 go_wp2
 go_ret
 exact⟨congrArg (fun b=>Ending.returned (.bool b)) HE.out,rfl⟩
 ·have hd:decide (0≤r)=false:=decide_eq_false h0
 go_enter Tryz.func365,Tryz.ntmps365
 go_wp2
 go_ret
 exact⟨rfl,rfl⟩

theorem trT_eq:∀i,i<25→trT.getD i 0=((if i=0 then 0 else rhBy (rhTau i):Nat):Int):=by decide
theorem ksT_get (i:Nat) (hi:i<24):ksT.getD i 0=((kst.getD i 0:Nat):Int):=by
 have h:i<kst.length:=hi
 simp[ksT,h]
structure Tabs (w:World):Prop where
 turns:∀i,i<25→w.cell? ⟨7,i,none⟩=some (.int .i64 (trT.getD i 0))
 consts:∀i,i<24→w.cell? ⟨6,i,none⟩=some (.int .u64 (ksT.getD i 0))
theorem Tabs.kept {w w':World} (h:Tabs w) (hb:Below w.heap.size w w'):Tabs w':=
 ⟨fun i hi=>by rw[hb.cell (p:=⟨7,i,none⟩) (World.block_lt_of_cell? w _ (h.turns i hi))];exact h.turns i hi,
 fun i hi=>by rw[hb.cell (p:=⟨6,i,none⟩) (World.block_lt_of_cell? w _ (h.consts i hi))];exact h.consts i hi⟩
theorem Tabs.two {w:World} (h:Tabs w):7<w.heap.size:=by
 have h1:7<w.heap.size:=World.block_lt_of_cell? w _ (h.turns 0 (by decide))
 have h2:6<w.heap.size:=World.block_lt_of_cell? w _ (h.consts 0 (by decide))
 omega
theorem Tabs.wrote {g:Nat} {w w':World} (h:Tabs w) (hw:Wrote g w w') (hg:7<g):Tabs w':=by
 have hb:=hw.below (7+1) w hg (Below.refl _ _)
 exact⟨fun i hi=>by rw[hb.cell (p:=⟨7,i,none⟩) (by decide:(7:Nat)<7+1)];exact h.turns i hi,
 fun i hi=>by rw[hb.cell (p:=⟨6,i,none⟩) (by decide:(6:Nat)<7+1)];exact h.consts i hi⟩
def PlT (w:World):Prop:=∀i,i<32→w.cell? ⟨8,i,none⟩=some (.int .i64 ((plL.getD i 0:Nat):Int))
theorem PlT.kept {w w':World} (h:PlT w) (hb:Below w.heap.size w w'):PlT w':=fun i hi=>by
 rw[hb.cell (p:=⟨8,i,none⟩) (World.block_lt_of_cell? w _ (h i hi))]
 exact h i hi
end Go.Proofs.YtpgjobpmafbigaaGreatDoor

namespace Go.Proofs.YtpgjobpmafbigaaGreatDoor
open Go.ChangeShapes Go.WideShapes Go.ChangeAt Go.RowKit
set_option linter.unusedSimpArgs false
set_option linter.unusedVariables false

def ms8 (l n:Nat) (i c:Int):Nat:=(l - i.toNat) * 2199023255553+(n - i.toNat) * 8589934593+c.toNat
attribute [irreducible] ms8

theorem off2 (u:UInt8):∃q p:Nat,p=u.toNat / 4 * 4∧((u.toNat:Nat):Int).tdiv 4=(q:Int)∧IntKind.u8.wrap (q:Int)=(q:Int)∧IntKind.u8.wrap ((q:Int) * 4)=(p:Int)∧(((UInt8.ofNat p).toNat:Nat):Int)=(p:Int):=by
 have:=u.toNat_lt
 refine⟨u.toNat / 4,_,rfl,?_,?_,?_,?_⟩
 ·rw[Int.tdiv_eq_ediv_of_nonneg (by omega)];omega
 ·rw[IntKind.wrap_u8];omega
 ·rw[IntKind.wrap_u8];omega
 ·rw[UInt8.toNat_ofNat'];omega

end Go.Proofs.YtpgjobpmafbigaaGreatDoor

namespace Go.Proofs.YtpgjobpmafbigaaGreatDoor
set_option linter.unusedSimpArgs false
set_option linter.unusedVariables false

def nmC (c:UInt8):Bool:=(48≤c.toNat&&c.toNat≤57)||(97≤c.toNat&&c.toNat≤122)||(65≤c.toNat&&c.toNat≤90)
def nmB (s:List UInt8):Bool:=1≤s.length&&s.length≤32&&s.all nmC
def teT (s:List UInt8):List UInt8:=(tfT s.reverse).reverse
def tmT (s:List UInt8):List UInt8:=teT (tfT s)
def splL (c:UInt8):List UInt8→List (List UInt8)
 |[]=>[[]]
 |x :: t=>if x=c then [] :: splL c t else match splL c t with
 |[]=>[[x]]
 |p :: ps=>(x :: p) :: ps
theorem splL_cons (c x:UInt8) (h:x≠c) (t:List UInt8) (p:List UInt8) (ps:List (List UInt8)) (e:splL c t=p :: ps):splL c (x :: t)=(x :: p) :: ps:=by
 unfold splL
 rw[if_neg h,e]
theorem splL_len (c:UInt8):∀(s p:List UInt8),p∈splL c s→p.length≤s.length
 |[],p,h=>by
 simp[splL] at h
 subst h
 simp
 |x :: t,p,h=>by
 have ih:=splL_len c t
 unfold splL at h
 split at h
 ·rcases List.mem_cons.1 h with rfl|h
  ·simp
  ·have:=ih p h
  simp
  omega
 ·split at h
  ·simp at h
  subst h
  simp
  ·rename_i q qs e
  rcases List.mem_cons.1 h with rfl|h
  ·have:=ih q (by rw[e];simp)
   simp
   omega
  ·have:=ih p (by rw[e];simp[h])
   simp
   omega
theorem splL_count (c:UInt8):∀s:List UInt8,(splL c s).length≤s.length+1
 |[]=>by simp[splL]
 |x :: t=>by
 have ih:=splL_count c t
 unfold splL
 split
 ·simp
  omega
 ·split
  ·simp
  ·rename_i q qs e
  rw[e] at ih
  simp at ih ⊢
  omega
theorem drop_tf (s:List UInt8):s.dropWhile (· ==32)=tfT s:=by
 induction s with
 |nil=>rfl
 |cons x t ih=>
 show _=if x=32 then tfT t else x :: t
 by_cases h:x=32
 ·rw[if_pos h,List.dropWhile_cons_of_pos (by simpa using h),ih]
 ·rw[if_neg h,List.dropWhile_cons_of_neg (by simpa using h)]
theorem trimR_te (s:List UInt8):Lib.trimRightB s 32=teT s:=by
 unfold Lib.trimRightB teT
 rw[drop_tf]
theorem trim_tm (s:List UInt8):Lib.trimB s 32=tmT s:=by
 unfold Lib.trimB Lib.trimLeftB tmT
 rw[trimR_te,drop_tf,tf_te]
theorem index_one_nil (c:UInt8):Lib.index [] [c]= -1:=by simp[Lib.index]
theorem index_one_hit (c:UInt8) (t:List UInt8):Lib.index (c :: t) [c]=0:=by simp[Lib.index]
theorem index_one_skip (c x:UInt8) (h:x≠c) (t:List UInt8):Lib.index (x :: t) [c]=if Lib.index t [c]== -1 then -1 else Lib.index t [c]+1:=by
 have:([c]:List UInt8).isPrefixOf (x :: t)=false:=by simp[List.isPrefixOf];exact fun e=>absurd e.symm h
 simp[Lib.index,this]
theorem spl_lib (c:UInt8):∀s:List UInt8,Lib.splitK [c] 0 (Lib.count s [c]) s=splL c s
 |[]=>by rw[Lib.count_miss (index_one_nil c)];rfl
 |x :: t=>by
 have ih:=spl_lib c t
 by_cases hx:x=c
 ·subst hx
  rw[Lib.count_hit (i:=0) (by simp) (index_one_hit x t),Nat.add_comm 1]
  unfold Lib.splitK
  rw[index_one_hit]
  show _ :: Lib.splitK [x] 0 (Lib.count t [x]) t=if x=x then [] :: splL x t else _
  rw[ih,if_pos rfl]
  rfl
 ·by_cases hi:Lib.index t [c]= -1
  ·have h1:Lib.index (x :: t) [c]= -1:=by rw[index_one_skip c x hx,hi];rfl
  rw[Lib.count_miss h1]
  rw[Lib.count_miss hi] at ih
  exact(splL_cons c x hx t t [] ih.symm).symm
  ·have hge:=Lib.index_ge t [c]
  obtain⟨i,hi2⟩:∃i:Nat,Lib.index t [c]=i:=⟨(Lib.index t [c]).toNat,by omega⟩
  have h1:Lib.index (x :: t) [c]=((i+1:Nat):Int):=by
   rw[index_one_skip c x hx,hi2,if_neg (by simp<;>omega)]
   omega
  have e1:=Lib.count_hit (i:=i+1) (by simp) h1
  have e2:=Lib.count_hit (i:=i) (by simp) hi2
  have e3:(x :: t).drop (i+1+[c].length)=t.drop (i+[c].length):=by
   show(x :: t).drop (i+1+1)=t.drop (i+1)
   rfl
  rw[e3,←e2] at e1
  rw[e1]
  rw[e2,Nat.add_comm 1] at ih ⊢
  unfold Lib.splitK at ih ⊢
  rw[hi2,if_neg (by simp<;>omega)] at ih
  rw[h1,if_neg (by simp<;>omega)]
  have:=splL_cons c x hx t _ _ ih.symm
  rw[this]
  have a1:((i:Int)).toNat=i:=by omega
  have a2:(((i+1:Nat):Int)).toNat=i+1:=by omega
  rw[a1,a2]
  rfl
theorem split_lib (c:UInt8) (s:List UInt8):(Lib.splitB ⟨#[c]⟩ 0 (Lib.countB ⟨s.toArray⟩ ⟨#[c]⟩) ⟨s.toArray⟩)=(splL c s).map fun l=>⟨l.toArray⟩:=by
 have h:=Lib.splitB_data ⟨#[c]⟩ 0 (Lib.countB ⟨s.toArray⟩ ⟨#[c]⟩) ⟨s.toArray⟩
 have e:Lib.splitK (⟨#[c]⟩:ByteArray).data.toList 0 (Lib.countB ⟨s.toArray⟩ ⟨#[c]⟩) (⟨s.toArray⟩:ByteArray).data.toList=splL c s:=by
 show Lib.splitK [c] 0 (Lib.count s.toArray.toList [c]) s.toArray.toList=_
 rw[List.toList_toArray]
 exact spl_lib c s
 rw[e] at h
 rw[←h,List.map_map]
 have:((fun l:List UInt8=>(⟨l.toArray⟩:ByteArray)) ∘ fun x:ByteArray=>x.data.toList)=id:=by
 funext x
 simp
 rw[this,List.map_id]
theorem count_lib (c:UInt8) (s:List UInt8):Lib.countB ⟨s.toArray⟩ ⟨#[c]⟩+1=(splL c s).length:=by
 have:=congrArg List.length (split_lib c s)
 rw[List.length_map] at this
 rw[←this]
 exact(Lib.splitB_all ⟨#[c]⟩ (by show 1≤1;omega) 0 _ ⟨s.toArray⟩ rfl).symm
end Go.Proofs.YtpgjobpmafbigaaGreatDoor

namespace Go.Proofs.YtpgjobpmafbigaaGreatDoor
open Go.ChangeShapes Go.WideShapes Go.ChangeAt Go.RowKit
set_option linter.unusedSimpArgs false
set_option linter.unusedVariables false

theorem own_chgG {S:Nat→Prop} {w w':World} {base sz:Nat} {e:TypeId} {v:Value} {n:Nat} {xs:List Value} (h:w.ownsRow base e sz v n xs) (c:Chg S w w') (hS:∀g,v.ownBlock=some g→¬S g):w'.ownsRow base e sz v n xs:=by
 refine⟨h.1,h.2.imp id ?_⟩
 rintro⟨g,cap,cur,rfl,h2,h3,h4⟩
 refine⟨g,cap,cur,rfl,h2,?_,h4⟩
 rw[c.block g (Array.getElem?_eq_some_iff.1 h3).1 (hS g rfl),h3]
theorem own_monoG {w:World} {base base' sz:Nat} {e:TypeId} {v:Value} {n:Nat} {xs:List Value} (h:w.ownsRow base e sz v n xs) (hb:base'≤base):w.ownsRow base' e sz v n xs:=by
 refine⟨h.1,h.2.imp id ?_⟩
 rintro⟨g,cap,cur,rfl,h2,h3⟩
 exact⟨g,cap,cur,rfl,Nat.le_trans hb h2,h3⟩
theorem own_keptG {w w':World} {base sz:Nat} {e:TypeId} {v:Value} {n:Nat} {xs:List Value} (h:w.ownsRow base e sz v n xs) (hb:Below w.heap.size w w'):w'.ownsRow base e sz v n xs:=
 own_chgG h (Chg.of_below (S:=fun _=>False) hb) fun _ _=>id
theorem append_nearG {P:Program} (wr:World) (base:Nat) (t ty e:TypeId) (i:TypeInfo) (z:Value) (size bytes:Nat) (ht:P.underlying t=some (.slice e)) (hi:P.info? e=some i) (hz:i.zero=some z) (hsize:i.size=size) (hby:i.bytes=bytes)
 (v:Value) (n:Nat) (xs:List Value) (hown:wr.ownsRow base e size v n xs) (ad:Addr) (m c:Nat) (news:List Value) (hl:news.length=m * size) (hnews:∀j u,news[j]?=some u→wr.cell? (ad.add j)=some u) (h1:∀u∈news,u.oneCell'=true)
 (h63:n+m≤maxLen) (hbytes:(n+m) * bytes≤140737488355328) (v':Value) (w':World) (hr:(Builtin.append_ #[t,t] ty #[v,.slice (some ad) m c]).run P wr=.ok v' w') (hnil:v'=.slice none 0 0↔v=.slice none 0 0∧m=0):Near wr v v':=by
 subst hsize hby
 have hsmall:n+m≤9223372036854775807:=by simp only[maxLen] at h63;omega
 rcases hown.2 with ⟨rfl,h0⟩|⟨g,cap,cur,rfl,hb,hg,hn,hm,hss,htk⟩
 ·subst h0
 by_cases hm0:m=0
 ·left
  rw[hnil.2 ⟨rfl,hm0⟩]
 ·right
  have:=run_append_nil (P:=P) wr t ty e i _ ht hi hz ad m c news hl hnews (by omega) (by omega) (by rw[Nat.zero_add] at hbytes;omega)
  rw[this] at hr
  simp only[Result.ok.injEq] at hr
  intro g hg
  rw[←hr.1] at hg
  simp only[Value.ownBlock,Option.some.injEq] at hg
  omega
 ·by_cases hroom:n+m≤cap
 ·left
  have hfit:n * i.size+news.length≤cur.size:=by rw[hl,hss,←Nat.add_mul];exact Nat.mul_le_mul_right _ hroom
  have:=run_append_room (P:=P) wr t ty e i ht hi g n cap cur hg ad m c news hl hnews h1 hroom hfit
  rw[this] at hr
  simp only[Result.ok.injEq] at hr
  rw[←hr.1]
  rfl
 ·right
  have:=run_append_grow (P:=P) wr t ty e i _ ht hi hz ⟨g,0,none⟩ n cap xs hown.1 (fun j u hj=>hown.cells rfl j u hj) ad m c news hl hnews (by omega) (by omega) (growslice_fits (by omega) hbytes)
  rw[this] at hr
  simp only[Result.ok.injEq] at hr
  intro g' hg'
  rw[←hr.1] at hg'
  simp only[Value.ownBlock,Option.some.injEq] at hg'
  omega
structure Rw where
 ty:TypeId
 sz:Nat
 v:Value
 n:Nat
 xs:List Value
def Rw.by (e:TypeId) (v:Value) (l:List UInt8):Rw:=⟨e,1,v,l.length,l.map bv⟩
structure OwnG (w0:World) (L:List Rw) (w:World):Prop where
 rows:∀p∈L,w.ownsRow w0.heap.size p.ty p.sz p.v p.n p.xs
 apart:L.Pairwise fun p q=>Apart p.v q.v
 below:Below w0.heap.size w0 w
theorem OwnG.start (w0:World):OwnG w0 [] w0:=⟨(fun p hp=>by cases hp),.nil,Below.refl _ _⟩
theorem OwnG.since {w0 w:World} (h:Below w0.heap.size w0 w):OwnG w0 [] w:=⟨(fun p hp=>by cases hp),.nil,h⟩
theorem OwnG.kept {w0 w w':World} {L:List Rw} (h:OwnG w0 L w) (hb:Below w.heap.size w w'):OwnG w0 L w':=
 ⟨fun p hp=>own_keptG (h.rows p hp) hb,h.apart,stepB h.below hb⟩
theorem OwnG.drew {w0 w:World} {L:List Rw} (h:OwnG w0 L w):OwnG w0 L w.drew:=h.kept (Below.refl _ _).drew
theorem OwnG.perm {w0 w:World} {L L':List Rw} (h:OwnG w0 L w) (hp:L'.Perm L):OwnG w0 L' w:=
 ⟨fun p hp'=>h.rows p (hp.subset hp'),(hp.pairwise_iff (fun h=>h.symm)).2 h.apart,h.below⟩
theorem OwnG.tail {w0 w:World} {p:Rw} {L:List Rw} (h:OwnG w0 (p :: L) w):OwnG w0 L w:=
 ⟨fun q hq=>h.rows q (List.mem_cons_of_mem _ hq),(List.pairwise_cons.1 h.apart).2,h.below⟩
theorem OwnG.swap {w0 w:World} {p q:Rw} {L:List Rw} (h:OwnG w0 (p :: q :: L) w):OwnG w0 (q :: p :: L) w:=h.perm (List.Perm.swap ..)
theorem OwnG.rd {w0 w:World} {e:TypeId} {v:Value} {l:List UInt8} {L:List Rw} (h:OwnG w0 L w) (hp:Rw.by e v l∈L):Rd w v l:=Rd.of_row (h.rows _ hp)
theorem OwnG.rd0 {w0 w:World} {e:TypeId} {v:Value} {l:List UInt8} {L:List Rw} (h:OwnG w0 (Rw.by e v l :: L) w):Rd w v l:=h.rd (List.mem_cons_self ..)
theorem OwnG.nil {w0 w:World} (ty:TypeId) (sz:Nat) {L:List Rw} (h:OwnG w0 L w):OwnG w0 (⟨ty,sz,.slice none 0 0,0,[]⟩ :: L) w:=
 ⟨fun p hp=>by
 rcases List.mem_cons.1 hp with rfl|hp
 ·exact World.ownsRow_nil _ _ _ _
 ·exact h.rows p hp,List.pairwise_cons.2 ⟨fun q _=>Apart.nil _,h.apart⟩,h.below⟩
theorem OwnG.fresh {w0 w w':World} {p:Rw} {L:List Rw} (h:OwnG w0 L w) (hN:w'.ownsRow w.heap.size p.ty p.sz p.v p.n p.xs) (hb:Below w.heap.size w w'):OwnG w0 (p :: L) w':=by
 have hk:=h.kept hb
 refine⟨fun q hq=>?_,List.pairwise_cons.2 ⟨fun q hq=>?_,h.apart⟩,hk.below⟩
 ·rcases List.mem_cons.1 hq with rfl|hq
 ·exact own_monoG hN h.below.size
 ·exact hk.rows q hq
 ·refine Apart.symm (Apart.lt (B:=w.heap.size) (fun g hg=>((h.rows q hq).lt g hg).2) fun g hg=>(hN.lt g hg).1)
theorem OwnG.new {w0 w w':World} {e:TypeId} {v:Value} {l:List UInt8} {L:List Rw} (h:OwnG w0 L w) (hN:New e w v l w'):OwnG w0 (Rw.by e v l :: L) w':=h.fresh hN.1 hN.2
theorem OwnG.toNew {w0 w:World} {e:TypeId} {v:Value} {l:List UInt8} {L:List Rw} (h:OwnG w0 (Rw.by e v l :: L) w):New e w0 v l w:=⟨h.rows _ (List.mem_cons_self ..),h.below⟩
theorem OwnG.wrote {w0 w w':World} {g:Nat} {L:List Rw} (h:OwnG w0 L w) (hw:Wrote g w w') (hg:w0.heap.size≤g) (hn:∀p∈L,∀b,p.v.ownBlock=some b→b≠g):OwnG w0 L w':=
 ⟨fun p hp=>own_chgG (h.rows p hp) (Chg.of_wrote hw) fun b hb e=>hn p hp b hb e,h.apart,hw.below _ _ hg h.below⟩
theorem OwnG.lt {w0 w:World} {L:List Rw} (h:OwnG w0 L w):∀p∈L,∀b,p.v.ownBlock=some b→b<w.heap.size:=fun p hp b hb=>((h.rows p hp).lt b hb).2
theorem OwnG.from {w0 w1 w:World} {L:List Rw} (h:OwnG w1 L w) (hb:Below w0.heap.size w0 w1):OwnG w0 L w:=
 ⟨fun p hp=>own_monoG (h.rows p hp) hb.size,h.apart,hb.trans (h.below.mono hb.size)⟩
theorem OwnG.grown {w0 wr w':World} {p p':Rw} {L:List Rw} (h:OwnG w0 (p :: L) wr) (h1:w'.ownsRow w0.heap.size p'.ty p'.sz p'.v p'.n p'.xs) (hg:wr.grownBy w' p.v.ownBlock) (hn:Near wr p.v p'.v):OwnG w0 (p' :: L) w':=by
 have hp:=List.pairwise_cons.1 h.apart
 have hv:=h.rows p (List.mem_cons_self ..)
 refine⟨fun q hq=>?_,List.pairwise_cons.2 ⟨fun q hq=>?_,hp.2⟩,h.below.grown hg h.below.size fun k hk=>(hv.lt k hk).1⟩
 ·rcases List.mem_cons.1 hq with rfl|hq
 ·exact h1
 ·exact own_chgG (h.rows q (List.mem_cons_of_mem _ hq)) (Chg.of_grown hg) fun g hg' e=>hp.1 q hq g e.symm hg'
 ·exact Apart.near hn (hp.1 q hq) fun g hg'=>((h.rows q (List.mem_cons_of_mem _ hq)).lt g hg').2
theorem wp_append_E {P:Program} {w0 wr:World} {L:List Rw} {o:Oper} {a:Act} {K:Act→World→Prop} {Q:Exit→Act→World→Prop} (s x:Operand) (t:TypeId)
 (ho:o.op=.call {callee:=.builtin .append,args:=#[s,x],argTypes:=#[t,t]}) (e:TypeId) (i:TypeInfo) (z:Value) (size bytes:Nat) (ht:P.underlying t=some (.slice e)) (hi:P.info? e=some i) (hz:i.zero=some z)
 (hsize:i.size=size) (hby:i.bytes=bytes) (hzs:z.cells.size=size) (hsz:0<size) (v:Value) (n:Nat) (xs:List Value) (hs:a.eval s=v) (hO:OwnG w0 (⟨e,size,v,n,xs⟩ :: L) wr)
 (ad:Addr) (m c:Nat) (news:List Value) (hx:a.eval x=.slice (some ad) m c) (hl:news.length=m * size) (hnews:∀j u,news[j]?=some u→wr.cell? (ad.add j)=some u) (h1:∀u∈news,u.oneCell'=true)
 (h63:n+m≤maxLen) (hbytes:(n+m) * bytes≤140737488355328)
 (h:∀v' w',OwnG w0 (⟨e,size,v',n+m,xs++news⟩ :: L) w'→Chg (fun b=>some b=v.ownBlock) wr w'→K (a.put o.dst v') w'):o.wp P a wr K Q:=by
 have hown:=hO.rows _ (List.mem_cons_self ..)
 obtain⟨v',w',hr,r2,r3,r4⟩:=run_append_own (P:=P) wr w0.heap.size t o.type e i z size bytes ht hi hz hsize hby hzs hsz v n xs hown ad m c news hl hnews h1 h63 hbytes hO.below.size
 have hnear:=append_nearG wr w0.heap.size t o.type e i z size bytes ht hi hz hsize hby v n xs hown ad m c news hl hnews h1 h63 hbytes v' w' hr r4
 unfold Oper.wp execOp
 simp only[ho,resolve,invoke,builtin,Sem.run_bind,Sem.run_pure,Result.andThen_ok,List.map_toArray,List.map_cons,List.map_nil,hs,hx,hr]
 exact h v' w' (hO.grown (p':=⟨e,size,v',n+m,xs++news⟩) r2 r3 hnear) (Chg.of_grown r3)
theorem wpList_append_E {P:Program} {w0 wr:World} {L:List Rw} {ops:Array Oper} {rest:List Oper} {o:Oper} {a:Act} {Q:Exit→Act→World→Prop} (hg:o.guard=none) (s x:Operand) (t:TypeId)
 (ho:o.op=.call {callee:=.builtin .append,args:=#[s,x],argTypes:=#[t,t]}) (e:TypeId) (i:TypeInfo) (z:Value) (size bytes:Nat) (ht:P.underlying t=some (.slice e)) (hi:P.info? e=some i) (hz:i.zero=some z)
 (hsize:i.size=size) (hby:i.bytes=bytes) (hzs:z.cells.size=size) (hsz:0<size) (v:Value) (n:Nat) (xs:List Value) (hs:a.eval s=v) (hO:OwnG w0 (⟨e,size,v,n,xs⟩ :: L) wr)
 (ad:Addr) (m c:Nat) (news:List Value) (hx:a.eval x=.slice (some ad) m c) (hl:news.length=m * size) (hnews:∀j u,news[j]?=some u→wr.cell? (ad.add j)=some u) (h1:∀u∈news,u.oneCell'=true)
 (h63:n+m≤maxLen) (hbytes:(n+m) * bytes≤140737488355328)
 (h:∀v' w',OwnG w0 (⟨e,size,v',n+m,xs++news⟩ :: L) w'→Chg (fun b=>some b=v.ownBlock) wr w'→wpList P ops Q rest (a.put o.dst v') w'):wpList P ops Q (o :: rest) a wr:=
 wpList_plain hg fun _ hK=>wp_append_E s x t ho e i z size bytes ht hi hz hsize hby hzs hsz v n xs hs hO ad m c news hx hl hnews h1 h63 hbytes fun v' w' h1 h2=>hK _ _ (h v' w' h1 h2)
def RdC (w:World) (v:Value) (xs:List Value):Prop:=
 ∃a cap,v=.slice a xs.length cap∧xs.length≤cap∧cap≤maxLen∧(a=none→cap=0)∧(xs=[]∨∃b off,a=some ⟨b,off,none⟩∧∀i,i<xs.length→w.cell? ⟨b,off+i,none⟩=xs[i]?)
theorem RdC.nil (w:World):RdC w (.slice none 0 0) []:=⟨none,0,rfl,Nat.le_refl _,by simp[maxLen],fun _=>rfl,.inl rfl⟩
theorem RdC.kept {w w':World} {v:Value} {xs:List Value} (h:RdC w v xs) (hb:Below w.heap.size w w'):RdC w' v xs:=by
 obtain⟨a,c,e1,h2,h3,h4,h5⟩:=h
 refine⟨a,c,e1,h2,h3,h4,h5.imp id ?_⟩
 rintro⟨b,off,e2,hc⟩
 refine⟨b,off,e2,fun i hi=>?_⟩
 have h6:=hc i hi
 have h7:xs[i]?=some xs[i]:=by simp[hi]
 rw[h7] at h6
 rw[hb.cell (World.block_lt_of_cell? _ _ h6),h6,h7]
theorem RdC.drew {w:World} {v:Value} {xs:List Value} (h:RdC w v xs):RdC w.drew v xs:=h.kept (Below.refl _ _).drew
theorem RdC.cellAt {w:World} {v:Value} {xs:List Value} (h:RdC w v xs) {i:Nat} (hi:i<xs.length):∃b off cap,v=.slice (some ⟨b,off,none⟩) xs.length cap∧xs.length≤cap∧cap≤maxLen∧w.cell? ⟨b,off+i,none⟩=some xs[i]:=by
 obtain⟨a,c,e1,h2,h3,h4,h5⟩:=h
 rcases h5 with h|⟨b,off,e2,hc⟩
 ·rw[h] at hi
 cases hi
 ·refine⟨b,off,c,by rw[e1,e2],h2,h3,?_⟩
 rw[hc i hi]
 simp[hi]
theorem RdC.of_own {w:World} {base:Nat} {e:TypeId} {v:Value} {n:Nat} {xs:List Value} (h:w.ownsRow base e 1 v n xs):RdC w v xs:=by
 have hn:xs.length=n:=by simpa using h.1
 subst hn
 rcases h.2 with ⟨rfl,h0⟩|⟨g,cap,cur,hv,hb,hg,hle,hm,hss,htk⟩
 ·have:xs=[]:=List.eq_nil_of_length_eq_zero h0
 subst this
 exact RdC.nil w
 ·refine⟨some ⟨g,0,none⟩,cap,hv,hle,hm,(fun e=>by cases e),?_⟩
 by_cases h0:xs=[]
 ·exact .inl h0
 ·right
  refine⟨g,0,rfl,fun i hi=>?_⟩
  have h7:xs[i]?=some xs[i]:=by simp[hi]
  have:=h.cells (by rw[hv];rfl) i xs[i] h7
  have hp:(⟨g,0,none⟩:Addr).add i=⟨g,0+i,none⟩:=by unfold Addr.add;split<;>simp_all
  rw[h7,←hp]
  exact this
theorem OwnG.rdC {w0 w:World} {p:Rw} {L:List Rw} (h:OwnG w0 (p :: L) w) (hs:p.sz=1):RdC w p.v p.xs:=by
 have:=h.rows p (List.mem_cons_self ..)
 rw[hs] at this
 exact RdC.of_own this
theorem RdC.lit {w:World} {e:TypeId} (xs:List Value) {cs:Array Value} {n b:Nat} (h:cs=xs.toArray) (hn:n=xs.length) (hb:b=w.heap.size) (hm:xs.length≤maxLen):RdC (w.alloc (.cells cs e)) (.slice (some ⟨b,0,none⟩) n n) xs:=by
 subst h hn hb
 refine⟨_,_,rfl,Nat.le_refl _,hm,(fun h=>by cases h),?_⟩
 right
 refine⟨_,0,rfl,fun i hi=>?_⟩
 have hh:(w.alloc (.cells xs.toArray e)).heap[w.heap.size]?=some (.cells xs.toArray e):=by
 show(w.heap.push _)[w.heap.size]?=_
 simp
 unfold World.cell?
 rw[hh]
 simp[hi]
structure Ptn where
 name:List UInt8
 ki:Bool
 kr:Bool
 ms:List (Bool×List Int)
def Ptn.tk (p:Ptn) (m:Nat):List Int:=(p.ms.getD m (false,[])).2
def Ptn.ini (p:Ptn) (m:Nat):Bool:=(p.ms.getD m (false,[])).1
def Ptn.n (p:Ptn):Nat:=p.ms.length
def tkB (x:Int):Bool:=decide (1≤x)&&decide (x≤10)
def wrM (t:List Int):Bool:=decide (1≤t.length)&&decide (t.length≤12)&&t.all tkB
def wrB (p:Ptn):Bool:=nmB p.name&&decide (1≤p.n)&&decide (p.n≤8)&&p.ms.all fun m=>wrM m.2
theorem wr_false {p:Ptn} {k:Nat} (hk:k<p.n) (h:wrM (p.tk k)=false):wrB p=false:=by
 have h2:(p.ms.all fun m=>wrM m.2)=false:=by
 rw[List.all_eq_false]
 have hk2:k<p.ms.length:=hk
 refine⟨p.ms[k]'hk2,List.getElem_mem hk2,?_⟩
 have e:p.tk k=(p.ms[k]'hk2).2:=by
  unfold Ptn.tk
  simp[hk2]
 rw[←e,h]
 simp
 unfold wrB
 rw[h2,Bool.and_false]
theorem wrM_false {t:List Int} {j:Nat} (hj:j<t.length) (h:tkB (t.getD j 0)=false):wrM t=false:=by
 have h2:t.all tkB=false:=by
 rw[List.all_eq_false]
 refine⟨t.getD j 0,?_,by rw[h];simp⟩
 simp[hj]
 unfold wrM
 rw[h2,Bool.and_false]
structure PtR (w:World) (p:Ptn) (vi vl:Value):Prop where
 inits:RdC w vi (p.ms.map fun m=>Value.bool m.1)
 rows:∃vs:List Value,RdC w vl vs∧vs.length=p.n∧∀k (h:k<vs.length),RdI .i64 w vs[k] (p.tk k)
theorem PtR.kept {w w':World} {p:Ptn} {vi vl:Value} (h:PtR w p vi vl) (hb:Below w.heap.size w w'):PtR w' p vi vl:=by
 obtain⟨vs,h1,h2,h3⟩:=h.rows
 exact⟨h.inits.kept hb,vs,h1.kept hb,h2,fun k hk=>(h3 k hk).kept hb⟩
theorem PtR.len {w:World} {p:Ptn} {vi vl:Value} (h:PtR w p vi vl):∃a c,vl=.slice a p.n c∧p.n≤c∧c≤maxLen:=by
 obtain⟨vs,⟨a,c,e,h2,h3, -⟩,hl, -⟩:=h.rows
 rw[hl] at e h2
 exact⟨a,c,e,h2,h3⟩
theorem PtR.row {w:World} {p:Ptn} {vi:Value} {a:Option Addr} {n c:Nat} (h:PtR w p vi (.slice a n c)) {m:Nat} (hm:m<p.n):∃g o vr,a=some ⟨g,o,none⟩∧w.cell? ⟨g,o+m,none⟩=some vr∧RdI .i64 w vr (p.tk m):=by
 obtain⟨vs,h1,hl,h3⟩:=h.rows
 have hm2:m<vs.length:=by rw[hl];exact hm
 obtain⟨g,o,c',ev, -, -,hc⟩:=h1.cellAt hm2
 simp only[Value.slice.injEq] at ev
 obtain⟨rfl, -, -⟩:=ev
 exact⟨g,o,_,rfl,hc,h3 m hm2⟩
end Go.Proofs.YtpgjobpmafbigaaGreatDoor

namespace Go.Proofs.YtpgjobpmafbigaaGreatDoor
set_option linter.unusedSimpArgs false
set_option linter.unusedVariables false

structure PtS (p:Ptn):Prop where
 n:p.n≤8
 one:1≤p.n
 t:∀i,i<p.n→(p.tk i).length≤12
 x:∀i,i<p.n→∀j,j<(p.tk i).length→1≤(p.tk i).getD j 0∧(p.tk i).getD j 0≤10
theorem PtS.of {p:Ptn} (h:wrB p=true):PtS p:=by
 unfold wrB at h
 simp only[Bool.and_eq_true,decide_eq_true_eq] at h
 have hm:∀i,i<p.n→wrM (p.tk i)=true:=fun i hi=>by
 have h2:=List.all_eq_true.1 h.2
 have hi2:i<p.ms.length:=hi
 have:=h2 (p.ms[i]'hi2) (List.getElem_mem hi2)
 unfold Ptn.tk
 simpa [hi2] using this
 refine⟨h.1.2,h.1.1.2,fun i hi=>?_,fun i hi j hj=>?_⟩
 ·have:=hm i hi
 unfold wrM at this
 simp only[Bool.and_eq_true,decide_eq_true_eq] at this
 exact this.1.2
 ·have:=hm i hi
 unfold wrM at this
 simp only[Bool.and_eq_true,decide_eq_true_eq] at this
 have h3:=List.all_eq_true.1 this.2 ((p.tk i).getD j 0) (by simp[hj])
 unfold tkB at h3
 simpa using h3
end Go.Proofs.YtpgjobpmafbigaaGreatDoor

namespace Go.Proofs.YtpgjobpmafbigaaGreatDoor
open Go.ChangeShapes Go.WideShapes Go.ChangeAt Go.RowKit
set_option linter.unusedSimpArgs false
set_option linter.unusedVariables false

structure MsR (w:World) (v:Value) (p:Ptn):Prop where
 form:∃a cap,v=.slice a p.n cap∧p.n≤cap∧cap≤maxLen∧(p.n=0∨∃b off,a=some ⟨b,off,none⟩∧∀k,k<p.n→∃vt,w.cell? ⟨b,off+2 * k,none⟩=some (.bool (p.ini k))∧w.cell? ⟨b,off+(2 * k+1),none⟩=some vt∧RdI .i64 w vt (p.tk k))
theorem MsR.kept {w w':World} {v:Value} {p:Ptn} (h:MsR w v p) (hb:Below w.heap.size w w'):MsR w' v p:=by
 obtain⟨a,cap,e,h1,h2,h3⟩:=h.form
 refine⟨a,cap,e,h1,h2,h3.imp id ?_⟩
 rintro⟨b,off,e2,hc⟩
 refine⟨b,off,e2,fun k hk=>?_⟩
 obtain⟨vt,c1,c2,c3⟩:=hc k hk
 refine⟨vt,?_,?_,c3.kept hb⟩
 ·rw[hb.cell (World.block_lt_of_cell? _ _ c1)]
 exact c1
 ·rw[hb.cell (World.block_lt_of_cell? _ _ c2)]
 exact c2
def paC (p:Ptn) (vm:Value):List Value:=[.string ⟨p.name.toArray⟩,.bool p.ki,.bool p.kr,vm]
def KyR (w:World) (v:Value) (ks:List (Bool×Int)):Prop:=
 ∃a cap,v=.slice a ks.length cap∧ks.length≤cap∧cap≤maxLen∧(ks=[]∨∃b off,a=some ⟨b,off,none⟩∧∀k (h:k<ks.length),w.cell? ⟨b,off+2 * k,none⟩=some (.bool ks[k].1)∧w.cell? ⟨b,off+(2 * k+1),none⟩=some (.int .i64 ks[k].2))
theorem KyR.kept {w w':World} {v:Value} {ks:List (Bool×Int)} (h:KyR w v ks) (hb:Below w.heap.size w w'):KyR w' v ks:=by
 obtain⟨a,cap,e,h1,h2,h3⟩:=h
 refine⟨a,cap,e,h1,h2,h3.imp id ?_⟩
 rintro⟨b,off,e2,hc⟩
 refine⟨b,off,e2,fun k hk=>?_⟩
 obtain⟨c1,c2⟩:=hc k hk
 refine⟨?_,?_⟩
 ·rw[hb.cell (World.block_lt_of_cell? _ _ c1)]
 exact c1
 ·rw[hb.cell (World.block_lt_of_cell? _ _ c2)]
 exact c2
theorem paInfo (p:Ptn) (vm:Value):(Tryz.prog.info? 25).map (·.size)=some (paC p vm).length:=by
 show _=some 4
 kernel_rfl

theorem str_size (l:List UInt8):ByteArray.size ⟨l.toArray⟩=l.length:=by
 show l.toArray.size=l.length
 simp

end Go.Proofs.YtpgjobpmafbigaaGreatDoor

namespace Go.Proofs.YtpgjobpmafbigaaGreatDoor
set_option linter.unusedSimpArgs false
set_option linter.unusedVariables false

def scK (x:Int) (o:Bool):List (Bool×Int):=
 if x=3 then [(true,1),(false,1)] else if x=4 then [(true,1),(false,2)] else if x=5 then [(true,2),(false,1)] else if x=6 then [(true,2),(false,2)]
 else if x=7 then [(false,7)] else if x=9 then [(o,8)] else if x=10 then [(o,2)] else []
def kyC (l:List (Bool×Int)):List Value:=l.flatMap fun k=>[Value.bool k.1,.int .i64 k.2]
def seX (l:List ((Int×List (Bool×Int))×Value)):List Value:=l.flatMap fun e=>[Value.int .i64 e.1.1,e.2]
def seK (ty:TypeId) (l:List ((Int×List (Bool×Int))×Value)):List Rw:=l.reverse.map fun e=>⟨ty,2,e.2,e.1.2.length,kyC e.1.2⟩
theorem OwnG.lit {w0 w:World} {L:List Rw} (h:OwnG w0 L w) (e:TypeId) (sz n b:Nat) (xs:List Value) (cs:Array Value) (hcs:cs=xs.toArray) (hb:b=w.heap.size) (hm:n≤maxLen) (hs:xs.length=n * sz):OwnG w0 (⟨e,sz,.slice (some ⟨b,0,none⟩) n n,n,xs⟩ :: L) (w.alloc (.cells cs e)):=by
 subst hcs hb
 refine h.fresh (p:=⟨e,sz,.slice (some ⟨w.heap.size,0,none⟩) n n,n,xs⟩) ?_ (growB _)
 have:=World.ownsRow_lit (base:=w.heap.size) (e:=e) (size:=sz) w xs.toArray n (Nat.le_refl _) hm (by simpa using hs)
 simpa using this
theorem news2 {w:World} {e:TypeId} (u v:Value) {b:Nat} (hb:b=w.heap.size):∀j x,[u,v][j]?=some x→(w.alloc (.cells #[u,v] e)).cell? ((⟨b,0,none⟩:Addr).add j)=some x:=by
 subst hb
 intro j x h
 have hh:(w.alloc (.cells #[u,v] e)).heap[w.heap.size]?=some (.cells #[u,v] e):=by
 show(w.heap.push _)[w.heap.size]?=_
 simp
 have hp:(⟨w.heap.size,0,none⟩:Addr).add j=⟨w.heap.size,j,none⟩:=by unfold Addr.add;split<;>simp_all
 rw[hp]
 unfold World.cell?
 rw[hh]
 simpa using h
end Go.Proofs.YtpgjobpmafbigaaGreatDoor

namespace Go.Proofs.YtpgjobpmafbigaaGreatDoor
set_option linter.unusedVariables false

theorem strs_of_head {P:Program} {W:World} {name:String} {zs:List (List UInt8)} {rest:List (String×DataW Unit)} {g:Nat} {t e:TypeId} {n:Nat}
 (hg:P.globalNamed name=some g) (hty:(P.globals[g]?).map (·.type)=some t) (ht:P.underlying t=some (.array n e)) (he:P.underlying e=some .string) (hce:P.cellsOf e=1)
 (h:laidMet P ((name,.agg (zs.map fun l=> .lit (.string l))) :: rest) W) (i:Nat) (hi:i<zs.length):W.cell? ⟨g,i,none⟩=some (.string ⟨(zs.getD i []).toArray⟩):=by
 obtain⟨ps,⟨g',t',cs,fuel,p,q,hg',ht',hvar,hd,_,_⟩,_⟩:=h
 obtain rfl:=Option.some.inj (hg.symm.trans hg')
 obtain rfl:=Option.some.inj (hty.symm.trans ht')
 rw[World.var?_cell hg hvar]
 obtain⟨xs,f',_,hx,_,hl,hr⟩:=DataW.trod_array ht hd
 have hxs:zs.map (fun l=>(DataW.lit (.string l):DataW Unit))=xs.map (·.1):=by
 have:=congrArg Prod.fst hx
 simpa using this
 have hin:i<n:=by
 have:=congrArg List.length hxs
 simp at this
 omega
 have h2:=hr i hin
 rw[hce,Nat.mul_one] at h2
 have hxi:xs[i]?=some xs[i]:=List.getElem?_eq_getElem (by omega)
 rw[hxi] at h2
 obtain⟨s,hc,hs,_⟩:=DataW.trod_string he h2
 have h3:=congrArg (·[i]?) hxs
 simp only[List.getElem?_map,hxi,Option.map_some,List.getElem?_eq_getElem hi,hs,Option.some.injEq,DataW.lit.injEq,Lit.string.injEq] at h3
 have h4:=congrArg (·[0]?) hc
 simp only[List.getElem?_take,List.getElem?_drop] at h4
 have h5:(zs.getD i [])=s.data.toList:=by rw[←h3];simp[hi]
 rw[h5]
 simpa using h4
end Go.Proofs.YtpgjobpmafbigaaGreatDoor

namespace Go.Proofs.YtpgjobpmafbigaaGreatDoor
open Go.ChangeShapes Go.WideShapes Go.ChangeAt Go.RowKit
set_option linter.unusedSimpArgs false
set_option linter.unusedVariables false

theorem str_at (s:List UInt8) (i:Nat) (h:i<s.length) (w:World):(Instr.index 9 (.string ⟨s.toArray⟩) (.int .i64 (i:Int))).run Tryz.prog w=.ok (.int .u8 ((s.getD i 0).toNat:Int)) w:=by
 have e:(⟨s.toArray⟩:ByteArray)[i]?=some (s.getD i 0):=by
 show(if h:i<s.toArray.size then some s.toArray[i] else none)=_
 simp[h]
 have hz:(0:Int)≤(i:Int):=by omega
 simp only[Instr.index,asIntOf,Sem.run_bind,Sem.run_pure,Result.andThen_ok,run_underlying Tryz.underlying9,hz,if_true,Int.toNat_natCast,e]
theorem nm_facts (x:UInt8) (c:Nat) (b:Bool) (hc:c=x.toNat) (hb:b=nmC x):(decide ((48:Int)≤(c:Int))=false∧decide ((c:Int)≤57)=true∧decide ((97:Int)≤(c:Int))=false∧decide ((c:Int)≤122)=true∧decide ((65:Int)≤(c:Int))=false∧decide ((c:Int)≤90)=true∧0≤c∧c≤47∧b=false)∨
 (decide ((48:Int)≤(c:Int))=true∧decide ((c:Int)≤57)=true∧decide ((97:Int)≤(c:Int))=false∧decide ((c:Int)≤122)=true∧decide ((65:Int)≤(c:Int))=false∧decide ((c:Int)≤90)=true∧48≤c∧c≤57∧b=true)∨
 (decide ((48:Int)≤(c:Int))=true∧decide ((c:Int)≤57)=false∧decide ((97:Int)≤(c:Int))=false∧decide ((c:Int)≤122)=true∧decide ((65:Int)≤(c:Int))=false∧decide ((c:Int)≤90)=true∧58≤c∧c≤64∧b=false)∨
 (decide ((48:Int)≤(c:Int))=true∧decide ((c:Int)≤57)=false∧decide ((97:Int)≤(c:Int))=false∧decide ((c:Int)≤122)=true∧decide ((65:Int)≤(c:Int))=true∧decide ((c:Int)≤90)=true∧65≤c∧c≤90∧b=true)∨
 (decide ((48:Int)≤(c:Int))=true∧decide ((c:Int)≤57)=false∧decide ((97:Int)≤(c:Int))=false∧decide ((c:Int)≤122)=true∧decide ((65:Int)≤(c:Int))=true∧decide ((c:Int)≤90)=false∧91≤c∧c≤96∧b=false)∨
 (decide ((48:Int)≤(c:Int))=true∧decide ((c:Int)≤57)=false∧decide ((97:Int)≤(c:Int))=true∧decide ((c:Int)≤122)=true∧decide ((65:Int)≤(c:Int))=true∧decide ((c:Int)≤90)=false∧97≤c∧c≤122∧b=true)∨
 (decide ((48:Int)≤(c:Int))=true∧decide ((c:Int)≤57)=false∧decide ((97:Int)≤(c:Int))=true∧decide ((c:Int)≤122)=false∧decide ((65:Int)≤(c:Int))=true∧decide ((c:Int)≤90)=false∧123≤c∧c≤255∧b=false):=by
 have h:=x.toNat_lt
 unfold nmC at hb
 rw[←hc] at hb h
 by_cases h0:c≤47
 ·exact .inl ⟨decide_eq_false (by omega),decide_eq_true (by omega),decide_eq_false (by omega),decide_eq_true (by omega),decide_eq_false (by omega),decide_eq_true (by omega),by omega,by omega,by rw[hb];simp;omega⟩
 by_cases h1:c≤57
 ·exact .inr (.inl ⟨decide_eq_true (by omega),decide_eq_true (by omega),decide_eq_false (by omega),decide_eq_true (by omega),decide_eq_false (by omega),decide_eq_true (by omega),by omega,by omega,by rw[hb];simp;omega⟩)
 by_cases h2:c≤64
 ·exact .inr (.inr (.inl ⟨decide_eq_true (by omega),decide_eq_false (by omega),decide_eq_false (by omega),decide_eq_true (by omega),decide_eq_false (by omega),decide_eq_true (by omega),by omega,by omega,by rw[hb];simp;omega⟩))
 by_cases h3:c≤90
 ·exact .inr (.inr (.inr (.inl ⟨decide_eq_true (by omega),decide_eq_false (by omega),decide_eq_false (by omega),decide_eq_true (by omega),decide_eq_true (by omega),decide_eq_true (by omega),by omega,by omega,by rw[hb];simp;omega⟩)))
 by_cases h4:c≤96
 ·exact .inr (.inr (.inr (.inr (.inl ⟨decide_eq_true (by omega),decide_eq_false (by omega),decide_eq_false (by omega),decide_eq_true (by omega),decide_eq_true (by omega),decide_eq_false (by omega),by omega,by omega,by rw[hb];simp;omega⟩))))
 by_cases h5:c≤122
 ·exact .inr (.inr (.inr (.inr (.inr (.inl ⟨decide_eq_true (by omega),decide_eq_false (by omega),decide_eq_true (by omega),decide_eq_true (by omega),decide_eq_true (by omega),decide_eq_false (by omega),by omega,by omega,by rw[hb];simp;omega⟩)))))
 exact .inr (.inr (.inr (.inr (.inr (.inr (⟨decide_eq_true (by omega),decide_eq_false (by omega),decide_eq_true (by omega),decide_eq_false (by omega),decide_eq_true (by omega),decide_eq_false (by omega),by omega,by omega,by rw[hb];simp;omega⟩))))))

def Ow (e:TypeId) (base:Nat) (v:Value) (l:List UInt8) (w:World):Prop:=w.ownsRow base e 1 v l.length (l.map bv)
theorem Ow.rd {e:TypeId} {base:Nat} {v:Value} {l:List UInt8} {w:World} (h:Ow e base v l w):Rd w v l:=Rd.of_row h
theorem Ow.of_new {e:TypeId} {v:Value} {l:List UInt8} {w w':World} (h:New e w v l w'):Ow e w.heap.size v l w':=h.1
theorem Ow.mono {e:TypeId} {base base':Nat} {v:Value} {l:List UInt8} {w:World} (h:Ow e base v l w) (hb:base'≤base):Ow e base' v l w:=own_mono h hb
theorem Ow.kept {e:TypeId} {base:Nat} {v:Value} {l:List UInt8} {w w':World} (h:Ow e base v l w) (hb:Below w.heap.size w w'):Ow e base v l w':=own_chg h (Chg.of_below (S:=fun _=>False) hb) (fun _ _=>id)
theorem Ow.nil (e:TypeId) (base:Nat) (w:World):Ow e base (.slice none 0 0) [] w:=World.ownsRow_nil _ _ _ _
theorem Ow.not_blk {e ty:TypeId} {base g:Nat} {v:Value} {l:List UInt8} {cs:List Value} {w:World} (h:Ow e base v l w) (hb:BlkAt g ty cs w) (hne:e≠ty):v.ownBlock≠some g:=by
 rcases h.2 with ⟨rfl,h0⟩|⟨g',cap,cur,rfl,hb',hg,hn,hm,hs,ht⟩
 ·simp[Value.ownBlock]
 ·intro h
 have h1:g'=g:=by simpa [Value.ownBlock] using h
 subst h1
 unfold BlkAt at hb
 rw[hg] at hb
 simp at hb
 exact hne hb.2
theorem Ow.chg {e ty:TypeId} {base g:Nat} {v:Value} {l:List UInt8} {cs:List Value} {w w':World} (h:Ow e base v l w) (hb:BlkAt g ty cs w) (hne:e≠ty) (c:Chg (fun b=>b=g) w w'):Ow e base v l w':=
 own_chg h c fun b h1 h2=>h.not_blk hb hne (by rw[h1,h2])
theorem Ow.other {e:TypeId} {base g:Nat} {v:Value} {l:List UInt8} {w w':World} (h:Ow e base v l w) (c:Chg (fun b=>b=g) w w') (hg:v.ownBlock≠some g):Ow e base v l w':=
 own_chg h c fun b h1 h2=>hg (by rw[h1,h2])
theorem Ow.lt {e:TypeId} {base:Nat} {v:Value} {l:List UInt8} {w:World} (h:Ow e base v l w) {g:Nat} (hg:v.ownBlock=some g):base≤g∧g<w.heap.size:=World.ownsRow.lt h g hg
def No8 (cs:List Value):Prop:=∀(j:Nat) (x:Int),cs[j]?≠some (.int .u8 x)
theorem Rd.past16 {w w':World} {v:Value} {l:List UInt8} {g:Nat} {ty:TypeId} {cs:List Value} (h:Rd w v l) (hb:BlkAt g ty cs w) (hn:No8 cs) (c:Chg (fun b=>b=g) w w'):Rd w' v l:=by
 obtain⟨a,k,e1,h2,h3,h4,h5⟩:=h
 refine⟨a,k,e1,h2,h3,h4,h5.imp id ?_⟩
 rintro⟨b,off,e2,hc⟩
 refine⟨b,off,e2,fun i hi=>?_⟩
 have h6:=hc i hi
 have hne:b≠g:=by
 rintro rfl
 rw[hb.cell] at h6
 exact hn _ _ h6
 rw[World.cell?_of_block (w:=w) (c.block b (World.block_lt_of_cell? _ _ h6) hne)]
 exact h6
theorem Chg.gone {g B:Nat} {a w w':World} (h:Below B a w) (c:Chg (fun b=>b=g) w w') (hB:B≤w.heap.size) (hg:B≤g):Below B a w':=c.below h hB fun k _ e=>by omega
theorem No8.of_slices {cs:List Value} (h:∀v∈cs,∀x,v≠ .int .u8 x):No8 cs:=fun j x e=>h _ (List.mem_of_getElem? e) x rfl
def stD (vc vh vk:Value) (n:Nat):List Value:=[vc,vh,vk,.int .u64 (n:Int)]
theorem stD_no8 (a1 a2 a3:Option Addr) (l1 c1 l2 c2 l3 c3 n:Nat):No8 (stD (.slice a1 l1 c1) (.slice a2 l2 c2) (.slice a3 l3 c3) n):=No8.of_slices (by
 intro v hv x
 simp only[stD,List.mem_cons,List.not_mem_nil,or_false] at hv
 rcases hv with rfl|rfl|rfl|rfl<;>simp)
end Go.Proofs.YtpgjobpmafbigaaGreatDoor

namespace Go.Proofs.YtpgjobpmafbigaaGreatDoor
set_option linter.unusedSimpArgs false
set_option linter.unusedVariables false

def byF (f:Nat→Nat) (k:Nat):UInt8:=stB (f (k / 8)) (k % 8)
def bsP (f:Nat→Nat) (n:Nat):List UInt8:=(List.range n).map (byF f)
theorem bsP_get (f:Nat→Nat) (n k:Nat) (hk:k<n):(bsP f n).getD k 0=byF f k:=by simp[bsP,hk]

def stF (l:List UInt8) (i:Nat):Nat:=leN ((l.drop (8 * i)).take 8)
theorem stF_lt (l:List UInt8) (i:Nat):stF l i<18446744073709551616:=by
 unfold stF
 exact leN_take_lt _ 8 (Nat.le_refl _)
def xhP (s p:List UInt8) (i K:Nat):List UInt8:=(List.range 200).map fun k=>if k<K then s.getD k 0^^^p.getD (i+k) 0 else s.getD k 0
theorem xhP_length (s p:List UInt8) (i K:Nat):(xhP s p i K).length=200:=by simp[xhP]
def zN (r n:Nat):Nat:=(r - (n+1) % r) % r
def pdP (s:UInt8) (l:List UInt8) (z:Nat):List UInt8:=l++[s]++List.replicate z 0
theorem pdP_length (s:UInt8) (l:List UInt8) (z:Nat):(pdP s l z).length=l.length+1+z:=by simp[pdP];omega
def padL (r:Nat) (s:UInt8) (l:List UInt8):List UInt8:=(pdP s l (zN r l.length)).set (l.length+zN r l.length) ((pdP s l (zN r l.length)).getD (l.length+zN r l.length) 0^^^128)
def blN (r:Nat) (l:List UInt8):Nat:=(l.length+1+zN r l.length) / r
def abN (r:Nat) (p:List UInt8):Nat→Nat→Nat
 |0=>fun _=>0
 |b+1=>rdsF (stF (xhP (bsP (abN r p b) 200) p (b * r) r)) 24
def abF (r:Int) (s:UInt8) (l:List UInt8):Nat→Nat:=if 1≤r∧r≤200 then abN r.toNat (padL r.toNat s l) (blN r.toNat l) else fun _=>0

def itF (f:Nat→Nat):Nat→Nat→Nat
 |0=>f
 |t+1=>rdsF (itF f t) 24
def smF (f:Nat→Nat) (r k:Nat):UInt8:=byF (itF f (k / r)) (k % r)
def otL (f:Nat→Nat) (r n:Nat):List UInt8:=(List.range n).map (smF f r)
theorem otL_length (f:Nat→Nat) (r n:Nat):(otL f r n).length=n:=by simp[otL]
theorem itF_lt (f:Nat→Nat) (hf:∀i,f i<18446744073709551616):∀t k,itF f t k<18446744073709551616
 |0,k=>hf k
 |t+1,k=>rdsF_lt _ (itF_lt f hf t) 24 k
theorem abN_lt (r:Nat) (p:List UInt8):∀b k,abN r p b k<18446744073709551616
 |0,_=>by simp[abN]
 |b+1,k=>rdsF_lt _ (stF_lt _) 24 k
theorem abF_lt (R:Int) (s:UInt8) (l:List UInt8) (k:Nat):abF R s l k<18446744073709551616:=by
 unfold abF
 split
 ·exact abN_lt _ _ _ k
 ·show 0<_
 decide
theorem leN_cons (x:UInt8) (l:List UInt8):leN (x :: l)=x.toNat+256 * leN l:=rfl
def xbl (blk:Nat→UInt8) (r j:Nat):Nat:=leN ((List.range 8).map fun t=>if 8 * j+t<r then blk (8 * j+t) else 0)
theorem xbl_lt (blk:Nat→UInt8) (r j:Nat):xbl blk r j<18446744073709551616:=by
 have h:=leN_lt ((List.range 8).map fun t=>if 8 * j+t<r then blk (8 * j+t) else 0)
 have e:(256:Nat) ^ ((List.range 8).map fun t=>if 8 * j+t<r then blk (8 * j+t) else 0).length=18446744073709551616:=by
 rw[List.length_map,List.length_range]
 rw[e] at h
 exact h
theorem xbl_congr {b1 b2:Nat→UInt8} (r j:Nat) (h:∀k,k<r→b1 k=b2 k):xbl b1 r j=xbl b2 r j:=by
 unfold xbl
 congr 1
 refine List.map_congr_left fun t _=>?_
 by_cases e:8 * j+t<r
 ·rw[if_pos e,if_pos e,h _ e]
 ·rw[if_neg e,if_neg e]
theorem stF_xor (f:Nat→Nat) (hf:∀i,f i<18446744073709551616) (p:List UInt8) (i r j:Nat) (hj:j<25):
 stF (xhP (bsP f 200) p i r) j=f j^^^xbl (fun k=>p.getD (i+k) 0) r j:=by
 have e1:((xhP (bsP f 200) p i r).drop (8 * j)).take 8=List.zipWith (· ^^^ ·) ((List.range 8).map (stB (f j))) ((List.range 8).map fun t=>if 8 * j+t<r then p.getD (i+(8 * j+t)) 0 else 0):=by
 refine List.ext_getElem (by simp[xhP_length];omega) fun t h1 h2=>?_
 have ht:t<8:=by simp at h1;omega
 have hk:8 * j+t<200:=by omega
 have e2:byF f (8 * j+t)=stB (f j) t:=by
  unfold byF
  rw[show(8 * j+t) / 8=j by omega,show(8 * j+t) % 8=t by omega]
 simp only[List.getElem_take,List.getElem_drop,xhP,List.getElem_map,List.getElem_range,List.getElem_zipWith]
 rw[bsP_get f 200 _ hk,e2]
 split
 ·rfl
 ·simp
 unfold stF
 have h8:f j<256 ^ 8:=hf j
 rw[e1,leN_xor _ _ (by simp),leN_stB,Nat.mod_eq_of_lt h8]
 rfl

def lasB (r:Nat) (s:UInt8) (l:List UInt8) (k:Nat):UInt8:=
 (if k<l.length % r then l.getD (l.length / r * r+k) 0 else if k=l.length % r then s else 0)^^^(if k=r - 1 then 128 else 0)
theorem zN_eq (r n:Nat) (hr:0<r):zN r n=r - 1 - n % r:=by
 unfold zN
 have h1:n % r<r:=Nat.mod_lt _ hr
 have h2:=Nat.div_add_mod n r
 have h3:n+1=r * (n / r)+(n % r+1):=by omega
 rw[h3,Nat.mul_add_mod]
 by_cases h:n % r+1=r
 ·rw[h,Nat.mod_self,Nat.sub_zero,Nat.mod_self]
 omega
 ·rw[Nat.mod_eq_of_lt (by omega:n % r+1<r),Nat.mod_eq_of_lt (by omega)]
 omega
theorem blN_eq (r:Nat) (l:List UInt8) (hr:0<r):blN r l=l.length / r+1:=by
 unfold blN
 rw[zN_eq r _ hr]
 have h1:l.length % r<r:=Nat.mod_lt _ hr
 have h2:=Nat.div_add_mod l.length r
 have h3:l.length+1+(r - 1 - l.length % r)=r * (l.length / r+1):=by rw[Nat.mul_add,Nat.mul_one];omega
 rw[h3,Nat.mul_div_cancel_left _ hr]
theorem pdP_get (s:UInt8) (l:List UInt8) (z k:Nat):(pdP s l z).getD k 0=if k<l.length then l.getD k 0 else if k=l.length then s else 0:=by
 unfold pdP
 by_cases h:k<l.length
 ·rw[if_pos h]
 simp[List.getElem?_append,h,show k<l.length+1 by omega]
 ·rw[if_neg h]
 by_cases h2:k=l.length
 ·subst h2
  simp[List.getElem?_append]
 ·rw[if_neg h2]
  have h3:¬k<l.length+1:=by omega
  obtain⟨d,hd⟩:∃d,k - l.length=d+1:=⟨k - l.length - 1,by omega⟩
  by_cases h4:d<z
  ·simp[List.getElem?_append,h,hd,List.getElem?_replicate,h4]
  ·simp[List.getElem?_append,h,hd,List.getElem?_replicate,h4]
theorem padL_get (r:Nat) (s:UInt8) (l:List UInt8) (k:Nat) (hk:k<l.length+1+zN r l.length):
 (padL r s l).getD k 0=(if k<l.length then l.getD k 0 else if k=l.length then s else 0)^^^(if k=l.length+zN r l.length then 128 else 0):=by
 unfold padL
 rw[←pdP_get s l (zN r l.length)]
 have hlen:=pdP_length s l (zN r l.length)
 by_cases e:k=l.length+zN r l.length
 ·rw[if_pos e,←e]
 have h1:k<(pdP s l (zN r l.length)).length:=by omega
 simp[List.getElem?_set,h1]
 ·rw[if_neg e]
 simp[List.getElem?_set,Ne.symm e]
theorem pad_full (r:Nat) (s:UInt8) (l:List UInt8) (hr:0<r) (b k:Nat) (hb:b<l.length / r) (hk:k<r):(padL r s l).getD (b * r+k) 0=l.getD (b * r+k) 0:=by
 have h1:(b+1) * r≤l.length / r * r:=Nat.mul_le_mul_right r hb
 have h2:=Nat.div_mul_le_self l.length r
 rw[Nat.add_mul,Nat.one_mul] at h1
 rw[padL_get r s l _ (by omega),if_pos (by omega),if_neg (by omega)]
 simp
theorem pad_last (r:Nat) (s:UInt8) (l:List UInt8) (hr:0<r) (k:Nat) (hk:k<r):(padL r s l).getD (l.length / r * r+k) 0=lasB r s l k:=by
 have h0:=Nat.div_add_mod l.length r
 rw[Nat.mul_comm] at h0
 have h1:l.length % r<r:=Nat.mod_lt _ hr
 have hz:=zN_eq r l.length hr
 rw[padL_get r s l _ (by omega)]
 unfold lasB
 have c1:(l.length / r * r+k<l.length)↔k<l.length % r:=by omega
 have c2:(l.length / r * r+k=l.length)↔k=l.length % r:=by omega
 have c3:(l.length / r * r+k=l.length+zN r l.length)↔k=r - 1:=by omega
 simp only[c1,c2,c3]
def tkF (f:Nat→Nat) (blk:Nat→UInt8) (r:Nat):Nat→Nat:=rdsF (fun j=>f j^^^xbl blk r j) 24
theorem abN_tk (r:Nat) (p:List UInt8) (b:Nat) (k:Nat) (hk:k<25):abN r p (b+1) k=tkF (abN r p b) (fun t=>p.getD (b * r+t) 0) r k:=by
 show rdsF (stF (xhP (bsP (abN r p b) 200) p (b * r) r)) 24 k=_
 have hlt:∀b k,abN r p b k<18446744073709551616:=by
 intro b
 cases b with
 |zero=>intro k;simp[abN]
 |succ b=>intro k;exact rdsF_lt _ (stF_lt _) 24 k
 exact rdsF_congr (fun j hj=>stF_xor _ (hlt b) p (b * r) r j hj) 24 k hk
theorem tkF_congr {f g:Nat→Nat} {b1 b2:Nat→UInt8} (r:Nat) (h:∀j,j<25→f j=g j) (hb:∀k,k<r→b1 k=b2 k) (k:Nat) (hk:k<25):tkF f b1 r k=tkF g b2 r k:=
 rdsF_congr (fun j hj=>by rw[h j hj,xbl_congr r j hb]) 24 k hk
def fuN (r:Nat) (l:List UInt8):Nat→Nat→Nat
 |0=>fun _=>0
 |b+1=>tkF (fuN r l b) (fun t=>l.getD (b * r+t) 0) r
theorem fuN_eq (r:Nat) (s:UInt8) (l:List UInt8) (hr:0<r):∀b,b≤l.length / r→∀k,k<25→abN r (padL r s l) b k=fuN r l b k
 |0,_,_,_=>rfl
 |b+1,hb,k,hk=>(abN_tk r _ b k hk).trans (tkF_congr r (fuN_eq r s l hr b (by omega)) (fun t ht=>pad_full r s l hr b t (by omega) ht) k hk)
theorem abs_eq (r:Nat) (s:UInt8) (l:List UInt8) (hr:0<r) (k:Nat) (hk:k<25):abN r (padL r s l) (blN r l) k=tkF (fuN r l (l.length / r)) (lasB r s l) r k:=by
 rw[blN_eq r l hr]
 exact(abN_tk r _ _ k hk).trans (tkF_congr r (fuN_eq r s l hr _ (Nat.le_refl _)) (fun t ht=>pad_last r s l hr t ht) k hk)
theorem fuN_lt (r:Nat) (l:List UInt8):∀b k,fuN r l b k<18446744073709551616
 |0,_=>by simp[fuN]
 |b+1,k=>rdsF_lt _ (fun j=>xor_lt64 (fuN_lt r l b j) (xbl_lt _ _ _)) 24 k

def s2L (l:List UInt8):List UInt8:=otL (abF 136 6 l) 136 32
theorem s2L_length (l:List UInt8):(s2L l).length=32:=otL_length _ _ _
def kyS (k:List UInt8):List UInt8:=if 136<k.length then s2L k else k
def kyL (k:List UInt8):List UInt8:=kyS k++List.replicate (136 - (kyS k).length) 0
def mxP (K:List UInt8) (c:UInt8) (j:Nat):List UInt8:=(List.range j).map fun t=>K.getD t 0^^^c
def mcF (k b:List UInt8):List UInt8:=s2L (mxP (kyL k) 92 136++s2L (mxP (kyL k) 54 136++b))
theorem mcF_length (k b:List UInt8):(mcF k b).length=32:=s2L_length _
def k1F (ck b:List UInt8):List UInt8:=mcF (mcF ck b) [1]
def k2F (ck b:List UInt8):List UInt8:=mcF (mcF ck b) (k1F ck b++[2])
def k3F (ck b:List UInt8):List UInt8:=mcF (mcF ck b) (k2F ck b++[3])
structure Cph where
 key:List UInt8
 n:Nat
structure Sta where
 ck:List UInt8
 h:List UInt8
 c:Cph
def ncL (n:Nat):List UInt8:=List.replicate 4 0++st8 n
def opQ (k n a s:List UInt8):List UInt8×Int:=
 if s.length<16 then ([],13) else if tgL k n a (s.take (s.length - 16))=s.drop (s.length - 16) then (smL k 1 n (s.take (s.length - 16)),0) else ([],10)
def seC (c:Cph) (ad t:List UInt8):Cph×List UInt8×Int:=
 if c.key.length=0 then (c,t,0) else if c.key.length≠32 then (c,[],1) else if c.n=18446744073709551615 then (c,[],31) else (⟨c.key,c.n+1⟩,seL c.key (ncL c.n) ad t,0)
def opC (c:Cph) (ad s:List UInt8):Cph×List UInt8×Int:=
 if c.key.length=0 then (c,s,0) else if c.key.length≠32 then (c,[],1) else if c.n=18446744073709551615 then (c,[],31)
 else if (opQ c.key (ncL c.n) ad s).2=0 then (⟨c.key,c.n+1⟩,(opQ c.key (ncL c.n) ad s).1,0) else (c,[],(opQ c.key (ncL c.n) ad s).2)
def nwH (s:List UInt8):List UInt8:=if 32<s.length then s2L s else s++List.replicate (32 - s.length) 0
def nwS (s:List UInt8):Sta:=⟨nwH s,nwH s,⟨[],0⟩⟩
def mhS (s:Sta) (b:List UInt8):Sta:=⟨s.ck,s2L (s.h++b),s.c⟩
def mkS (s:Sta) (i:List UInt8):Sta:=⟨k1F s.ck i,s.h,⟨k2F s.ck i,0⟩⟩
def mbS (s:Sta) (i:List UInt8):Sta:=⟨k1F s.ck i,s2L (s.h++k2F s.ck i),⟨k3F s.ck i,0⟩⟩
def seS (s:Sta) (t:List UInt8):Sta×List UInt8×Int:=if (seC s.c s.h t).2.2=0 then (⟨s.ck,s2L (s.h++(seC s.c s.h t).2.1),(seC s.c s.h t).1⟩,(seC s.c s.h t).2.1,0) else (s,[],(seC s.c s.h t).2.2)
def opS (s:Sta) (b:List UInt8):Sta×List UInt8×Int:=if (opC s.c s.h b).2.2=0 then (⟨s.ck,s2L (s.h++b),(opC s.c s.h b).1⟩,(opC s.c s.h b).2.1,0) else (s,[],(opC s.c s.h b).2.2)
end Go.Proofs.YtpgjobpmafbigaaGreatDoor

namespace Go.Proofs.YtpgjobpmafbigaaGreatDoor
open Go.ChangeShapes Go.WideShapes Go.ChangeAt Go.RowKit
set_option linter.unusedSimpArgs false
set_option linter.unusedVariables false

def KpT (w:World):Prop:=∀i,i<16→w.cell? ⟨9,i,none⟩=some (.int .u8 ((kpL.getD i 0:Nat):Int))
theorem KpT.kept {w w':World} (h:KpT w) (hb:Below w.heap.size w w'):KpT w':=fun i hi=>by
 rw[hb.cell (p:=⟨9,i,none⟩) (World.block_lt_of_cell? w _ (h i hi))]
 exact h i hi
theorem Rd.cells {w:World} {v:Value} {l:List UInt8} (h:Rd w v l) (hl:0<l.length):∃b off cap,v=.slice (some ⟨b,off,none⟩) l.length cap∧l.length≤cap∧cap≤maxLen∧∀i,i<l.length→w.cell? ⟨b,off+i,none⟩=some (.int .u8 ((l.getD i 0).toNat:Int)):=by
 obtain⟨a,cap,e,h2,h3,h4,h5⟩:=h
 rcases h5 with h5|⟨b,off,ha,hc⟩
 ·rw[h5] at hl
 simp at hl
 ·subst ha
 exact⟨b,off,cap,e,h2,h3,hc⟩

end Go.Proofs.YtpgjobpmafbigaaGreatDoor

namespace Go.Proofs
open Go.Shelf
open Go.RowKit in
theorem Tryz.strings_TrimRight_one (s:ByteArray) (c:UInt8) (hc:c.toNat<128) (w:World) (hs:s.size≤9223372036854775807):
 Calls Tryz.prog 129 #[.string s,.string ⟨#[c]⟩] w fun e w'=>e=.returned (.string ⟨(Lib.trimRightB s.data.toList c).toArray⟩)∧w'=w:=Any.strings_TrimRight_one Tryz.lays162 s c hc w hs
open Go.RowKit in
theorem Tryz.strings_Trim_one (s:ByteArray) (c:UInt8) (hc:c.toNat<128) (w:World) (hs:s.size≤9223372036854775807):
 Calls Tryz.prog 88 #[.string s,.string ⟨#[c]⟩] w fun e w'=>e=.returned (.string ⟨(Lib.trimB s.data.toList c).toArray⟩)∧(w'=w∨w'=w.drew):=Any.strings_Trim_one Tryz.lays160 s c hc w hs
open Go.RowKit in
theorem Tryz.strings_CutPrefix (s p:ByteArray) (w:World):
 Calls Tryz.prog 290 #[.string s,.string p] w fun e w'=>e=.returned (.tuple #[.string ⟨(Lib.trimPrefix s.data.toList p.data.toList).toArray⟩,.bool (Lib.hasPrefix s.data.toList p.data.toList)])∧w'=w:=Any.strings_CutPrefix Tryz.lays103 s p w
open Go.RowKit in
theorem Tryz.strings_CutSuffix (s p:ByteArray) (w:World) (hs:s.size≤9223372036854775807):
 Calls Tryz.prog 127 #[.string s,.string p] w fun e w'=>e=.returned (.tuple #[.string ⟨(Lib.trimSuffix s.data.toList p.data.toList).toArray⟩,.bool (Lib.hasSuffix s.data.toList p.data.toList)])∧w'=w:=Any.strings_CutSuffix Tryz.lays104 s p w hs
open Go.RowKit in
theorem Tryz.stringslite_Clone (s:ByteArray) (w:World) (hlim:s.size≤281474976710656):
 Calls Tryz.prog 210 #[.string s] w fun e w'=>e=.returned (.string s)∧Below w.heap.size w w':=Any.stringslite_Clone Tryz.laysM316 s w hlim
open Go.RowKit Go.Lib in
theorem Tryz.strings_Split (s sep:ByteArray) (m:Int) (w:World) (hs:s.size<4294967281) (hm:w.cell? ⟨3,0,none⟩=some (.int .i64 m)) (h1:1≤sep.size):
 Calls Tryz.prog 87 #[.string s,.string sep] w fun e w'=>
  e=.returned (.slice (some ⟨w.heap.size,0,none⟩) (Lib.countB s sep+1) (Lib.countB s sep+1))∧w'=w.alloc (.cells ((Lib.splitB sep 0 (Lib.countB s sep) s).map Value.string).toArray 9):=Any.strings_Split Tryz.lays146 (by kernel_rfl) s sep m w hs hm h1
open Go.Lib in
theorem Tryz.slices_Index_string (b off n c:Nat) (zs:List ByteArray) (x:ByteArray) (w:World) (hz:n≤zs.length) (hbig:n≤9223372036854775807) (hc:∀j,j<zs.length→w.cell? ⟨b,off+j,none⟩=some (.string (zs.getD j ByteArray.empty))):
 Calls Tryz.prog 130 #[.slice (some ⟨b,off,none⟩) n c,.string x] w fun e w'=>e=.returned (.int .i64 (Lib.idxOfS (zs.take n) x))∧w'=w:=Any.slices_Index_string Tryz.lays109 b off n c zs x w hz hbig hc
open Go.Lib in
theorem Tryz.slices_Index_string_empty (a:Option Addr) (c:Nat) (x:ByteArray) (w:World):
 Calls Tryz.prog 130 #[.slice a 0 c,.string x] w fun e w'=>e=.returned (.int .i64 (Lib.idxOfS [] x))∧w'=w:=Any.slices_Index_string_empty Tryz.lays109 a c x w
end Go.Proofs

namespace Go.Proofs.YtpgjobpmafbigaaGreatDoor
open Go.ChangeShapes Go.WideShapes Go.ChangeAt Go.RowKit
set_option linter.unusedSimpArgs false
set_option linter.unusedVariables false

set_option maxHeartbeats 1000000 in
theorem fits_any (n m:Int) (w:World):
 Calls Tryz.prog 134 #[.int .i64 n,.int .i64 m] w fun e w'=>e=.returned (.bool (decide (1≤n)&&decide (n≤m)))∧w'=w:=by
 by_cases h1:1≤n
 ·have d1:decide ((1:Int)≤n)=true:=decide_eq_true h1
 go_enter Tryz.func134,Tryz.ntmps134
 go_wp2
 go_ret
 exact⟨by rw[d1];simp,rfl⟩
 ·have d1:decide ((1:Int)≤n)=false:=decide_eq_false h1
 have d2:n<1:=by omega
 go_enter Tryz.func134,Tryz.ntmps134
 go_wp2
 go_ret
 exact⟨by first|rfl|(rw[d1];rfl),rfl⟩

set_option maxHeartbeats 2000000 in
theorem isSign_any (x:UInt8) (C:Int) (hC:C=((x.toNat:Nat):Int)) (w:World):
 Calls Tryz.prog 213 #[.int .u8 C] w fun e w'=>e=.returned (.bool (nmC x))∧w'=w:=by
 obtain⟨c,hc⟩:∃c:Nat,c=x.toNat:=⟨_,rfl⟩
 obtain⟨b,hb⟩:∃b:Bool,b=nmC x:=⟨_,rfl⟩
 have hcs:=nm_facts _ c b hc hb
 rw[←hc] at hC
 have HB:Hid (b=nmC x):=hb
 clear hb hc
 subst hC
 rcases hcs with ⟨p1,p2,p3,p4,p5,p6,p7,p8,hb⟩|⟨p1,p2,p3,p4,p5,p6,p7,p8,hb⟩|⟨p1,p2,p3,p4,p5,p6,p7,p8,hb⟩|⟨p1,p2,p3,p4,p5,p6,p7,p8,hb⟩|⟨p1,p2,p3,p4,p5,p6,p7,p8,hb⟩|⟨p1,p2,p3,p4,p5,p6,p7,p8,hb⟩|⟨p1,p2,p3,p4,p5,p6,p7,p8,hb⟩
 all_goals
 subst hb
 go_enter Tryz.func213,Tryz.ntmps213
 go_wp2
 go_ret
 exact⟨by rw[←HB.out];rfl,rfl⟩

set_option maxHeartbeats 4000000 in
theorem isName_any (s:List UInt8) (hs:s.length≤maxLen) (w:World):
 Calls Tryz.prog 133 #[.string ⟨s.toArray⟩] w fun e w'=>e=.returned (.bool (nmB s))∧w'=w:=by
 unfold maxLen at hs
 obtain⟨L,hL⟩:∃L:Nat,L=s.length:=⟨_,rfl⟩
 have HL:Hid (L=s.length):=hL
 have hsz:ByteArray.size ⟨s.toArray⟩=L:=by rw[hL];rfl
 have hLb:L≤9223372036854775807:=by omega
 have HA:Hid (∀i,i<L→∀w:World,(Instr.index 9 (.string ⟨s.toArray⟩) (.int .i64 (i:Int))).run Tryz.prog w=.ok (.int .u8 ((s.getD i 0).toNat:Int)) w):=by
 show ∀i,_
 intro i hi w
 exact str_at s i (by omega) w
 generalize hS:(⟨s.toArray⟩:ByteArray)=S at hsz HA
 have HB:Hid (nmB s=(decide (1≤(L:Int))&&decide ((L:Int)≤32)&&s.all nmC)):=by
 show _=_
 unfold nmB
 rw[←hL]
 have e1:decide (1≤L)=decide (1≤(L:Int)):=by by_cases h:1≤L<;>simp[h]<;>omega
 have e2:decide (L≤32)=decide ((L:Int)≤32):=by by_cases h:L≤32<;>simp[h]<;>omega
 rw[e1,e2]
 clear hL hs hS
 go_enter Tryz.func133,Tryz.ntmps133
 go_wp2_with fail
 refine(fits_any _ _ _).mono ?_
 rintro e w1 ⟨rfl,rfl⟩
 obtain⟨f,hf⟩:∃f:Bool,f=(decide (1≤(L:Int))&&decide ((L:Int)≤32)):=⟨_,rfl⟩
 rw[←hf]
 rw[←hf] at HB
 clear hf
 cases f with
 |false=>
 go_wp2
 go_ret
 exact⟨by rw[HB.out];rfl,rfl⟩
 |true=>
 go_wp2
 go_loop [10] (fun iv=>∃i:Nat,i≤L∧iv=.int .i64 (i:Int)∧Hid (∀k,k<i→nmC (s.getD k 0)=true)) (fun iv=>L - (intOf iv).toNat)
 case atStart=>exact⟨0,by omega,rfl,(by show ∀k,_;intro k hk;omega)⟩
 case round=>
  obtain⟨i,hi,rfl,HI⟩:=hrel
  by_cases hlt:i<L
  ·have hd:decide ((i:Int)<(L:Int))=true:=decide_eq_true (by omega)
  have hiI:(i:Int)<(L:Int):=by omega
  have ha:=HA.out i hlt
  obtain⟨x,hx⟩:∃x:UInt8,x=s.getD i 0:=⟨_,rfl⟩
  rw[←hx] at ha
  have HX:Hid (x=s.getD i 0):=hx
  clear hx
  go_wp2_with fail
  refine(isSign_any x _ rfl _).mono ?_
  rintro e w1 ⟨rfl,rfl⟩
  obtain⟨b,hb⟩:∃b:Bool,b=nmC x:=⟨_,rfl⟩
  rw[←hb]
  have HC:Hid (b=nmC x):=hb
  clear hb
  cases b with
  |true=>
   go_wp2
   go_round
   case rel=>exact⟨i+1,by omega,by go_num,(by show ∀k,_;intro k hk;rcases Nat.lt_or_ge k i with h|h;exact HI.out k h;rw[show k=i by omega,←HX.out];exact HC.out.symm)⟩
   case measure=>simp[intOf]<;>omega
  |false=>
   have HF:Hid (nmB s=false):=by
   show _=_
   rw[HB.out]
   have:s.all nmC=false:=by
    rw[List.all_eq_false]
    refine⟨s.getD i 0,?_,by rw[←HX.out,←HC.out];simp⟩
    have h2:i<s.length:=by rw[←HL.out];exact hlt
    simp[h2]
   rw[this]
   rfl
   go_wp2
   go_ret
   exact⟨by rw[HF.out];rfl,rfl⟩
  ·have hd:decide ((i:Int)<(L:Int))=false:=decide_eq_false (by omega)
  have hiI:(L:Int)≤(i:Int):=by omega
  have HT:Hid (nmB s=true):=by
   show _=_
   have h2:s.all nmC=true:=by
   rw[List.all_eq_true]
   intro x hx
   obtain⟨k,hk,rfl⟩:=List.mem_iff_getElem.1 hx
   have:=HI.out k (by have:=HL.out;omega)
   simpa [hk] using this
   rw[HB.out,h2]
   rfl
  go_wp2
  go_ret
  exact⟨by rw[HT.out];rfl,rfl⟩

theorem wrM_eq (t:List Int):wrM t=(decide (1≤((t.length:Nat):Int))&&decide (((t.length:Nat):Int)≤12)&&t.all tkB):=by
 unfold wrM
 have e1:decide (1≤t.length)=decide (1≤(t.length:Int)):=by by_cases h:1≤t.length<;>simp[h]<;>omega
 have e2:decide (t.length≤12)=decide ((t.length:Int)≤12):=by by_cases h:t.length≤12<;>simp[h]<;>omega
 rw[e1,e2]
theorem tk_cases (x:Int):(decide (x<1)=true∧x<1∧tkB x=false)∨(decide (x<1)=false∧1≤x∧decide (10<x)=true∧10<x∧tkB x=false)∨(decide (x<1)=false∧1≤x∧decide (10<x)=false∧x≤10∧tkB x=true):=by
 unfold tkB
 by_cases h1:x<1
 ·exact .inl ⟨decide_eq_true h1,h1,by rw[decide_eq_false (by omega)];rfl⟩
 ·by_cases h2:10<x
 ·exact .inr (.inl ⟨decide_eq_false h1,by omega,decide_eq_true h2,h2,by rw[decide_eq_false (by omega:¬x≤10)];simp⟩)
 ·exact .inr (.inr ⟨decide_eq_false h1,by omega,decide_eq_false h2,by omega,by rw[decide_eq_true (by omega),decide_eq_true (by omega)];rfl⟩)

set_option maxRecDepth 100000 in
set_option maxHeartbeats 4000000 in
theorem wrMsg_any (b:Bool) (v:Value) (t:List Int) (A:Array Value) (hA:A=#[.bool b,v]) (w:World) (h:RdI .i64 w v t):
 Calls Tryz.prog 135 #[.agg A] w fun e w'=>e=.returned (.bool (wrM t))∧Below w.heap.size w w':=by
 obtain⟨a,c,rfl,h1,h2, -, -⟩:=id h
 unfold maxLen at h2
 obtain⟨M,hM⟩:∃M:Nat,M=t.length:=⟨_,rfl⟩
 have HR:Hid (RdI .i64 w (.slice a M c) t):=by rw[hM];exact h
 rw[←hM] at h1 hA
 have HM:Hid (M=t.length):=hM
 have HW:Hid (wrM t=(decide (1≤(M:Int))&&decide ((M:Int)≤12)&&t.all tkB)):=by show _=_;rw[wrM_eq,hM]
 clear h hM
 go_enter Tryz.func135,Tryz.ntmps135
 go_wp2_with (refine wpList_box_blk rfl 74 _ rfl [.bool b,.slice a M c] (by rw[←hA];rfl) ?_)
 intro w1 r1 b1 s1
 have c1:w1.cell? ⟨w.heap.size,1,none⟩=some (.slice a M c):=r1.cell 1
 have HR1:Hid (RdI .i64 w1 (.slice a M c) t):=HR.out.kept b1
 have hbw:=b1
 clear r1 b1 s1 hA
 go_wp2_with fail
 refine(fits_any _ _ _).mono ?_
 rintro e w2 ⟨rfl,rfl⟩
 obtain⟨f,hf⟩:∃f:Bool,f=(decide (1≤(M:Int))&&decide ((M:Int)≤12)):=⟨_,rfl⟩
 rw[←hf]
 rw[←hf] at HW
 clear hf
 cases f with
 |false=>
 go_wp2
 go_ret
 exact⟨by rw[HW.out];rfl,hbw⟩
 |true=>
 go_wp2
 go_loop [13] (fun iv=>∃i:Nat,i≤M∧iv=.int .i64 (i:Int)∧Hid (∀k,k<i→tkB (t.getD k 0)=true)) (fun iv=>M - (intOf iv).toNat)
 case atStart=>exact⟨0,by omega,rfl,(by show ∀k,_;intro k hk;omega)⟩
 case round=>
  obtain⟨j,hj,rfl,HJ⟩:=hrel
  by_cases hltj:j<M
  ·have hdj:decide ((j:Int)<(M:Int))=true:=decide_eq_true (by omega)
  have hjI:(j:Int)<(M:Int):=by omega
  obtain⟨gr,or,c',ev, -,hcj, -⟩:=HR1.out.cellAt (i:=j) (by rw[←HM.out];exact hltj)
  simp only[Value.slice.injEq] at ev
  obtain⟨rfl, -,rfl⟩:=ev
  obtain⟨x,hx⟩:∃x:Int,x=t.getD j 0:=⟨_,rfl⟩
  rw[←hx] at hcj
  have HX:Hid (x=t.getD j 0):=hx
  have HF:Hid (tkB x=false→wrM t=false):=fun e=>wrM_false (j:=j) (by rw[←HM.out];exact hltj) (by rw[←HX.out];exact e)
  clear hx
  rcases tk_cases x with ⟨q1,q2,hf⟩|⟨q1,q2,q3,q4,hf⟩|⟨q1,q2,q3,q4,hf⟩
  ·have HF:Hid (wrM t=false):=HF.out hf
   clear hf
   go_wp2
   go_ret
   exact⟨by rw[HF.out];rfl,hbw⟩
  ·have HF:Hid (wrM t=false):=HF.out hf
   clear hf
   go_wp2
   go_ret
   exact⟨by rw[HF.out];rfl,hbw⟩
  ·have HO:Hid (tkB x=true):=hf
   clear hf
   go_wp2
   go_round
   case rel=>exact⟨j+1,by omega,by go_num,(by show ∀k,_;intro k hk;rcases Nat.lt_or_ge k j with h|h;exact HJ.out k h;rw[show k=j by omega,←HX.out];exact HO.out)⟩
   case measure=>simp[intOf]<;>omega
  ·have hdj:decide ((j:Int)<(M:Int))=false:=decide_eq_false (by omega)
  have hjI:(M:Int)≤(j:Int):=by omega
  have HO:Hid (wrM t=true):=by
   show _=_
   have h2:t.all tkB=true:=by
   rw[List.all_eq_true]
   intro x hx
   obtain⟨k,hk,rfl⟩:=List.mem_iff_getElem.1 hx
   have:=HJ.out k (by have:=HM.out;omega)
   simpa [hk] using this
   rw[HW.out,h2]
   rfl
  go_wp2
  go_ret
  exact⟨by rw[HO.out];rfl,hbw⟩

theorem wpList_loadG {P:Program} {ops:Array Oper} {rest:List Oper} {op:Oper} {a:Act} {w:World} {Q:Exit→Act→World→Prop} (ty:TypeId) (x:Operand) (ho:op.op=.load ty x) {g:Nat} (hx:a.eval x=.pointer (some ⟨g,0,none⟩))
 {bt:TypeId} (cs:List Value) (hb:BlkAt g bt cs w) {d:TypeDesc} (hu:P.underlying ty=some d) (hd:d.isRow=true) (hi:(P.info? ty).map (·.size)=some cs.length) (hw:Region.wanted op (yielded ops a.tmps)=true)
 (h:wpList P ops Q rest (a.put op.dst (.agg cs.toArray)) w):wpList P ops Q (op :: rest) a w:=by
 refine wpList_step fun K hK=>?_
 rw[if_pos hw]
 unfold Oper.wp
 rw[exec_load_part ty x ho hx [] cs [] hb (Below.refl _ _) (by simp) rfl hu hd hi]
 exact hK _ _ h

theorem cellKP {w W:World} {p:Addr} {v:Value} (h:w.cell? p=some v) (hb:Below w.heap.size w W):W.cell? p=some v:=by
 rw[hb.cell (World.block_lt_of_cell? _ _ h)]
 exact h
theorem infoMsg:(Tryz.prog.info? 74).map (·.size)=some 2:=by kernel_rfl
theorem allocMsg (w:World):(Instr.alloc 74 true (.tuple #[])).run Tryz.prog w=.ok (.pointer (some ⟨w.heap.size,0,none⟩)) (w.alloc (.cells #[.bool false,.slice none 0 0] 74)):=by kernel_rfl
theorem range_two {w:World} {b o:Nat} {u v:Value} (h0:w.cell? ⟨b,o,none⟩=some u) (h1:w.cell? ⟨b,o+1,none⟩=some v):w.rangeAt b o [u,v]:=by
 intro j x hj
 match j,hj with
 |0,hj=>simp at hj;subst hj;exact h0
 |1,hj=>simp at hj;subst hj;exact h1
theorem ms_at {w:World} {a:Option Addr} {n c:Nat} {p:Ptn} (h:MsR w (.slice a n c) p) {k:Nat} (hk:k<p.n):∃b off a' c',a=some ⟨b,off,none⟩∧w.cell? ⟨b,off+k * 2,none⟩=some (.bool (p.ini k))∧w.cell? ⟨b,off+k * 2+1,none⟩=some (.slice a' (p.tk k).length c')∧RdI .i64 w (.slice a' (p.tk k).length c') (p.tk k)∧(p.tk k).length≤c'∧c'≤maxLen:=by
 obtain⟨a',cap',ev, -, -,h5⟩:=h.form
 simp only[Value.slice.injEq] at ev
 obtain⟨rfl, -,rfl⟩:=ev
 rcases h5 with h5|⟨b,off,rfl,hc⟩
 ·omega
 obtain⟨vt,g1,g2,g3⟩:=hc k hk
 obtain⟨at',ct,rfl,hv2,hv3, -, -⟩:=id g3
 rw[show off+(2 * k+1)=off+k * 2+1 by omega] at g2
 rw[show off+2 * k=off+k * 2 by omega] at g1
 exact⟨b,off,at',ct,rfl,g1,g2,g3,hv2,hv3⟩
theorem infoStr:(Tryz.prog.info? 9).map (fun i=>(i.zero,i.size,i.bytes))=some (some (.string ⟨#[]⟩),1,16):=by kernel_rfl

def stC (ls:List (List UInt8)):List Value:=ls.map fun l=>Value.string ⟨l.toArray⟩

theorem stC_next (ls:List (List UInt8)) (l:List UInt8):stC ls++[Value.string ⟨l.toArray⟩]=stC (ls++[l]):=by simp[stC]

abbrev Rw.st (v:Value) (ls:List (List UInt8)):Rw:=⟨9,1,v,ls.length,stC ls⟩

theorem news1 {w:World} {e:TypeId} (u:Value) {b:Nat} (hb:b=w.heap.size):∀j x,[u][j]?=some x→(w.alloc (.cells #[u] e)).cell? ((⟨b,0,none⟩:Addr).add j)=some x:=by
 subst hb
 intro j x h
 cases j with
 |zero=>
 simp at h
 subst h
 have hh:(w.alloc (.cells #[u] e)).heap[w.heap.size]?=some (.cells #[u] e):=by
  show(w.heap.push _)[w.heap.size]?=_
  simp
 show World.cell? _ ⟨w.heap.size,0,none⟩=_
 unfold World.cell?
 rw[hh]
 simp
 |succ j=>simp at h

structure TkT (w:World):Prop where
 words:∀i,i<11→w.cell? ⟨1,i,none⟩=some (.string ⟨(wdL.getD i []).toArray⟩)
 ar0:w.cell? ⟨0,0,none⟩=some (.string ⟨#[45,62]⟩)
 ar1:w.cell? ⟨0,1,none⟩=some (.string ⟨#[60,45]⟩)
 mx:∃m,w.cell? ⟨3,0,none⟩=some (.int .i64 m)

theorem TkT.kept {w w':World} (h:TkT w) (hb:Below w.heap.size w w'):TkT w':=
 ⟨fun i hi=>cellKP (h.words i hi) hb,cellKP h.ar0 hb,cellKP h.ar1 hb,h.mx.imp fun m hm=>cellKP hm hb⟩

theorem stC_length15 (ls:List (List UInt8)):(stC ls).length=ls.length:=by simp[stC]

theorem mk_toList (s:List UInt8):(⟨s.toArray⟩:ByteArray).data.toList=s:=by simp

theorem split15_any (c:UInt8) (s:List UInt8) (hs:s.length≤1000000) (w:World) (hT:TkT w):
 Calls Tryz.prog 87 #[.string ⟨s.toArray⟩,.string ⟨#[c]⟩] w fun e w'=>∃v,e=.returned v∧OwnG w [Rw.st v (splL c s)] w':=by
 obtain⟨m,hm⟩:=hT.mx
 refine(Tryz.strings_Split ⟨s.toArray⟩ ⟨#[c]⟩ m w (by rw[str_size];omega) hm (by show 1≤1;omega)).mono ?_
 rintro e w' ⟨rfl,rfl⟩
 refine⟨_,rfl,?_⟩
 rw[split_lib,count_lib,List.map_map]
 have hl:=splL_count c s
 exact(OwnG.start w).lit 9 1 (splL c s).length w.heap.size (stC (splL c s)) _ rfl rfl (by unfold maxLen;omega) (by simp[stC])

theorem trim_any (s:List UInt8) (hs:s.length≤1000000) (w:World):
 Calls Tryz.prog 88 #[.string ⟨s.toArray⟩,.string ⟨#[32]⟩] w fun e w'=>e=.returned (.string ⟨(tmT s).toArray⟩)∧Below w.heap.size w w':=by
 refine(Tryz.strings_Trim_one ⟨s.toArray⟩ 32 (by decide) w (by rw[str_size];omega)).mono ?_
 rintro e w' ⟨rfl,hw⟩
 rw[mk_toList,trim_tm]
 refine⟨rfl,?_⟩
 rcases hw with rfl|rfl
 ·exact Below.refl _ _
 ·exact(Below.refl _ _).drew

theorem trimR_any (s:List UInt8) (hs:s.length≤1000000) (w:World):
 Calls Tryz.prog 129 #[.string ⟨s.toArray⟩,.string ⟨#[32]⟩] w fun e w'=>e=.returned (.string ⟨(teT s).toArray⟩)∧w'=w:=by
 refine(Tryz.strings_TrimRight_one ⟨s.toArray⟩ 32 (by decide) w (by rw[str_size];omega)).mono ?_
 rintro e w' ⟨rfl,hw⟩
 rw[mk_toList,trimR_te]
 exact⟨rfl,hw⟩

theorem cutP_any (s p:List UInt8) (w:World):
 Calls Tryz.prog 290 #[.string ⟨s.toArray⟩,.string ⟨p.toArray⟩] w fun e w'=>e=.returned (.tuple #[.string ⟨(if p.isPrefixOf s then s.drop p.length else s).toArray⟩,.bool (p.isPrefixOf s)])∧w'=w:=by
 refine(Tryz.strings_CutPrefix ⟨s.toArray⟩ ⟨p.toArray⟩ w).mono ?_
 rintro e w' ⟨rfl,hw⟩
 rw[mk_toList,mk_toList]
 exact⟨rfl,hw⟩

theorem cutS_any (s p:List UInt8) (hs:s.length≤1000000) (w:World):
 Calls Tryz.prog 127 #[.string ⟨s.toArray⟩,.string ⟨p.toArray⟩] w fun e w'=>e=.returned (.tuple #[.string ⟨(if p.isSuffixOf s then s.take (s.length - p.length) else s).toArray⟩,.bool (p.isSuffixOf s)])∧w'=w:=by
 refine(Tryz.strings_CutSuffix ⟨s.toArray⟩ ⟨p.toArray⟩ w (by rw[str_size];omega)).mono ?_
 rintro e w' ⟨rfl,hw⟩
 rw[mk_toList,mk_toList]
 exact⟨rfl,hw⟩

set_option maxHeartbeats 1000000 in
theorem clone_any (s:List UInt8) (hs:s.length≤1000000) (w:World):
 Calls Tryz.prog 128 #[.string ⟨s.toArray⟩] w fun e w'=>e=.returned (.string ⟨s.toArray⟩)∧Below w.heap.size w w':=by
 have HC:Hid (Calls Tryz.prog 210 #[.string ⟨s.toArray⟩] w fun e w'=>e=.returned (.string ⟨s.toArray⟩)∧Below w.heap.size w w'):=Tryz.stringslite_Clone ⟨s.toArray⟩ w (by rw[str_size];omega)
 generalize (⟨s.toArray⟩:ByteArray)=S at HC ⊢
 go_enter Tryz.func128,Tryz.ntmps128
 go_wp2_with fail
 refine HC.out.mono ?_
 rintro e w1 ⟨rfl,b1⟩
 go_wp2
 go_ret
 exact⟨rfl,b1⟩

def ixL (x:List UInt8):List (List UInt8)→Int
 |[]=> -1
 |z :: zs=>if z=x then 0 else if ixL x zs= -1 then -1 else ixL x zs+1

theorem ixL_ge (x:List UInt8):∀zs, -1≤ixL x zs
 |[]=>by simp[ixL]
 |z :: zs=>by
 have:=ixL_ge x zs
 unfold ixL
 split
 ·omega
 ·split<;>omega

theorem ix_lib (x:List UInt8):∀(zs:List (List UInt8)) (i:Nat),Lib.idxFromS (zs.map fun l=>⟨l.toArray⟩) ⟨x.toArray⟩ i=if ixL x zs= -1 then -1 else ixL x zs+i
 |[],i=>by simp[Lib.idxFromS,ixL]
 |z :: zs,i=>by
 have ih:=ix_lib x zs (i+1)
 have hge:=ixL_ge x zs
 show(if (⟨z.toArray⟩:ByteArray)=⟨x.toArray⟩ then (i:Int) else Lib.idxFromS (zs.map fun l=>⟨l.toArray⟩) ⟨x.toArray⟩ (i+1))=_
 rw[ih]
 have eu:ixL x (z :: zs)=if z=x then 0 else if ixL x zs= -1 then -1 else ixL x zs+1:=rfl
 rw[eu]
 by_cases h:z=x
 ·subst h
  simp
 ·have h2:¬(⟨z.toArray⟩:ByteArray)=⟨x.toArray⟩:=fun e=>h (by have:=congrArg (fun b:ByteArray=>b.data.toList) e;simpa using this)
  rw[if_neg h2,if_neg h]
  by_cases h3:ixL x zs= -1
  ·rw[if_pos h3,if_pos h3,if_pos rfl]
  ·rw[if_neg h3,if_neg h3,if_neg (by omega)]
  omega

theorem idxS_any (x:List UInt8) (ls:List (List UInt8)) (v:Value) (w:World) (h:RdC w v (stC ls)) (hn:ls.length≤1000000):
 Calls Tryz.prog 130 #[v,.string ⟨x.toArray⟩] w fun e w'=>e=.returned (.int .i64 (ixL x ls))∧w'=w:=by
 obtain⟨a,c,rfl,h2,h3,h4,h5⟩:=h
 rw[stC_length15] at h2 h5 ⊢
 have e0:∀zs:List (List UInt8),Lib.idxOfS (zs.map fun l=>⟨l.toArray⟩) ⟨x.toArray⟩=ixL x zs:=fun zs=>by
 have:=ix_lib x zs 0
 unfold Lib.idxOfS
 rw[this]
 have:=ixL_ge x zs
 by_cases h:ixL x zs= -1
 ·rw[if_pos h,h]
 ·rw[if_neg h];simp
 rcases h5 with h|⟨b,off,rfl,hc⟩
 ·have:ls=[]:=List.map_eq_nil_iff.1 h
 subst this
 refine(Tryz.slices_Index_string_empty a c ⟨x.toArray⟩ w).mono ?_
 rintro e w' ⟨rfl,hw⟩
 exact⟨rfl,hw⟩
 ·have:=Tryz.slices_Index_string b off ls.length c (ls.map fun l=>(⟨l.toArray⟩:ByteArray)) ⟨x.toArray⟩ w (by rw[List.length_map];exact Nat.le_refl _) (by omega) (fun j hj=>by
  have hj2:j<ls.length:=by simpa using hj
  rw[hc j (by simpa using hj2)]
  simp[stC,hj2])
 rw[List.take_of_length_le (by rw[List.length_map];exact Nat.le_refl _),e0] at this
 exact this
end Go.Proofs.YtpgjobpmafbigaaGreatDoor

namespace Go.Proofs.YtpgjobpmafbigaaGreatDoor
set_option linter.unusedSimpArgs false
set_option linter.unusedVariables false

theorem nwH_length (s:List UInt8):(nwH s).length=32:=by
 unfold nwH
 split
 ·exact s2L_length _
 ·rw[List.length_append,List.length_replicate];omega
structure Sound (s:Sta):Prop where
 ck:s.ck.length=32
 h:s.h.length=32
 key:s.c.key.length=0∨s.c.key.length=32
 n:s.c.n<18446744073709551616
theorem Sound.mx {s:Sta} (h:Sound s) (i:List UInt8):Sound (mkS s i):=⟨mcF_length _ _,h.h,.inr (mcF_length _ _),by show 0<_;omega⟩
theorem Sound.put {s:Sta} (h:Sound s) (n:Nat) (hn:n<18446744073709551616):Sound ⟨s.ck,s.h,⟨s.c.key,n⟩⟩:=⟨h.ck,h.h,h.key,hn⟩
theorem opQ_len (k n a s:List UInt8):(opQ k n a s).1.length≤s.length:=by
 unfold opQ
 split
 ·show 0≤_;omega
 ·split
 ·show(smL _ _ _ _).length≤_;rw[smL_length,List.length_take];omega
 ·show 0≤_;omega
theorem opC_facts (c:Cph) (a t:List UInt8) (hn:c.n<18446744073709551616):(opC c a t).1.key=c.key∧(opC c a t).1.n<18446744073709551616∧(opC c a t).2.1.length≤t.length:=by
 unfold opC
 split
 ·exact⟨rfl,hn,Nat.le_refl _⟩
 ·split
 ·exact⟨rfl,hn,by show 0≤_;omega⟩
 ·split
  ·exact⟨rfl,hn,by show 0≤_;omega⟩
  ·split
  ·refine⟨rfl,?_,opQ_len _ _ _ _⟩
   show c.n+1<_;omega
  ·exact⟨rfl,hn,by show 0≤_;omega⟩
theorem Sound.op {s:Sta} (h:Sound s) (t:List UInt8):Sound (opS s t).1:=by
 obtain⟨h1,h2, -⟩:=opC_facts s.c s.h t h.n
 unfold opS
 split
 ·exact⟨h.ck,s2L_length _,by show(opC s.c s.h t).1.key.length=0∨(opC s.c s.h t).1.key.length=32;rw[h1];exact h.key,h2⟩
 ·exact h
end Go.Proofs.YtpgjobpmafbigaaGreatDoor

namespace Go.Proofs.YtpgjobpmafbigaaGreatDoor
set_option linter.unusedSimpArgs false
set_option linter.unusedVariables false

theorem turnN_zero (n:Nat):turnN 0 n=0:=by
 unfold turnN rotN
 split<;>simp
theorem thL_zero (f:Nat→Nat) (h:∀i,f i=0) (k:Nat):thL f k=0:=by
 unfold thL colN
 simp[h,turnN_zero]
theorem rhL_zero (f:Nat→Nat) (h:∀i,f i=0) (k:Nat):rhL f k=0:=by
 unfold rhL
 simp[h,turnN_zero]
theorem piF_zero (f:Nat→Nat) (h:∀i,f i=0) (k:Nat):piF f k=0:=h _
theorem chL_zero (f:Nat→Nat) (h:∀i,f i=0) (k:Nat):chL f k=0:=by
 unfold chL
 simp[h]
theorem noughts_kept (k:Nat):chL (piF (rhL (thL fun _=>0))) k=0:=chL_zero _ (piF_zero _ (rhL_zero _ (thL_zero _ fun _=>rfl))) k
theorem rdL_noughts (i:Nat):rdL (fun _=>0) i=ioK (fun _=>0) i:=by
 unfold rdL
 congr 1
 funext k
 exact noughts_kept k

end Go.Proofs.YtpgjobpmafbigaaGreatDoor

namespace Go.Proofs.YtpgjobpmafbigaaGreatDoor
open Go.ChangeShapes Go.WideShapes Go.ChangeAt Go.RowKit
set_option linter.unusedSimpArgs false
set_option linter.unusedVariables false

theorem arrInfo (f:Nat→Nat):(Tryz.prog.info? 235).map (·.size)=some (stL f).length:=by rw[stL_length];kernel_rfl
abbrev arrV (f:Nat→Nat):Value:=.agg ((stL f).map (Value.int .u64)).toArray
theorem zeros25:#[Value.int .u64 0,.int .u64 0,.int .u64 0,.int .u64 0,.int .u64 0,.int .u64 0,.int .u64 0,.int .u64 0,.int .u64 0,.int .u64 0,.int .u64 0,.int .u64 0,.int .u64 0,.int .u64 0,.int .u64 0,.int .u64 0,.int .u64 0,.int .u64 0,.int .u64 0,.int .u64 0,.int .u64 0,.int .u64 0,.int .u64 0,.int .u64 0,.int .u64 0]=((stL fun _=>0).map (Value.int .u64)).toArray:=by
 rw[←stL_zero]
 rfl
structure KI (w:World) (F:Nat→Nat) (wr:World):Prop where
 a:RowAt .u64 235 w.heap.size 25 (stL F) wr
 r:RowAt .u64 235 (w.heap.size+1) 25 (stL fun _=>0) wr
 b:Below w.heap.size w wr
 t:Tabs wr
 two:7<w.heap.size
theorem KI.drew {w wr:World} {F:Nat→Nat} (h:KI w F wr):KI w F wr.drew:=⟨h.a.drew,h.r.drew,h.b.drew,h.t.kept (Below.refl _ _).drew,h.two⟩
theorem KI.kept {w wr w2:World} {F:Nat→Nat} (h:KI w F wr) (hb:Below wr.heap.size wr w2):KI w F w2:=⟨h.a.kept hb,h.r.kept hb,stepB h.b hb,h.t.kept hb,h.two⟩
theorem KI.set {w wr:World} {F G:Nat→Nat} (h:KI w F wr) (j:Nat) (x:Int) (e:(stL F).set j x=stL G):KI w G (wr.setCell ⟨w.heap.size,j,none⟩ (.int .u64 x)):=by
 have hw:=Wrote.set w.heap.size j wr (.int .u64 x)
 have h1:=h.a.set j x
 rw[e] at h1
 exact⟨h1,h.r.wrote hw (by omega),hw.below _ _ (Nat.le_refl _) h.b,h.t.wrote hw h.two,h.two⟩
theorem KI.alloc {w wr:World} {F:Nat→Nat} (h:KI w F wr) (o:Obj):KI w F (wr.alloc o):=h.kept (growB o)
theorem KI.other {w wr w2:World} {F:Nat→Nat} {g:Nat} (h:KI w F wr) (hw:Wrote g wr w2) (hg:w.heap.size+2≤g):KI w F w2:=
 ⟨h.a.wrote hw (by omega),h.r.wrote hw (by omega),hw.below _ _ (by omega) h.b,h.t.wrote hw (by have:=h.two;omega),h.two⟩
theorem KI.whole {w wr w2:World} {F G:Nat→Nat} (h:KI w F wr) (hr:RowAt .u64 235 w.heap.size 25 (stL G) w2) (hw:Wrote w.heap.size wr w2):KI w G w2:=
 ⟨hr,h.r.wrote hw (by omega),hw.below _ _ (Nat.le_refl _) h.b,h.t.wrote hw h.two,h.two⟩
theorem two_rows (f:Nat→Nat) (w:World) (cs:Array Value) (hcs:cs=((stL fun _=>0).map (Value.int .u64)).toArray) (t:Tabs w):
 ∃W,(w.alloc (.cells ((stL f).map (Value.int .u64)).toArray 235)).alloc (.cells cs 235)=W∧KI w f W∧W.heap.size=w.heap.size+2:=by
 have r1:RowAt .u64 235 w.heap.size 25 (stL f) (w.alloc (.cells ((stL f).map (Value.int .u64)).toArray 235)):=RowAt.fresh (stL f) rfl rfl (stL_length f).symm (stL_ne f) (by rw[stL_length];simp[maxLen])
 have r2:RowAt .u64 235 (w.heap.size+1) 25 (stL fun _=>0) ((w.alloc (.cells ((stL f).map (Value.int .u64)).toArray 235)).alloc (.cells cs 235)):=RowAt.fresh (stL fun _=>0) hcs (by simp) (stL_length _).symm (stL_ne _) (by rw[stL_length];simp[maxLen])
 have hb:=stepB (growB (w:=w) (.cells ((stL f).map (Value.int .u64)).toArray 235)) (growB (.cells cs 235))
 exact⟨_,rfl,⟨r1.kept (growB _),r2,hb,t.kept hb,t.two⟩,by simp⟩

set_option maxHeartbeats 400000 in
theorem kIota_out (A:Array Value) (f:Nat→Nat) (hA:A=((stL f).map (Value.int .u64)).toArray) (r:Int) (hr:decide (0≤r∧r≤23)=false) (w:World) (ht:Tabs w):
 Calls Tryz.prog 366 #[.agg A,.int .i64 r] w fun e w'=>e=.returned (arrV f)∧Below w.heap.size w w':=by
 have HA:Hid _:=hA
 clear hA
 go_enter Tryz.func366,Tryz.ntmps366
 go_wp2_with fail
 rw[HA.out]
 obtain⟨W,hW,hI,hs⟩:=two_rows f w _ zeros25 ht
 rw[hW]
 clear hW ht
 refine(isRound_any _ _).mono ?_
 rintro e w1 ⟨rfl,rfl⟩
 rw[hr]
 have r1:=hI.a
 have r2:=hI.r
 go_wp2_with (first|refine wpList_load_row rfl 235 _ rfl rfl r1 _ Tryz.underlying235 rfl (arrInfo _) ?_|(refine wpList_store_row rfl 235 _ _ rfl (stL f) rfl rfl r2 (by simp[stL_length]) (arrInfo _) ?_;intro w2 r3 hw))
 refine bodyPost_row (p:=4) (ty:=235) rfl rfl rfl r3 Tryz.underlying235 rfl (arrInfo _) ?_
 exact⟨rfl,hw.below _ _ (by omega) hI.b⟩

set_option maxHeartbeats 400000 in
theorem kIota_in (A:Array Value) (f:Nat→Nat) (hf:∀i,f i<18446744073709551616) (hA:A=((stL f).map (Value.int .u64)).toArray) (n:Nat) (hlt:n<24) (w:World) (ht:Tabs w):
 Calls Tryz.prog 366 #[.agg A,.int .i64 (n:Int)] w fun e w'=>e=.returned (arrV (ioK f n))∧Below w.heap.size w w':=by
 have hr:decide (0≤(n:Int)∧(n:Int)≤23)=true:=decide_eq_true (by omega)
 have HA:Hid _:=hA
 clear hA
 go_enter Tryz.func366,Tryz.ntmps366
 go_wp2_with fail
 rw[HA.out]
 obtain⟨W,hW,hI,hs⟩:=two_rows f w _ zeros25 ht
 rw[hW]
 clear hW ht
 refine(isRound_any _ _).mono ?_
 rintro e w1 ⟨rfl,rfl⟩
 rw[hr]
 clear hr
 have hlt2:((n:Nat):Int)<24:=by omega
 have hc:=hI.a.cell (j:=0) (by rw[stL_length];decide)
 have hcf:=hI.a.free 0
 have hk:=hI.t.consts n hlt
 rw[stL_get f 0 (by decide)] at hc
 rw[ksT_get n hlt] at hk
 have HS:Hid (∀x:Int,x=((f 0^^^kst.getD n 0:Nat):Int)→KI w (ioK f n) (w1.setCell ⟨w.heap.size,0,none⟩ (.int .u64 x))):=by
 intro x hx
 exact hI.set 0 x (by rw[hx];exact ioKI f n)
 have HX:Hid _:=xorI (f 0) (kst.getD n 0) (hf 0) (kst_lt n hlt)
 generalize f 0=q0 at hc HX HS
 generalize kst.getD n 0=q1 at hk HX HS
 have HI:Hid _:=hI
 clear hI hf
 go_wp2_with fail
 refine wpE_begin 7 (by kernel_rfl) ?_
 refine eU_ 0 rfl ⟨_,by intro W hW;go_simp<;>with_reducible rfl,?_⟩
 try simp only[Act.put,pA_,pB_,pC_]
 refine eU_ 1 rfl ⟨_,by intro W hW;have hcW:=cellU hc hW;go_simp<;>with_reducible rfl,?_⟩
 try simp only[Act.put,pA_,pB_,pC_]
 refine eU_ 2 rfl ⟨_,by intro W hW;go_simp<;>with_reducible rfl,?_⟩
 try simp only[Act.put,pA_,pB_,pC_]
 refine eU_ 3 rfl ⟨_,by intro W hW;go_simp<;>with_reducible rfl,?_⟩
 try simp only[Act.put,pA_,pB_,pC_]
 refine eU_ 4 rfl ⟨_,by intro W hW;have hcW:=cellU hk hW;go_simp<;>with_reducible rfl,?_⟩
 try simp only[Act.put,pA_,pB_,pC_]
 refine eU_ 5 rfl ⟨_,by intro W hW;go_simp<;>with_reducible rfl,?_⟩
 try simp only[Act.put,pA_,pB_,pC_]
 refine eU_ 6 rfl ⟨_,by intro W hW;go_simp<;>with_reducible rfl,?_⟩
 try simp only[Act.put,pA_,pB_,pC_]
 refine eL_ fun K hK=>?_
 go_simp
 refine hK.out _ _ ?_
 clear hK K
 try simp only[Act.put,pA_,pB_,pC_]

 have hI2:=HS.out _ HX.out
 have r1:=hI2.drew.a
 have r2:=hI2.drew.r
 go_wp2_with (first|refine wpList_load_row rfl 235 _ rfl rfl r1 _ Tryz.underlying235 rfl (arrInfo _) ?_|(refine wpList_store_row rfl 235 _ _ rfl (stL (ioK f n)) rfl rfl r2 (by simp[stL_length]) (arrInfo _) ?_;intro w2 r3 hw))
 refine bodyPost_row (p:=4) (ty:=235) rfl rfl rfl r3 Tryz.underlying235 rfl (arrInfo _) ?_
 exact⟨rfl,hw.below _ _ (by omega) hI2.drew.b⟩

def ioI (f:Nat→Nat) (r:Int):Nat→Nat:=if 0≤r∧r≤23 then ioK f r.toNat else f
theorem kIota_any (A:Array Value) (f:Nat→Nat) (hf:∀i,f i<18446744073709551616) (hA:A=((stL f).map (Value.int .u64)).toArray) (r:Int) (w:World) (ht:Tabs w):
 Calls Tryz.prog 366 #[.agg A,.int .i64 r] w fun e w'=>e=.returned (arrV (ioI f r))∧Below w.heap.size w w':=by
 by_cases h:0≤r∧r≤23
 ·obtain⟨n,rfl⟩:∃n:Nat,r=n:=⟨r.toNat,by omega⟩
 have e:ioI f (n:Int)=ioK f n:=by unfold ioI;rw[if_pos h,Int.toNat_natCast]
 rw[e]
 exact kIota_in A f hf hA n (by omega) w ht
 ·have e:ioI f r=f:=by unfold ioI;rw[if_neg h]
 rw[e]
 exact kIota_out A f hA r (decide_eq_false h) w ht
def rhM (j:Nat):Nat:=if j=0 then 0 else rhBy (rhTau j)
theorem rhM_lt (j:Nat):rhM j<64:=by
 unfold rhM
 split
 ·decide
 ·exact rhBy_lt _
theorem rhM_turn (f:Nat→Nat) (j:Nat):turnN (f j) (rhM j)=rhL f j:=by
 unfold rhM rhL
 by_cases h:j=0
 ·subst h;rfl
 ·rw[if_neg h,if_neg h]

set_option maxHeartbeats 1000000 in
theorem kRho_any (A:Array Value) (f:Nat→Nat) (hf:∀i,f i<18446744073709551616) (hA:A=((stL f).map (Value.int .u64)).toArray) (w:World) (ht:Tabs w):
 Calls Tryz.prog 369 #[.agg A] w fun e w'=>e=.returned (arrV (rhL f))∧Below w.heap.size w w':=by
 have HA:Hid _:=hA
 have HF:Hid (∀i,f i<18446744073709551616):=hf
 clear hA hf
 go_enter Tryz.func369,Tryz.ntmps369
 go_wp2
 rw[HA.out]
 obtain⟨W,hW,hI,hs⟩:=two_rows f w _ zeros25 ht
 rw[hW]
 clear hW ht
 go_loopw [4] (fun i wr=>∃j:Nat,j≤25∧i=.int .i64 j∧KI w (upQ f (rhL f) j) wr) (fun i _=>25 - (intOf i).toNat)
 case atStart=>exact⟨0,by omega,rfl,by have e:=upQ_zero f (rhL f);exact⟨e ▸ hI.a,hI.r,hI.b,hI.t,hI.two⟩⟩
 case round=>
 obtain⟨j,hj,rfl,hI2⟩:=hrel
 clear hI hs
 by_cases hlt:j<25
 ·have hd:decide ((j:Int)<25)=true:=decide_eq_true (by omega)
  have hjI:(j:Int)<25:=by omega
  have hc:=hI2.a.cell (j:=j) (by rw[stL_length];exact hlt)
  have hcf:=hI2.a.free j
  have hk:=hI2.t.turns j hlt
  rw[stL_get _ j hlt,upQ_get] at hc
  rw[trT_eq j hlt] at hk
  have HT:Hid _:=rhM_turn f j
  have hm:=rhM_lt j
  have hq:=HF.out j
  have HS:Hid (∀x:Int,x=((rhL f j:Nat):Int)→KI w (upQ f (rhL f) (j+1)) (wr.setCell ⟨w.heap.size,j,none⟩ (.int .u64 x))):=by
  intro x hx
  exact hI2.set j x (by rw[hx];exact upQ_set f (rhL f) j)
  change wr.cell? ⟨7,j,none⟩=some (.int .i64 ((rhM j:Nat):Int)) at hk
  generalize f j=q0 at hc HT hq
  generalize rhM j=q1 at hk HT hm
  have HI:Hid _:=hI2
  clear hI2
  go_wp2_with fail
  refine wpE_begin 9 (by kernel_rfl) ?_
  refine eU_ 0 rfl ⟨_,by intro W hW;go_simp<;>with_reducible rfl,?_⟩
  try simp only[Act.put,pA_,pB_,pC_]
  refine eU_ 1 rfl ⟨_,by intro W hW;go_simp<;>with_reducible rfl,?_⟩
  try simp only[Act.put,pA_,pB_,pC_]
  refine eU_ 2 rfl ⟨_,by intro W hW;go_simp<;>with_reducible rfl,?_⟩
  try simp only[Act.put,pA_,pB_,pC_]
  refine eU_ 3 rfl ⟨_,by intro W hW;have hcW:=cellU hc hW;go_simp<;>with_reducible rfl,?_⟩
  try simp only[Act.put,pA_,pB_,pC_]
  refine eU_ 4 rfl ⟨_,by intro W hW;go_simp<;>with_reducible rfl,?_⟩
  try simp only[Act.put,pA_,pB_,pC_]
  refine eU_ 5 rfl ⟨_,by intro W hW;go_simp<;>with_reducible rfl,?_⟩
  try simp only[Act.put,pA_,pB_,pC_]
  refine eU_ 6 rfl ⟨_,by intro W hW;have hcW:=cellU hk hW;go_simp<;>with_reducible rfl,?_⟩
  try simp only[Act.put,pA_,pB_,pC_]
  refine eD_ 7 fun K hK=>?_
  go_simp
  refine(rot_any q0 q1 _ _ rfl rfl hq hm _).mono ?_
  rintro e w' ⟨rfl,rfl⟩
  refine hK.out _ _ (Below.refl _ _) ?_
  clear hK K
  try simp only[Act.put,pA_,pB_,pC_]
  refine eU_ 8 rfl ⟨_,by intro W hW;go_simp<;>with_reducible rfl,?_⟩
  try simp only[Act.put,pA_,pB_,pC_]
  refine eL_ fun K hK=>?_
  go_simp
  refine hK.out _ _ ?_
  clear hK K
  try simp only[Act.put,pA_,pB_,pC_]

  rw[HT.out]
  have hI3:=(HS.out _ rfl).drew
  go_wp2
  go_roundw
  case rel=>exact⟨j+1,by omega,by go_num,hI3⟩
  case measure=>simp[intOf];omega
 ·have hje:j=25:=by omega
  subst hje
  have r1:=hI2.a
  rw[upQ_done] at r1
  have r2:=hI2.r
  go_wp2_with (first|refine wpList_load_row rfl 235 _ rfl rfl r1 _ Tryz.underlying235 rfl (arrInfo _) ?_|(refine wpList_store_row rfl 235 _ _ rfl (stL (rhL f)) rfl rfl r2 (by simp[stL_length]) (arrInfo _) ?_;intro w2 r3 hw))
  refine bodyPost_row (p:=2) (ty:=235) rfl rfl rfl r3 Tryz.underlying235 rfl (arrInfo _) ?_
  exact⟨rfl,hw.below _ _ (by omega) hI2.b⟩
set_option maxRecDepth 100000 in
set_option maxHeartbeats 2000000 in
theorem kPi_any (A:Array Value) (f:Nat→Nat) (hf:∀i,f i<18446744073709551616) (hA:A=((stL f).map (Value.int .u64)).toArray) (w:World) (ht:Tabs w):
 Calls Tryz.prog 368 #[.agg A] w fun e w'=>e=.returned (arrV (piF f))∧Below w.heap.size w w':=by
 have HA:Hid _:=hA
 have HF:Hid (∀i,f i<18446744073709551616):=hf
 clear hA hf
 go_enter Tryz.func368,Tryz.ntmps368
 go_wp2
 rw[HA.out]
 obtain⟨W,hW,hI,hs⟩:=two_rows f w _ zeros25 ht
 rw[hW]
 clear hW ht
 have ro:RowAt .u64 235 (w.heap.size+2) 25 (stL fun _=>0) (W.alloc (.cells #[Value.int .u64 0,.int .u64 0,.int .u64 0,.int .u64 0,.int .u64 0,.int .u64 0,.int .u64 0,.int .u64 0,.int .u64 0,.int .u64 0,.int .u64 0,.int .u64 0,.int .u64 0,.int .u64 0,.int .u64 0,.int .u64 0,.int .u64 0,.int .u64 0,.int .u64 0,.int .u64 0,.int .u64 0,.int .u64 0,.int .u64 0,.int .u64 0,.int .u64 0] 235)):=
 RowAt.fresh _ zeros25 hs.symm (stL_length _).symm (stL_ne _) (by rw[stL_length];simp[maxLen])
 have hI1:=hI.alloc (.cells #[Value.int .u64 0,.int .u64 0,.int .u64 0,.int .u64 0,.int .u64 0,.int .u64 0,.int .u64 0,.int .u64 0,.int .u64 0,.int .u64 0,.int .u64 0,.int .u64 0,.int .u64 0,.int .u64 0,.int .u64 0,.int .u64 0,.int .u64 0,.int .u64 0,.int .u64 0,.int .u64 0,.int .u64 0,.int .u64 0,.int .u64 0,.int .u64 0,.int .u64 0] 235)
 generalize W.alloc (.cells #[Value.int .u64 0,.int .u64 0,.int .u64 0,.int .u64 0,.int .u64 0,.int .u64 0,.int .u64 0,.int .u64 0,.int .u64 0,.int .u64 0,.int .u64 0,.int .u64 0,.int .u64 0,.int .u64 0,.int .u64 0,.int .u64 0,.int .u64 0,.int .u64 0,.int .u64 0,.int .u64 0,.int .u64 0,.int .u64 0,.int .u64 0,.int .u64 0,.int .u64 0] 235)=W1 at ro hI1
 rw[upQ_zero (fun _=>0) (piF f)] at ro
 clear hI hs
 go_loopw [6] (fun i wr=>∃Y:Nat,Y≤5∧i=.int .i64 Y∧KI w f wr∧RowAt .u64 235 (w.heap.size+2) 25 (stL (upQ (fun _=>0) (piF f) (5 * Y))) wr) (fun i _=>5 - (intOf i).toNat)
 case atStart=>exact⟨0,by omega,rfl,hI1,ro⟩
 case round=>
 obtain⟨Y,hY,rfl,hI2,ro2⟩:=hrel
 clear hI1 ro
 by_cases hlt:Y<5
 ·have hd:decide ((Y:Int)<5)=true:=decide_eq_true (by omega)
  have hYI:(Y:Int)<5:=by omega
  go_wp2
  go_loopw [9] (fun i wr=>∃X:Nat,X≤5∧i=.int .i64 X∧KI w f wr∧RowAt .u64 235 (w.heap.size+2) 25 (stL (upQ (fun _=>0) (piF f) (X+5 * Y))) wr) (fun i _=>5 - (intOf i).toNat)
  case atStart=>exact⟨0,by omega,rfl,hI2,by rw[Nat.zero_add];exact ro2⟩
  case round=>
  obtain⟨X,hX,rfl,hI3,ro3⟩:=hrel
  clear hI2 ro2
  by_cases hXlt:X<5
  ·have hd2:decide ((X:Int)<5)=true:=decide_eq_true (by omega)
   have hXI:(X:Int)<5:=by omega
   obtain⟨m,hm⟩:∃m:Nat,m=(X+3 * Y) % 5:=⟨_,rfl⟩
   have bm:(m:Int)<5:=by omega
   have hc:=hI3.a.cell (j:=m+5 * X) (by rw[stL_length];omega)
   rw[stL_get _ _ (by omega)] at hc
   have ho:=ro3.cell (j:=X+5 * Y) (by rw[stL_length];omega)
   have hof:=ro3.free (X+5 * Y)
   have HS:Hid (∀x:Int,x=((f (m+5 * X):Nat):Int)→RowAt .u64 235 (w.heap.size+2) 25 (stL (upQ (fun _=>0) (piF f) (X+1+5 * Y))) (wr.setCell ⟨w.heap.size+2,X+5 * Y,none⟩ (.int .u64 x))∧KI w f (wr.setCell ⟨w.heap.size+2,X+5 * Y,none⟩ (.int .u64 x))):=by
   intro x hx
   refine⟨?_,hI3.other (Wrote.set _ _ wr _) (Nat.le_refl _)⟩
   have e:f (m+5 * X)=piF f (X+5 * Y):=by
    unfold piF
    rw[show(X+5 * Y) % 5=X by omega,show(X+5 * Y) / 5=Y by omega,hm]
   rw[show X+1+5 * Y=(X+5 * Y)+1 by omega,←upQ_set,←e,←hx]
   exact ro3.set _ x
   generalize f (m+5 * X)=q0 at hc HS
   generalize (stL (upQ (fun _=>0) (piF f) (X+5 * Y))).getD (X+5 * Y) 0=q1 at ho
   have w5:IntKind.i64.wrap (5 * (Y:Int))=5 * (Y:Int):=IntWalk.i64_in _ (by omega)
   have wX:IntKind.i64.wrap ((X:Int)+5 * (Y:Int))=(X:Int)+5 * (Y:Int):=IntWalk.i64_in _ (by omega)
   have nX:((X:Int)+5 * (Y:Int)).toNat=X+5 * Y:=by omega
   have pX:0≤(X:Int)+5 * (Y:Int):=by omega
   have lX:(X:Int)+5 * (Y:Int)<25:=by omega
   have w3:IntKind.i64.wrap (3 * (Y:Int))=3 * (Y:Int):=IntWalk.i64_in _ (by omega)
   have wS:IntKind.i64.wrap ((X:Int)+3 * (Y:Int))=(X:Int)+3 * (Y:Int):=IntWalk.i64_in _ (by omega)
   have tS:((X:Int)+3 * (Y:Int)).tmod 5=(m:Int):=by rw[Int.tmod_eq_emod_of_nonneg (by omega)];omega
   have uS:((X:Int)+3 * (Y:Int)) % 5=(m:Int):=by omega
   have w5X:IntKind.i64.wrap (5 * (X:Int))=5 * (X:Int):=IntWalk.i64_in _ (by omega)
   have wM:IntKind.i64.wrap ((m:Int)+5 * (X:Int))=(m:Int)+5 * (X:Int):=IntWalk.i64_in _ (by omega)
   have nM:((m:Int)+5 * (X:Int)).toNat=m+5 * X:=by omega
   have pM:0≤(m:Int)+5 * (X:Int):=by omega
   have lM:(m:Int)+5 * (X:Int)<25:=by omega
   clear hI3 ro3 hm
   go_wp2
   obtain⟨ro4,hI4⟩:=HS.out _ rfl
   go_roundw
   case rel=>exact⟨X+1,by omega,by go_num,hI4,ro4⟩
   case measure=>simp[intOf];omega
  ·have hXe:X=5:=by omega
   subst hXe
   rw[show 5+5 * Y=5 * (Y+1) by omega] at ro3
   go_wp2
   go_roundw
   case rel=>exact⟨Y+1,by omega,by go_num,hI3,ro3⟩
   case measure=>simp[intOf];omega
 ·have hYe:Y=5:=by omega
  subst hYe
  have r1:=ro2
  rw[upQ_done] at r1
  have r2:=hI2.r
  go_wp2_with (first|refine wpList_load_row rfl 235 _ rfl rfl r1 _ Tryz.underlying235 rfl (arrInfo _) ?_|(refine wpList_store_row rfl 235 _ _ rfl (stL (piF f)) rfl rfl r2 (by simp[stL_length]) (arrInfo _) ?_;intro w2 r3 hw))
  refine bodyPost_row (p:=2) (ty:=235) rfl rfl rfl r3 Tryz.underlying235 rfl (arrInfo _) ?_
  exact⟨rfl,hw.below _ _ (by omega) hI2.b⟩

theorem chi_val (f:Nat→Nat) (hf:∀i,f i<18446744073709551616) (X Y:Nat) (hX:X<5) (m1 m2:Nat) (h1:m1=(X+1) % 5) (h2:m2=(X+2) % 5):
 bits .xor .u64 ((f (5 * Y+X):Nat):Int) (bits .and .u64 (bits .xor .u64 (if IntKind.u64.signed=true then -1 else IntKind.u64.max) ((f (5 * Y+m1):Nat):Int)) ((f (5 * Y+m2):Nat):Int))=((chL f (5 * Y+X):Nat):Int):=by
 have e1:5 * Y+X - (5 * Y+X) % 5+((5 * Y+X) % 5+1) % 5=5 * Y+m1:=by omega
 have e2:5 * Y+X - (5 * Y+X) % 5+((5 * Y+X) % 5+2) % 5=5 * Y+m2:=by omega
 unfold chL
 rw[e1,e2,sub_and]
 have b1:=hf (5 * Y+m1)
 have b2:=hf (5 * Y+m2)
 have b0:=hf (5 * Y+X)
 generalize f (5 * Y+m1)=p at b1
 generalize f (5 * Y+m2)=q at b2
 generalize f (5 * Y+X)=r at b0
 have en:bits .xor .u64 (if IntKind.u64.signed=true then -1 else IntKind.u64.max) (p:Int)=((18446744073709551615^^^p:Nat):Int):=xorI 18446744073709551615 p (by decide) b1
 rw[en,andI _ _ (xor_lt64 (by decide) b1) b2]
 have ea:(18446744073709551615^^^p) &&& q=q^^^(q &&& p):=by
 apply Nat.eq_of_testBit_eq
 intro i
 rw[Nat.testBit_and,Nat.testBit_xor,Nat.testBit_xor,Nat.testBit_and,show(18446744073709551615:Nat)=2 ^ 64 - 1 from rfl,Nat.testBit_two_pow_sub_one]
 by_cases hi:i<64
 ·simp only[hi,decide_true]
  cases p.testBit i<;>cases q.testBit i<;>rfl
 ·have hq:q.testBit i=false:=Nat.testBit_lt_two_pow (Nat.lt_of_lt_of_le b2 (Nat.pow_le_pow_right (show 0<2 by decide) (by omega:64≤i)))
  rw[hq]
  simp
 rw[ea,xorI _ _ b0 (by
 have h:q &&& p≤q:=Nat.and_le_left
 exact xor_lt64 b2 (by omega))]

set_option maxRecDepth 100000 in
set_option maxHeartbeats 2000000 in
theorem kChi_any (A:Array Value) (f:Nat→Nat) (hf:∀i,f i<18446744073709551616) (hA:A=((stL f).map (Value.int .u64)).toArray) (w:World) (ht:Tabs w):
 Calls Tryz.prog 367 #[.agg A] w fun e w'=>e=.returned (arrV (chL f))∧Below w.heap.size w w':=by
 have HA:Hid _:=hA
 have HF:Hid (∀i,f i<18446744073709551616):=hf
 clear hA hf
 go_enter Tryz.func367,Tryz.ntmps367
 go_wp2
 rw[HA.out]
 obtain⟨W,hW,hI,hs⟩:=two_rows f w _ zeros25 ht
 rw[hW]
 clear hW ht
 have ro:RowAt .u64 235 (w.heap.size+2) 25 (stL fun _=>0) (W.alloc (.cells #[Value.int .u64 0,.int .u64 0,.int .u64 0,.int .u64 0,.int .u64 0,.int .u64 0,.int .u64 0,.int .u64 0,.int .u64 0,.int .u64 0,.int .u64 0,.int .u64 0,.int .u64 0,.int .u64 0,.int .u64 0,.int .u64 0,.int .u64 0,.int .u64 0,.int .u64 0,.int .u64 0,.int .u64 0,.int .u64 0,.int .u64 0,.int .u64 0,.int .u64 0] 235)):=
 RowAt.fresh _ zeros25 hs.symm (stL_length _).symm (stL_ne _) (by rw[stL_length];simp[maxLen])
 have hI1:=hI.alloc (.cells #[Value.int .u64 0,.int .u64 0,.int .u64 0,.int .u64 0,.int .u64 0,.int .u64 0,.int .u64 0,.int .u64 0,.int .u64 0,.int .u64 0,.int .u64 0,.int .u64 0,.int .u64 0,.int .u64 0,.int .u64 0,.int .u64 0,.int .u64 0,.int .u64 0,.int .u64 0,.int .u64 0,.int .u64 0,.int .u64 0,.int .u64 0,.int .u64 0,.int .u64 0] 235)
 generalize W.alloc (.cells #[Value.int .u64 0,.int .u64 0,.int .u64 0,.int .u64 0,.int .u64 0,.int .u64 0,.int .u64 0,.int .u64 0,.int .u64 0,.int .u64 0,.int .u64 0,.int .u64 0,.int .u64 0,.int .u64 0,.int .u64 0,.int .u64 0,.int .u64 0,.int .u64 0,.int .u64 0,.int .u64 0,.int .u64 0,.int .u64 0,.int .u64 0,.int .u64 0,.int .u64 0] 235)=W1 at ro hI1
 rw[upQ_zero (fun _=>0) (chL f)] at ro
 clear hI hs
 go_loopw [7] (fun i wr=>∃Y:Nat,Y≤5∧i=.int .i64 Y∧KI w f wr∧RowAt .u64 235 (w.heap.size+2) 25 (stL (upQ (fun _=>0) (chL f) (5 * Y))) wr) (fun i _=>5 - (intOf i).toNat)
 case atStart=>exact⟨0,by omega,rfl,hI1,ro⟩
 case round=>
 obtain⟨Y,hY,rfl,hI2,ro2⟩:=hrel
 clear hI1 ro
 by_cases hlt:Y<5
 ·have hd:decide ((Y:Int)<5)=true:=decide_eq_true (by omega)
  have hYI:(Y:Int)<5:=by omega
  have w5:IntKind.i64.wrap (5 * (Y:Int))=5 * (Y:Int):=IntWalk.i64_in _ (by omega)
  go_wp2
  go_loopw [12] (fun i wr=>∃X:Nat,X≤5∧i=.int .i64 X∧KI w f wr∧RowAt .u64 235 (w.heap.size+2) 25 (stL (upQ (fun _=>0) (chL f) (5 * Y+X))) wr) (fun i _=>5 - (intOf i).toNat)
  case atStart=>exact⟨0,by omega,rfl,hI2,ro2⟩
  case round=>
  obtain⟨X,hX,rfl,hI3,ro3⟩:=hrel
  clear hI2 ro2
  by_cases hXlt:X<5
  ·have hd2:decide ((X:Int)<5)=true:=decide_eq_true (by omega)
   have hXI:(X:Int)<5:=by omega
   obtain⟨m1,hm1⟩:∃m:Nat,m=(X+1) % 5:=⟨_,rfl⟩
   obtain⟨m2,hm2⟩:∃m:Nat,m=(X+2) % 5:=⟨_,rfl⟩
   have b1:(m1:Int)<5:=by omega
   have b2:(m2:Int)<5:=by omega
   have hc:=hI3.a.cell (j:=5 * Y+X) (by rw[stL_length];omega)
   have hc1:=hI3.a.cell (j:=5 * Y+m1) (by rw[stL_length];omega)
   have hc2:=hI3.a.cell (j:=5 * Y+m2) (by rw[stL_length];omega)
   rw[stL_get _ _ (by omega)] at hc hc1 hc2
   have ho:=ro3.cell (j:=5 * Y+X) (by rw[stL_length];omega)
   have hof:=ro3.free (5 * Y+X)
   have HX:Hid _:=chi_val f HF.out X Y hXlt m1 m2 hm1 hm2
   have HS:Hid (∀x:Int,x=((chL f (5 * Y+X):Nat):Int)→RowAt .u64 235 (w.heap.size+2) 25 (stL (upQ (fun _=>0) (chL f) (5 * Y+(X+1)))) (wr.setCell ⟨w.heap.size+2,5 * Y+X,none⟩ (.int .u64 x))∧KI w f (wr.setCell ⟨w.heap.size+2,5 * Y+X,none⟩ (.int .u64 x))):=by
   intro x hx
   refine⟨?_,hI3.other (Wrote.set _ _ wr _) (Nat.le_refl _)⟩
   rw[show 5 * Y+(X+1)=(5 * Y+X)+1 by omega,←upQ_set,←hx]
   exact ro3.set _ x
   generalize f (5 * Y+X)=q0 at hc HX
   generalize f (5 * Y+m1)=q1 at hc1 HX
   generalize f (5 * Y+m2)=q2 at hc2 HX
   generalize (stL (upQ (fun _=>0) (chL f) (5 * Y+X))).getD (5 * Y+X) 0=q3 at ho
   have v1:IntKind.i64.wrap ((X:Int)+1)=(X:Int)+1:=IntWalk.i64_in _ (by omega)
   have v2:IntKind.i64.wrap ((X:Int)+2)=(X:Int)+2:=IntWalk.i64_in _ (by omega)
   have t1:((X:Int)+1).tmod 5=(m1:Int):=by rw[Int.tmod_eq_emod_of_nonneg (by omega)];omega
   have t2:((X:Int)+2).tmod 5=(m2:Int):=by rw[Int.tmod_eq_emod_of_nonneg (by omega)];omega
   have u1:((X:Int)+1) % 5=(m1:Int):=by omega
   have u2:((X:Int)+2) % 5=(m2:Int):=by omega
   have wX:IntKind.i64.wrap (5 * (Y:Int)+(X:Int))=5 * (Y:Int)+(X:Int):=IntWalk.i64_in _ (by omega)
   have w1:IntKind.i64.wrap (5 * (Y:Int)+(m1:Int))=5 * (Y:Int)+(m1:Int):=IntWalk.i64_in _ (by omega)
   have w2:IntKind.i64.wrap (5 * (Y:Int)+(m2:Int))=5 * (Y:Int)+(m2:Int):=IntWalk.i64_in _ (by omega)
   have nX:(5 * (Y:Int)+(X:Int)).toNat=5 * Y+X:=by omega
   have n1:(5 * (Y:Int)+(m1:Int)).toNat=5 * Y+m1:=by omega
   have n2:(5 * (Y:Int)+(m2:Int)).toNat=5 * Y+m2:=by omega
   have pX:0≤5 * (Y:Int)+(X:Int):=by omega
   have p1:0≤5 * (Y:Int)+(m1:Int):=by omega
   have p2:0≤5 * (Y:Int)+(m2:Int):=by omega
   have lX:5 * (Y:Int)+(X:Int)<25:=by omega
   have l1:5 * (Y:Int)+(m1:Int)<25:=by omega
   have l2:5 * (Y:Int)+(m2:Int)<25:=by omega
   clear hI3 ro3 hm1 hm2
   go_wp2_with fail
   refine wpE_begin 26 (by kernel_rfl) ?_
   refine eU_ 0 rfl ⟨_,by intro W hW;go_simp<;>with_reducible rfl,?_⟩
   try simp only[Act.put,pA_,pB_,pC_]
   refine eU_ 1 rfl ⟨_,by intro W hW;go_simp<;>with_reducible rfl,?_⟩
   try simp only[Act.put,pA_,pB_,pC_]
   refine eU_ 2 rfl ⟨_,by intro W hW;go_simp<;>with_reducible rfl,?_⟩
   try simp only[Act.put,pA_,pB_,pC_]
   refine eU_ 3 rfl ⟨_,by intro W hW;go_simp<;>with_reducible rfl,?_⟩
   try simp only[Act.put,pA_,pB_,pC_]
   refine eU_ 4 rfl ⟨_,by intro W hW;go_simp<;>with_reducible rfl,?_⟩
   try simp only[Act.put,pA_,pB_,pC_]
   refine eU_ 5 rfl ⟨_,by intro W hW;go_simp<;>with_reducible rfl,?_⟩
   try simp only[Act.put,pA_,pB_,pC_]
   refine eU_ 6 rfl ⟨_,by intro W hW;go_simp<;>with_reducible rfl,?_⟩
   try simp only[Act.put,pA_,pB_,pC_]
   refine eU_ 7 rfl ⟨_,by intro W hW;have hcW:=cellU hc hW;go_simp<;>with_reducible rfl,?_⟩
   try simp only[Act.put,pA_,pB_,pC_]
   refine eU_ 8 rfl ⟨_,by intro W hW;go_simp<;>with_reducible rfl,?_⟩
   try simp only[Act.put,pA_,pB_,pC_]
   refine eU_ 9 rfl ⟨_,by intro W hW;go_simp<;>with_reducible rfl,?_⟩
   try simp only[Act.put,pA_,pB_,pC_]
   refine eU_ 10 rfl ⟨_,by intro W hW;go_simp<;>with_reducible rfl,?_⟩
   try simp only[Act.put,pA_,pB_,pC_]
   refine eU_ 11 rfl ⟨_,by intro W hW;go_simp<;>with_reducible rfl,?_⟩
   try simp only[Act.put,pA_,pB_,pC_]
   refine eU_ 12 rfl ⟨_,by intro W hW;go_simp<;>with_reducible rfl,?_⟩
   try simp only[Act.put,pA_,pB_,pC_]
   refine eU_ 13 rfl ⟨_,by intro W hW;go_simp<;>with_reducible rfl,?_⟩
   try simp only[Act.put,pA_,pB_,pC_]
   refine eU_ 14 rfl ⟨_,by intro W hW;have hcW:=cellU hc1 hW;go_simp<;>with_reducible rfl,?_⟩
   try simp only[Act.put,pA_,pB_,pC_]
   refine eU_ 15 rfl ⟨_,by intro W hW;go_simp<;>with_reducible rfl,?_⟩
   try simp only[Act.put,pA_,pB_,pC_]
   refine eU_ 16 rfl ⟨_,by intro W hW;go_simp<;>with_reducible rfl,?_⟩
   try simp only[Act.put,pA_,pB_,pC_]
   refine eU_ 17 rfl ⟨_,by intro W hW;go_simp<;>with_reducible rfl,?_⟩
   try simp only[Act.put,pA_,pB_,pC_]
   refine eU_ 18 rfl ⟨_,by intro W hW;go_simp<;>with_reducible rfl,?_⟩
   try simp only[Act.put,pA_,pB_,pC_]
   refine eU_ 19 rfl ⟨_,by intro W hW;go_simp<;>with_reducible rfl,?_⟩
   try simp only[Act.put,pA_,pB_,pC_]
   refine eU_ 20 rfl ⟨_,by intro W hW;go_simp<;>with_reducible rfl,?_⟩
   try simp only[Act.put,pA_,pB_,pC_]
   refine eU_ 21 rfl ⟨_,by intro W hW;go_simp<;>with_reducible rfl,?_⟩
   try simp only[Act.put,pA_,pB_,pC_]
   refine eU_ 22 rfl ⟨_,by intro W hW;have hcW:=cellU hc2 hW;go_simp<;>with_reducible rfl,?_⟩
   try simp only[Act.put,pA_,pB_,pC_]
   refine eU_ 23 rfl ⟨_,by intro W hW;go_simp<;>with_reducible rfl,?_⟩
   try simp only[Act.put,pA_,pB_,pC_]
   refine eU_ 24 rfl ⟨_,by intro W hW;go_simp<;>with_reducible rfl,?_⟩
   try simp only[Act.put,pA_,pB_,pC_]
   refine eU_ 25 rfl ⟨_,by intro W hW;go_simp<;>with_reducible rfl,?_⟩
   try simp only[Act.put,pA_,pB_,pC_]
   refine eL_ fun K hK=>?_
   go_simp
   refine hK.out _ _ ?_
   clear hK K
   try simp only[Act.put,pA_,pB_,pC_]

   obtain⟨ro4,hI4⟩:=HS.out _ HX.out
   have hI5:=hI4.drew
   have ro5:=ro4.drew
   go_wp2
   go_roundw
   case rel=>exact⟨X+1,by omega,by go_num,hI5,ro5⟩
   case measure=>simp[intOf];omega
  ·have hXe:X=5:=by omega
   subst hXe
   rw[show 5 * Y+5=5 * (Y+1) by omega] at ro3
   go_wp2
   go_roundw
   case rel=>exact⟨Y+1,by omega,by go_num,hI3,ro3⟩
   case measure=>simp[intOf];omega
 ·have hYe:Y=5:=by omega
  subst hYe
  have r1:=ro2
  rw[upQ_done] at r1
  have r2:=hI2.r
  go_wp2_with (first|refine wpList_load_row rfl 235 _ rfl rfl r1 _ Tryz.underlying235 rfl (arrInfo _) ?_|(refine wpList_store_row rfl 235 _ _ rfl (stL (chL f)) rfl rfl r2 (by simp[stL_length]) (arrInfo _) ?_;intro w2 r3 hw))
  refine bodyPost_row (p:=2) (ty:=235) rfl rfl rfl r3 Tryz.underlying235 rfl (arrInfo _) ?_
  exact⟨rfl,hw.below _ _ (by omega) hI2.b⟩
def cS (f:Nat→Nat):Nat→Nat→Nat
 |0,_=>0
 |j+1,x=>if j % 5=x then cS f j x^^^f j else cS f j x
theorem cS_lt (f:Nat→Nat) (hf:∀i,f i<18446744073709551616):∀j x,cS f j x<18446744073709551616
 |0,_=>by simp[cS]
 |j+1,x=>by
 unfold cS
 split
 ·exact xor_lt64 (cS_lt f hf j x) (hf j)
 ·exact cS_lt f hf j x
theorem cS_done (f:Nat→Nat) (x:Nat) (hx:x<5):cS f 25 x=colN f x:=by
 have h:x=0∨x=1∨x=2∨x=3∨x=4:=by omega
 rcases h with rfl|rfl|rfl|rfl|rfl<;>simp[cS,colN]
def sL (f:Nat→Nat) (j:Nat):List Int:=(List.range 5).map fun x=>((cS f j x:Nat):Int)
theorem sL_length (f:Nat→Nat) (j:Nat):(sL f j).length=5:=by simp[sL]
theorem sL_ne (f:Nat→Nat) (j:Nat):sL f j≠[]:=by
 intro h
 have:=sL_length f j
 rw[h] at this
 simp at this
theorem sL_get (f:Nat→Nat) (j x:Nat) (hx:x<5):(sL f j).getD x 0=((cS f j x:Nat):Int):=by simp[sL,hx]
theorem sL_set (f:Nat→Nat) (j:Nat):(sL f j).set (j % 5) ((cS f j (j % 5)^^^f j:Nat):Int)=sL f (j+1):=by
 refine List.ext_getElem (by simp[sL]) fun i h1 h2=>?_
 simp only[sL,List.getElem_set,List.getElem_map,List.getElem_range,cS]
 by_cases e:j % 5=i
 ·subst e;simp
 ·simp[e]
theorem sL_zero (f:Nat→Nat):#[Value.int .u64 0,.int .u64 0,.int .u64 0,.int .u64 0,.int .u64 0]=((sL f 0).map (Value.int .u64)).toArray:=rfl

def thR (f:Nat→Nat) (X Y k:Nat):Nat:=if k % 5<X∨(k % 5=X∧k / 5<Y) then thL f k else f k
theorem thR_zero (f:Nat→Nat):stL f=stL (thR f 0 0):=stL_congr fun i hi=>by simp[thR]
theorem thR_next (f:Nat→Nat) (X:Nat):stL (thR f X 5)=stL (thR f (X+1) 0):=stL_congr fun i hi=>by
 unfold thR
 have h1:(i % 5<X∨i % 5=X∧i / 5<5)↔(i % 5<X+1∨i % 5=X+1∧i / 5<0):=by omega
 simp only[h1]
theorem thR_done (f:Nat→Nat):stL (thR f 5 0)=stL (thL f):=stL_congr fun i hi=>by
 unfold thR
 rw[if_pos (by omega)]
theorem thR_get (f:Nat→Nat) (X Y:Nat) (hX:X<5):thR f X Y (X+5 * Y)=f (X+5 * Y):=by
 unfold thR
 rw[if_neg (by omega)]
theorem thR_set (f:Nat→Nat) (X Y:Nat) (hX:X<5) (hY:Y<5):(stL (thR f X Y)).set (X+5 * Y) ((thL f (X+5 * Y):Nat):Int)=stL (thR f X (Y+1)):=by
 rw[stL_set]
 refine stL_congr fun i hi=>?_
 unfold thR
 by_cases e:i=X+5 * Y
 ·subst e
 rw[if_pos rfl,if_pos (by omega)]
 ·rw[if_neg e]
 have h1:(i % 5<X∨i % 5=X∧i / 5<Y)↔(i % 5<X∨i % 5=X∧i / 5<Y+1):=by omega
 simp only[h1]
theorem th_add (f:Nat→Nat) (X Y:Nat) (hX:X<5):f (X+5 * Y)^^^(colN f ((X+4) % 5)^^^turnN (colN f ((X+1) % 5)) 1)=thL f (X+5 * Y):=by
 unfold thL
 rw[show(X+5 * Y) % 5=X by omega,Nat.xor_assoc]

set_option maxRecDepth 100000 in
set_option maxHeartbeats 2000000 in
theorem kTheta_any (A:Array Value) (f:Nat→Nat) (hf:∀i,f i<18446744073709551616) (hA:A=((stL f).map (Value.int .u64)).toArray) (w:World) (ht:Tabs w):
 Calls Tryz.prog 370 #[.agg A] w fun e w'=>e=.returned (arrV (thL f))∧Below w.heap.size w w':=by
 have HA:Hid _:=hA
 have HF:Hid (∀i,f i<18446744073709551616):=hf
 clear hA hf
 go_enter Tryz.func370,Tryz.ntmps370
 go_wp2
 rw[HA.out]
 obtain⟨W,hW,hI,hs⟩:=two_rows f w _ zeros25 ht
 rw[hW]
 clear hW ht
 have rs:RowAt .u64 368 (w.heap.size+2) 5 (sL f 0) (W.alloc (.cells #[Value.int .u64 0,.int .u64 0,.int .u64 0,.int .u64 0,.int .u64 0] 368)):=
 RowAt.fresh (sL f 0) (sL_zero f) hs.symm (sL_length f 0).symm (sL_ne f 0) (by rw[sL_length];simp[maxLen])
 have hI1:=hI.alloc (.cells #[Value.int .u64 0,.int .u64 0,.int .u64 0,.int .u64 0,.int .u64 0] 368)
 generalize W.alloc (.cells #[Value.int .u64 0,.int .u64 0,.int .u64 0,.int .u64 0,.int .u64 0] 368)=W1 at rs hI1
 clear hI hs
 go_loopw [8] (fun i wr=>∃j:Nat,j≤25∧i=.int .i64 j∧KI w f wr∧RowAt .u64 368 (w.heap.size+2) 5 (sL f j) wr) (fun i _=>25 - (intOf i).toNat)
 case atStart=>exact⟨0,by omega,rfl,hI1,rs⟩
 case round=>
 obtain⟨j,hj,rfl,hI2,rs2⟩:=hrel
 clear hI1 rs
 by_cases hlt:j<25
 ·have hd:decide ((j:Int)<25)=true:=decide_eq_true (by omega)
  have hjI:(j:Int)<25:=by omega
  obtain⟨m,hm⟩:∃m:Nat,m=j % 5:=⟨_,rfl⟩
  have bm:(m:Int)<5:=by omega
  have t0:(j:Int).tmod 5=(m:Int):=by rw[hm];exact Int.tmod_eq_emod_of_nonneg (by omega)
  have u0:(j:Int) % 5=(m:Int):=by omega
  have hc:=hI2.a.cell (j:=j) (by rw[stL_length];exact hlt)
  rw[stL_get _ j hlt] at hc
  have cs:=rs2.cell (j:=m) (by rw[sL_length];omega)
  rw[sL_get _ _ _ (by omega)] at cs
  have fs:=rs2.free m
  have HX:Hid _:=xorI (cS f j m) (f j) (cS_lt f HF.out _ _) (HF.out j)
  have HS:Hid (∀x:Int,x=((cS f j m^^^f j:Nat):Int)→RowAt .u64 368 (w.heap.size+2) 5 (sL f (j+1)) (wr.setCell ⟨w.heap.size+2,m,none⟩ (.int .u64 x))∧KI w f (wr.setCell ⟨w.heap.size+2,m,none⟩ (.int .u64 x))):=by
  intro x hx
  refine⟨?_,hI2.other (Wrote.set _ m wr _) (Nat.le_refl _)⟩
  rw[←sL_set,←hm,←hx]
  exact rs2.set m x
  generalize f j=q0 at hc HX HS
  generalize cS f j m=q1 at cs HX HS
  clear hI2 rs2 hm
  go_wp2_with fail
  refine wpE_begin 9 (by kernel_rfl) ?_
  refine eU_ 0 rfl ⟨_,by intro W hW;go_simp<;>with_reducible rfl,?_⟩
  try simp only[Act.put,pA_,pB_,pC_]
  refine eU_ 1 rfl ⟨_,by intro W hW;go_simp<;>with_reducible rfl,?_⟩
  try simp only[Act.put,pA_,pB_,pC_]
  refine eU_ 2 rfl ⟨_,by intro W hW;go_simp<;>with_reducible rfl,?_⟩
  try simp only[Act.put,pA_,pB_,pC_]
  refine eU_ 3 rfl ⟨_,by intro W hW;have hcW:=cellU cs hW;go_simp<;>with_reducible rfl,?_⟩
  try simp only[Act.put,pA_,pB_,pC_]
  refine eU_ 4 rfl ⟨_,by intro W hW;go_simp<;>with_reducible rfl,?_⟩
  try simp only[Act.put,pA_,pB_,pC_]
  refine eU_ 5 rfl ⟨_,by intro W hW;go_simp<;>with_reducible rfl,?_⟩
  try simp only[Act.put,pA_,pB_,pC_]
  refine eU_ 6 rfl ⟨_,by intro W hW;have hcW:=cellU hc hW;go_simp<;>with_reducible rfl,?_⟩
  try simp only[Act.put,pA_,pB_,pC_]
  refine eU_ 7 rfl ⟨_,by intro W hW;go_simp<;>with_reducible rfl,?_⟩
  try simp only[Act.put,pA_,pB_,pC_]
  refine eU_ 8 rfl ⟨_,by intro W hW;go_simp<;>with_reducible rfl,?_⟩
  try simp only[Act.put,pA_,pB_,pC_]
  refine eL_ fun K hK=>?_
  go_simp
  refine hK.out _ _ ?_
  clear hK K
  try simp only[Act.put,pA_,pB_,pC_]

  obtain⟨rs3,hI3⟩:=HS.out _ HX.out
  have hI4:=hI3.drew
  have rs4:=rs3.drew
  go_wp2
  go_roundw
  case rel=>exact⟨j+1,by omega,by go_num,hI4,rs4⟩
  case measure=>simp[intOf];omega
 ·have hje:j=25:=by omega
  rw[hje] at rs2
  have hd0:decide ((j:Int)<25)=false:=decide_eq_false (by omega)
  have hj0:(25:Int)≤j:=by omega
  have hI3:KI w (thR f 0 0) wr:=⟨thR_zero f ▸ hI2.a,hI2.r,hI2.b,hI2.t,hI2.two⟩
  clear hI2 hlt hj hje
  go_wp2
  go_loopw [21] (fun i wr=>∃X:Nat,X≤5∧i=.int .i64 X∧KI w (thR f X 0) wr∧RowAt .u64 368 (w.heap.size+2) 5 (sL f 25) wr) (fun i _=>5 - (intOf i).toNat)
  case atStart=>exact⟨0,by omega,rfl,hI3,rs2⟩
  case round=>
  obtain⟨X,hX,rfl,hI4,rs4⟩:=hrel
  clear hI3 rs2
  by_cases hlt:X<5
  ·have hd:decide ((X:Int)<5)=true:=decide_eq_true (by omega)
   have hXI:(X:Int)<5:=by omega
   obtain⟨m4,hm4⟩:∃m:Nat,m=(X+4) % 5:=⟨_,rfl⟩
   obtain⟨m1,hm1⟩:∃m:Nat,m=(X+1) % 5:=⟨_,rfl⟩
   have b4:(m4:Int)<5:=by omega
   have b1:(m1:Int)<5:=by omega
   have v4:IntKind.i64.wrap ((X:Int)+4)=(X:Int)+4:=IntWalk.i64_in _ (by omega)
   have v1:IntKind.i64.wrap ((X:Int)+1)=(X:Int)+1:=IntWalk.i64_in _ (by omega)
   have t4:((X:Int)+4).tmod 5=(m4:Int):=by rw[Int.tmod_eq_emod_of_nonneg (by omega)];omega
   have t1:((X:Int)+1).tmod 5=(m1:Int):=by rw[Int.tmod_eq_emod_of_nonneg (by omega)];omega
   have u4:((X:Int)+4) % 5=(m4:Int):=by omega
   have u1:((X:Int)+1) % 5=(m1:Int):=by omega
   have c4:=rs4.cell (j:=m4) (by rw[sL_length];omega)
   have c1:=rs4.cell (j:=m1) (by rw[sL_length];omega)
   rw[sL_get _ _ _ (by omega),cS_done _ _ (by omega)] at c4 c1
   have HTA:Hid (∀Y,f (X+5 * Y)^^^(colN f m4^^^turnN (colN f m1) 1)=thL f (X+5 * Y)):=by
   intro Y
   rw[hm4,hm1]
   exact th_add f X Y hlt
   have h4:=colN_lt f HF.out m4
   have h1:=colN_lt f HF.out m1
   have HX:Hid _:=xorI (colN f m4) (turnN (colN f m1) 1) h4 (turnN_lt _ _ h1 (by decide))
   have HL:Hid (colN f m4^^^turnN (colN f m1) 1<18446744073709551616):=xor_lt64 h4 (turnN_lt _ _ h1 (by decide))
   generalize colN f m4=q4 at c4 HX HTA HL h4
   generalize colN f m1=q1 at c1 HX HTA HL h1
   have HI:Hid _:=hI4
   have HR:Hid _:=rs4
   clear hI4 rs4 hm4 hm1
   go_wp2_with fail
   refine wpG_begin (by kernel_rfl) ?_
   refine gU_ 0 rfl ⟨_,by intro W hW;go_simp<;>with_reducible rfl,?_⟩
   try simp only[Act.put,pA_,pB_,pC_]
   refine gU_ 1 rfl ⟨_,by intro W hW;go_simp<;>with_reducible rfl,?_⟩
   try simp only[Act.put,pA_,pB_,pC_]
   refine gU_ 2 rfl ⟨_,by intro W hW;go_simp<;>with_reducible rfl,?_⟩
   try simp only[Act.put,pA_,pB_,pC_]
   refine gU_ 3 rfl ⟨_,by intro W hW;go_simp<;>with_reducible rfl,?_⟩
   try simp only[Act.put,pA_,pB_,pC_]
   refine gU_ 4 rfl ⟨_,by intro W hW;have hcW:=cellU c4 hW;go_simp<;>with_reducible rfl,?_⟩
   try simp only[Act.put,pA_,pB_,pC_]
   refine gU_ 5 rfl ⟨_,by intro W hW;go_simp<;>with_reducible rfl,?_⟩
   try simp only[Act.put,pA_,pB_,pC_]
   refine gU_ 6 rfl ⟨_,by intro W hW;go_simp<;>with_reducible rfl,?_⟩
   try simp only[Act.put,pA_,pB_,pC_]
   refine gU_ 7 rfl ⟨_,by intro W hW;go_simp<;>with_reducible rfl,?_⟩
   try simp only[Act.put,pA_,pB_,pC_]
   refine gU_ 8 rfl ⟨_,by intro W hW;go_simp<;>with_reducible rfl,?_⟩
   try simp only[Act.put,pA_,pB_,pC_]
   refine gU_ 9 rfl ⟨_,by intro W hW;have hcW:=cellU c1 hW;go_simp<;>with_reducible rfl,?_⟩
   try simp only[Act.put,pA_,pB_,pC_]
   refine gD_ 10 fun K hK=>?_
   go_simp
   refine(rot_any q1 1 _ _ rfl rfl h1 (by decide) _).mono ?_
   rintro e w' ⟨rfl,rfl⟩
   refine hK.out _ _ (Below.refl _ _) ?_
   clear hK K
   try simp only[Act.put,pA_,pB_,pC_]
   refine gU_ 11 rfl ⟨_,by intro W hW;go_simp<;>with_reducible rfl,?_⟩
   try simp only[Act.put,pA_,pB_,pC_]
   refine gU_ 12 rfl ⟨_,by intro W hW;go_simp<;>with_reducible rfl,?_⟩
   try simp only[Act.put,pA_,pB_,pC_]
   refine wpG_done (by kernel_rfl) ?_

   rw[HX.out]
   have hI5:=HI.out.drew
   have rs5:=HR.out.drew
   generalize q4^^^turnN q1 1=q at HTA HL
   clear HX h4 h1 c4 c1 HI HR v4 v1 t4 t1 u4 u1 b4 b1
   generalize wr.drew=wr1 at hI5 rs5
   clear wr
   go_wp2
   go_loopw [36] (fun i wr=>∃Y:Nat,Y≤5∧i=.int .i64 Y∧KI w (thR f X Y) wr∧RowAt .u64 368 (w.heap.size+2) 5 (sL f 25) wr) (fun i _=>5 - (intOf i).toNat)
   case atStart=>exact⟨0,by omega,rfl,hI5,rs5⟩
   case round=>
   obtain⟨Y,hY,rfl,hI6,rs6⟩:=hrel
   clear hI5 rs5
   by_cases hYlt:Y<5
   ·have hd2:decide ((Y:Int)<5)=true:=decide_eq_true (by omega)
    have hYI:(Y:Int)<5:=by omega
    have hc:=hI6.a.cell (j:=X+5 * Y) (by rw[stL_length];omega)
    have hcf:=hI6.a.free (X+5 * Y)
    rw[stL_get _ _ (by omega),thR_get f X Y hlt] at hc
    have HT:=HTA.out Y
    have HX:Hid _:=xorI (f (X+5 * Y)) q (HF.out _) HL.out
    rw[HT] at HX
    have HS:Hid (∀x:Int,x=((thL f (X+5 * Y):Nat):Int)→KI w (thR f X (Y+1)) (wr.setCell ⟨w.heap.size,X+5 * Y,none⟩ (.int .u64 x))∧RowAt .u64 368 (w.heap.size+2) 5 (sL f 25) (wr.setCell ⟨w.heap.size,X+5 * Y,none⟩ (.int .u64 x))):=by
    intro x hx
    refine⟨hI6.set _ x (by rw[hx];exact thR_set f X Y hlt hYlt),rs6.wrote (Wrote.set _ _ wr _) (by omega)⟩
    generalize f (X+5 * Y)=q0 at hc HX
    have w5:IntKind.i64.wrap (5 * (Y:Int))=5 * (Y:Int):=IntWalk.i64_in _ (by omega)
    have wX:IntKind.i64.wrap ((X:Int)+5 * (Y:Int))=(X:Int)+5 * (Y:Int):=IntWalk.i64_in _ (by omega)
    have nX:((X:Int)+5 * (Y:Int)).toNat=X+5 * Y:=by omega
    have pX:0≤(X:Int)+5 * (Y:Int):=by omega
    have lX:(X:Int)+5 * (Y:Int)<25:=by omega
    clear hI6 rs6 HT
    go_wp2
    obtain⟨hI7,rs7⟩:=HS.out _ HX.out
    go_roundw
    case rel=>exact⟨Y+1,by omega,by go_num,hI7,rs7⟩
    case measure=>simp[intOf];omega
   ·have hYe:Y=5:=by omega
    subst hYe
    have hI7:KI w (thR f (X+1) 0) wr:=⟨thR_next f X ▸ hI6.a,hI6.r,hI6.b,hI6.t,hI6.two⟩
    clear hI6
    go_wp2
    go_roundw
    case rel=>exact⟨X+1,by omega,by go_num,hI7,rs6⟩
    case measure=>simp[intOf];omega
  ·have hXe:X=5:=by omega
   subst hXe
   have r1:=hI4.a
   rw[thR_done] at r1
   have r2:=hI4.r
   go_wp2_with (first|refine wpList_load_row rfl 235 _ rfl rfl r1 _ Tryz.underlying235 rfl (arrInfo _) ?_|(refine wpList_store_row rfl 235 _ _ rfl (stL (thL f)) rfl rfl r2 (by simp[stL_length]) (arrInfo _) ?_;intro w2 r3 hw))
   refine bodyPost_row (p:=2) (ty:=235) rfl rfl rfl r3 Tryz.underlying235 rfl (arrInfo _) ?_
   exact⟨rfl,hw.below _ _ (by omega) hI4.b⟩
structure Cap (ty e:TypeId) (w0:World) (g:Nat) (v:Value) (l:List UInt8) (w:World):Prop where
 var:BlkAt g ty [v] w
 row:w.ownsRow w0.heap.size e 1 v l.length (l.map bv)
 ge:w0.heap.size≤g
 below:Below w0.heap.size w0 w
theorem Cap.apart {ty e:TypeId} {g:Nat} {v u:Value} {l:List UInt8} {base:Nat} {w:World} (hv:BlkAt g ty [u] w) (hr:w.ownsRow base e 1 v l.length (l.map bv)) (hne:ty≠e):v.ownBlock≠some g:=by
 rcases hr.2 with ⟨rfl,h0⟩|⟨g',cap,cur,rfl,hb,hg,hn,hm,hs,ht⟩
 ·simp[Value.ownBlock]
 ·intro h
 have h1:g'=g:=by simpa [Value.ownBlock] using h
 subst h1
 unfold BlkAt at hv
 rw[hg] at hv
 simp at hv
 exact hne hv.2.symm
theorem Cap.rd {ty e:TypeId} {w0 w:World} {g:Nat} {v:Value} {l:List UInt8} (h:Cap ty e w0 g v l w):Rd w v l:=Rd.of_row h.row
theorem Cap.kept {ty e:TypeId} {w0 w w':World} {g:Nat} {v:Value} {l:List UInt8} (h:Cap ty e w0 g v l w) (hb:Below w.heap.size w w'):Cap ty e w0 g v l w':=
 ⟨h.var.kept hb,ownsRow_below h.row hb,h.ge,stepB h.below hb⟩
theorem Cap.cell {ty e:TypeId} {w0 w:World} {g:Nat} {v:Value} {l:List UInt8} (h:Cap ty e w0 g v l w):w.cell? ⟨g,0,none⟩=some v:=by rw[h.var.cell];rfl
theorem Cap.free {ty e:TypeId} {w0 w:World} {g:Nat} {v:Value} {l:List UInt8} (h:Cap ty e w0 g v l w):w.frozen? ⟨g,0,none⟩=false:=h.var.free 0
def lenC (w:World) (g:Nat):Nat:=match w.cell? ⟨g,0,none⟩ with
 |some v=>lenOf v
 |none=>0
theorem Cap.len {ty e:TypeId} {w0 w:World} {g:Nat} {v:Value} {l:List UInt8} (h:Cap ty e w0 g v l w):lenC w g=l.length:=by
 unfold lenC
 rw[h.cell]
 obtain⟨a,c,rfl, -⟩:=h.rd
 rfl

theorem rdL_congr {f g:Nat→Nat} (hf:∀i,f i<18446744073709551616) (hg:∀i,g i<18446744073709551616) (h:∀i,i<25→f i=g i) (n:Nat) (hn:n<24) (k:Nat) (hk:k<25):rdL f n k=rdL g n k:=by
 rw[rdL_eq f hf n hn k hk,rdL_eq g hg n hn k hk]
 exact rdF_congr h n k hk
theorem cells64:Tryz.prog.cellsOf 39=1:=by kernel_rfl
theorem eq_states (f g:Nat→Nat) (A B:Array Value) (hA:A=((stL f).map (Value.int .u64)).toArray) (hB:B=((stL g).map (Value.int .u64)).toArray) (w:World):
 (Op.equalIn 10000 235 (.agg A) (.agg B)).run Tryz.prog w=.ok (decide (stL f=stL g)) w:=by
 subst hA hB
 exact run_equal_row w 9998 Tryz.underlying235 Tryz.underlying39 cells64 _ _ (stL_length f) (stL_length g)

set_option maxHeartbeats 1000000 in
theorem kRound_in (A:Array Value) (f:Nat→Nat) (hf:∀i,f i<18446744073709551616) (hA:A=((stL f).map (Value.int .u64)).toArray) (n:Nat) (hlt:n<24) (w:World) (ht:Tabs w):
 Calls Tryz.prog 339 #[.agg A,.int .i64 (n:Int)] w fun e w'=>e=.returned (arrV (rdL f n))∧Below w.heap.size w w':=by
 have hr:decide (0≤(n:Int)∧(n:Int)≤23)=true:=decide_eq_true (by omega)
 have HA:Hid _:=hA
 have HF:Hid (∀i,f i<18446744073709551616):=hf
 clear hA hf
 have hio:∀g:Nat→Nat,ioI g (n:Int)=ioK g n:=fun g=>by unfold ioI;rw[if_pos (by omega),Int.toNat_natCast]
 have HIO:Hid _:=hio
 clear hio
 go_enter Tryz.func339,Tryz.ntmps339
 go_wp2_with fail
 rw[HA.out]
 obtain⟨W,hW,hI,hs⟩:=two_rows f w _ zeros25 ht
 rw[hW]
 clear hW ht
 refine(isRound_any _ _).mono ?_
 rintro e w1 ⟨rfl,rfl⟩
 rw[hr]
 clear hr
 have r1:=hI.a
 have hq:=eq_states f (fun _=>0) _ _ rfl zeros25 w1
 by_cases hz:stL f=stL (fun _=>0)
 ·rw[decide_eq_true hz] at hq
 have HZ:Hid _:=hz
 clear hz
 go_wp2_with (refine wpList_load_row rfl 235 _ rfl rfl r1 _ Tryz.underlying235 rfl (arrInfo _) ?_)
 refine(kIota_any _ (fun _=>0) (fun _=>by decide) (by rw[HZ.out]) _ _ hI.t).mono ?_
 rintro e w2 ⟨rfl,hB⟩
 rw[HIO.out]
 have hI2:=hI.kept hB
 have r2:=hI2.r
 clear hq r1 hI hs hB
 go_wp2_with ((refine wpList_store_row rfl 235 _ _ rfl (stL (ioK (fun _=>0) n)) rfl rfl r2 (by simp[stL_length]) (arrInfo _) ?_;intro w3 r3 hw))
 refine bodyPost_row (p:=4) (ty:=235) rfl rfl rfl r3 Tryz.underlying235 rfl (arrInfo _) ?_
 refine⟨?_,hw.below _ _ (by omega) hI2.b⟩
 have e:stL (ioK (fun _=>0) n)=stL (rdL f n):=by
  rw[←rdL_noughts]
  exact stL_congr fun k hk=>rdL_congr (fun _=>by decide) HF.out (fun i hi=>(stL_inj HZ.out i hi).symm) n hlt k hk
 show Ending.returned (.agg ((stL (ioK (fun _=>0) n)).map (Value.int .u64)).toArray)=_
 rw[e]
 ·rw[decide_eq_false hz] at hq
 clear hz
 go_wp2_with (refine wpList_load_row rfl 235 _ rfl rfl r1 _ Tryz.underlying235 rfl (arrInfo _) ?_)
 refine(kTheta_any _ f HF.out rfl _ hI.t).mono ?_
 rintro e w2 ⟨rfl,hB⟩
 have hI2:=hI.kept hB
 clear hq r1 hI hs hB
 go_wp2_with fail
 refine(kRho_any _ (thL f) (thL_lt f HF.out) rfl _ hI2.t).mono ?_
 rintro e w3 ⟨rfl,hB⟩
 have hI3:=hI2.kept hB
 clear hI2 hB
 go_wp2_with fail
 refine(kPi_any _ (rhL (thL f)) (rhL_lt _ (thL_lt f HF.out)) rfl _ hI3.t).mono ?_
 rintro e w4 ⟨rfl,hB⟩
 have hI4:=hI3.kept hB
 clear hI3 hB
 go_wp2_with fail
 refine(kChi_any _ (piF (rhL (thL f))) (piF_lt _ (rhL_lt _ (thL_lt f HF.out))) rfl _ hI4.t).mono ?_
 rintro e w5 ⟨rfl,hB⟩
 have hI5:=hI4.kept hB
 clear hI4 hB
 go_wp2_with fail
 refine(kIota_any _ (chL (piF (rhL (thL f)))) (chL_lt _ (piF_lt _ (rhL_lt _ (thL_lt f HF.out)))) rfl _ _ hI5.t).mono ?_
 rintro e w6 ⟨rfl,hB⟩
 rw[HIO.out]
 have hI6:=hI5.kept hB
 have r2:=hI6.r
 clear hI5 hB
 go_wp2_with ((refine wpList_store_row rfl 235 _ _ rfl (stL (rdL f n)) rfl rfl r2 (by simp[stL_length]) (arrInfo _) ?_;intro w7 r3 hw))
 refine bodyPost_row (p:=4) (ty:=235) rfl rfl rfl r3 Tryz.underlying235 rfl (arrInfo _) ?_
 exact⟨rfl,hw.below _ _ (by omega) hI6.b⟩
set_option maxHeartbeats 1000000 in
theorem kF_any (A:Array Value) (f:Nat→Nat) (hf:∀i,f i<18446744073709551616) (hA:A=((stL f).map (Value.int .u64)).toArray) (w:World) (ht:Tabs w):
 Calls Tryz.prog 288 #[.agg A] w fun e w'=>e=.returned (arrV (rdsL f 24))∧Below w.heap.size w w':=by
 have HA:Hid _:=hA
 have HF:Hid (∀i,f i<18446744073709551616):=hf
 clear hA hf
 go_enter Tryz.func288,Tryz.ntmps288
 go_wp2
 rw[HA.out]
 obtain⟨W,hW,hI,hs⟩:=two_rows f w _ zeros25 ht
 rw[hW]
 clear hW ht
 go_loopw [4] (fun i wr=>∃j:Nat,j≤24∧i=.int .i64 j∧KI w (rdsL f j) wr) (fun i _=>24 - (intOf i).toNat)
 case atStart=>exact⟨0,by omega,rfl,hI⟩
 case round=>
 obtain⟨j,hj,rfl,hI2⟩:=hrel
 clear hI hs
 by_cases hlt:j<24
 ·have hd:decide ((j:Int)<24)=true:=decide_eq_true (by omega)
  have hjI:(j:Int)<24:=by omega
  have r1:=hI2.a
  go_wp2_with (refine wpList_load_row rfl 235 _ rfl rfl r1 _ Tryz.underlying235 rfl (arrInfo _) ?_)
  refine(kRound_in _ (rdsL f j) (rdsL_lt f HF.out j (by omega)) rfl j hlt _ hI2.t).mono ?_
  rintro e w2 ⟨rfl,hB⟩
  have hI3:=hI2.kept hB
  have r2:=hI3.a
  clear r1 hI2 hB
  go_wp2_with ((refine wpList_store_row rfl 235 _ _ rfl (stL (rdL (rdsL f j) j)) rfl rfl r2 (by simp[stL_length]) (arrInfo _) ?_;intro w3 r3 hw))
  have hI4:KI w (rdsL f (j+1)) w3:=hI3.whole r3 hw
  go_roundw
  case rel=>exact⟨j+1,by omega,by go_num,hI4⟩
  case measure=>simp[intOf];omega
 ·have hje:j=24:=by omega
  subst hje
  have r1:=hI2.a
  have r2:=hI2.r
  go_wp2_with (first|refine wpList_load_row rfl 235 _ rfl rfl r1 _ Tryz.underlying235 rfl (arrInfo _) ?_|(refine wpList_store_row rfl 235 _ _ rfl (stL (rdsL f 24)) rfl rfl r2 (by simp[stL_length]) (arrInfo _) ?_;intro w2 r3 hw))
  refine bodyPost_row (p:=2) (ty:=235) rfl rfl rfl r3 Tryz.underlying235 rfl (arrInfo _) ?_
  exact⟨rfl,hw.below _ _ (by omega) hI2.b⟩
def fitN (k n:List UInt8):Prop:=k.length=32∧n.length=12
instance (k n:List UInt8):Decidable (fitN k n):=inferInstanceAs (Decidable (_∧_))
end Go.Proofs.YtpgjobpmafbigaaGreatDoor
