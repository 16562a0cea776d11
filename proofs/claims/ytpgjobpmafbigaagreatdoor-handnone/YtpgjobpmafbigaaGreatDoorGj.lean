/- What functions of the program, or of the reference, answer: contracts; several texts in one. -/
import Derived.Test.YtpgjobpmafbigaaGreatDoorGi
import Derived.Test.YtpgjobpmafbigaaGreatDoorGf
import Derived.Test.YtpgjobpmafbigaaGreatDoorGd
import Derived.BigQuiet
import Derived.Test.YtpgjobpmafbigaaGreatDoorBase
import Derived.Test.YtpgjobpmafbigaaGreatDoorGb
import Derived.Test.YtpgjobpmafbigaaGreatDoorGg
import Derived.Deep.DeepCutAuto
import Derived.Test.YtpgjobpmafbigaaGreatDoorGh

namespace Go.Proofs.YtpgjobpmafbigaaGreatDoor
open Go.ChangeShapes Go.WideShapes Go.ChangeAt Go.RowKit
set_option linter.unusedSimpArgs false
set_option linter.unusedVariables false

theorem nplusQ (f g:Nat→FZ) (w:World):Calls Tryz.prog 265 #[poV f,poV g] w fun e w'=>e=.returned (poV fun k=>f k+g k)∧Below w.heap.size w w':=by
 have:=nplus_any _ _ (fzF f) (fzF g) (Po.fz f) (Po.fz g) rfl rfl w
 rw[rF_fz,rF_fz] at this
 exact this
theorem ntimesQ (f g:Nat→FZ) (w:World) (hT:PwT w):Calls Tryz.prog 286 #[poV f,poV g] w fun e w'=>e=.returned (poV (tm f g))∧Below w.heap.size w w':=by
 have:=ntimes_any _ _ (fzF f) (fzF g) (Po.fz f) (Po.fz g) rfl rfl w hT
 rw[rF_fz,rF_fz] at this
 exact this
theorem nforwardQ (f:Nat→FZ) (w:World) (hT:PwT w):Calls Tryz.prog 186 #[poV f] w fun e w'=>e=.returned (poV (fwd f))∧Below w.heap.size w w':=by
 have:=nforward_any _ (fzF f) (Po.fz f) rfl w hT
 rw[rF_fz] at this
 exact this
theorem spackQ (d:Nat) (D:Int) (hD:D=(d:Int)) (h1:1≤d) (h12:d≤12) (f:Nat→FZ) (w:World):Calls Tryz.prog 196 #[.int .i64 D,poV f] w fun r w'=>∃v,r=.returned v∧New 5 w v (pkL d (fzF f)) w':=
 spack_any d D hD h1 h12 _ (fzF f) (Po.fz f) rfl w

theorem ofN_wrap13 (n:Nat):IntKind.u8.wrap (n:Int)=(((UInt8.ofNat n).toNat:Nat):Int):=by
 rw[IntKind.wrap_u8,UInt8.toNat_ofNat']
 omega
theorem ofN_mod13 (n:Nat):(n:Int) % 256=(((UInt8.ofNat n).toNat:Nat):Int):=by
 rw[UInt8.toNat_ofNat']
 omega

set_option maxRecDepth 100000 in
set_option maxHeartbeats 2000000 in
theorem small_any (v:Value) (l:List UInt8) (n:Nat) (N:Int) (hN:N=(n:Int)) (hl:l.length=32) (w:World) (hr:Rd w v l) (hT:Tabs w):
  Calls Tryz.prog 253 #[v,.int .i64 N] w fun e w'=>e=.returned (poV (slF l n))∧Below w.heap.size w w':=by
 have HR:Hid (Rd w v l):=hr
 have HL:Hid (l.length=32):=hl
 have i1:=ofN_wrap13 n
 have i2:=ofN_mod13 n
 obtain⟨bi,hbi⟩:∃x:UInt8,x=UInt8.ofNat n:=⟨_,rfl⟩
 rw[←hbi] at i1 i2
 have HB:Hid _:=hbi
 subst hN
 clear hr hl hbi
 go_enter Tryz.func253,Tryz.ntmps253
 go_wp2_with (refine wpList_alloc_blk rfl 224 rfl (poC fun _=>0) (allocP13 _) ?_)
 intro w1 rz b1 s1
 replace hT:=hT.kept b1
 have hbw:=b1
 have n1:w.heap.size<w1.heap.size:=by have:=s1.out;omega
 have HR1:Hid (Rd w1 v l):=Rd.kept HR.out b1
 clear b1 s1
 go_wp2_with fail
 refine(sprf_any 2 _ rfl (by decide) (by decide) _ l bi _ rfl (by rw[HL.out];decide) _ HR1.out hT).mono ?_
 rintro e w2 ⟨rfl,b2⟩
 replace rz:=rz.kept b2
 replace hbw:=stepB hbw b2
 have n2:=b2.size
 clear b2 hT
 obtain⟨f,hf⟩:∃f:Nat→FZ,f=nsF 2 (otL (abF 136 31 (l++[bi])) 136 (64 * 2)):=⟨_,rfl⟩
 rw[←hf]
 have HF:Hid _:=hf
 clear hf
 go_wp2_with (refine wpList_alloc_blk rfl 224 rfl (poC fun _=>0) (allocP13 _) ?_)
 intro w3 rp b3 s3
 replace rz:=rz.kept b3
 replace hbw:=stepB hbw b3
 clear b3 s3
 go_wp2_with (refine wpList_store_part rfl 224 _ _ rfl rfl (poC f) rfl [] (poC fun _=>0) [] (poC f) rp (whole13 _) (whole13 _) rfl (by rw[poC_length,poC_length]) (infoP13 _) (poC_all _) ?_)
 intro w4 r4 hw4
 replace rz:=rz.wrote hw4 (by omega)
 replace hbw:=hw4.below _ _ (by omega) hbw
 clear rp hw4
 go_wp2_with (first|refine wpList_load_part rfl 224 _ rfl rfl [] (poC f) [] r4 (whole13 _) rfl Tryz.underlying224 rfl (infoP13 _) ?_|(refine wpList_store_part rfl 224 _ _ rfl rfl (poC f) rfl [] (poC fun _=>0) [] (poC f) rz (whole13 _) (whole13 _) rfl (by rw[poC_length,poC_length]) (infoP13 _) (poC_all _) ?_;intro w7 r7 hw7))
 refine bodyPost_blk rfl rfl rfl r7 Tryz.underlying224 rfl (infoP13 _) ?_
 exact⟨by rw[HF.out,HB.out];rfl,hw7.below _ _ (Nat.le_refl _) hbw⟩

theorem mkf13 (fn:Fn) (first cap:Array Value) (w:World):(Instr.makeFunc fn first cap).run Tryz.prog w=.ok (.func fn first cap) w:=rfl
theorem boxI13 (x:Int) (w:World):(Instr.box 3 (.int .i64 x)).run Tryz.prog w=.ok (.pointer (some ⟨w.heap.size,0,none⟩)) (w.alloc (.cells #[.int .i64 x] 3)):=rfl
theorem boxS13 (a:Option Addr) (n c:Nat) (w:World):(Instr.box 26 (.slice a n c)).run Tryz.prog w=.ok (.pointer (some ⟨w.heap.size,0,none⟩)) (w.alloc (.cells #[.slice a n c] 26)):=rfl
theorem boxF13 (f:Fn) (a c:Array Value) (w:World):(Instr.box 229 (.func f a c)).run Tryz.prog w=.ok (.pointer (some ⟨w.heap.size,0,none⟩)) (w.alloc (.cells #[.func f a c] 229)):=rfl
theorem boxM13 (f:Fn) (a c:Array Value) (w:World):(Instr.box 231 (.func f a c)).run Tryz.prog w=.ok (.pointer (some ⟨w.heap.size,0,none⟩)) (w.alloc (.cells #[.func f a c] 231)):=rfl

set_option maxRecDepth 100000 in
set_option maxHeartbeats 2000000 in
theorem csmall_any (v:Value) (l:List UInt8) (first i gs gf:Nat) (hf:first≤100) (hi:i<3) (hl:l.length=32) (w:World) (hs:BlkAt gs 26 [v] w) (hn:BlkAt gf 3 [.int .i64 (first:Int)] w) (hr:Rd w v l) (hT:Tabs w):
  Calls Tryz.prog 252 #[.int .i64 (i:Int),.pointer (some ⟨gs,0,none⟩),.pointer (some ⟨gf,0,none⟩)] w fun e w'=>e=.returned (poV (slF l (first+i)))∧Below w.heap.size w w':=by
 have HR:Hid (Rd w v l):=hr
 have HL:Hid (l.length=32):=hl
 have hsum:IntKind.i64.wrap ((first:Int)+(i:Int))=((first+i:Nat):Int):=by rw[IntWalk.i64_in _ (by omega)];omega
 obtain⟨n,hn0⟩:∃n:Nat,n=first+i:=⟨_,rfl⟩
 rw[←hn0] at hsum ⊢
 clear hr hl hn0
 go_enter Tryz.func252,Tryz.ntmps252
 go_wp2_with (refine wpList_alloc_blk rfl 224 rfl (poC fun _=>0) (allocP13 _) ?_)
 intro w1 rz b1 s1
 have hcs:=(hs.kept b1).one
 have hcn:=(hn.kept b1).one
 have HR1:Hid (Rd w1 v l):=Rd.kept HR.out b1
 replace hT:=hT.kept b1
 have hbw:=b1
 clear b1 s1 hs hn
 go_wp2_with fail
 refine(small_any _ l n _ rfl HL.out _ HR1.out hT).mono ?_
 rintro e w2 ⟨rfl,b2⟩
 replace rz:=rz.kept b2
 replace hbw:=stepB hbw b2
 clear b2 hT hcs hcn
 obtain⟨f,hf⟩:∃f:Nat→FZ,f=slF l n:=⟨_,rfl⟩
 rw[←hf]
 have HF:Hid _:=hf
 clear hf
 go_wp2_with (refine wpList_store_part rfl 224 _ _ rfl rfl (poC f) rfl [] (poC fun _=>0) [] (poC f) rz (whole13 _) (whole13 _) rfl (by rw[poC_length,poC_length]) (infoP13 _) (poC_all _) ?_;intro w7 r7 hw7)
 refine bodyPost_blk rfl rfl rfl r7 Tryz.underlying224 rfl (infoP13 _) ?_
 exact⟨by rw[HF.out],hw7.below _ _ (Nat.le_refl _) hbw⟩

set_option maxRecDepth 100000 in
set_option maxHeartbeats 2000000 in
theorem smallRow_any (v:Value) (l:List UInt8) (first:Nat) (N:Int) (hN:N=(first:Int)) (hf:first≤100) (hl:l.length=32) (w:World) (hr:Rd w v l) (hT:Tabs w):
  Calls Tryz.prog 184 #[v,.int .i64 N] w fun e w'=>e=.returned (rwV fun i=>slF l (first+i))∧Below w.heap.size w w':=by
 subst hN
 have hmf:=mkf13
 have HR:Hid (Rd w v l):=hr
 have HL:Hid (l.length=32):=hl
 obtain⟨av,cv,rfl, -, -, -, -⟩:=id hr
 clear hr hl
 go_enter Tryz.func184,Tryz.ntmps184
 go_wp2_with (refine wpList_box_val rfl 26 _ rfl (.slice av l.length cv) rfl (boxS13 _ _ _ _) ?_)
 intro w1 rs b1 s1
 go_wp2_with (refine wpList_box_val rfl 3 _ rfl (.int .i64 (first:Int)) rfl (boxI13 _ _) ?_)
 intro w2 rn b2 s2
 go_wp2_with (refine wpList_alloc_blk rfl 226 rfl (rwC fun _ _=>0) (allocW13 _) ?_)
 intro w3 rz b3 s3
 replace rs:=(rs.kept b2).kept b3
 replace rn:=rn.kept b3
 have hbw:=stepB (stepB b1 b2) b3
 have HR3:Hid (Rd w3 (.slice av l.length cv) l):=Rd.kept HR.out hbw
 replace hT:=hT.kept hbw
 have n1:w.heap.size<w1.heap.size:=by have:=s1.out;omega
 have n2:w1.heap.size<w2.heap.size:=by have:=s2.out;omega
 clear b1 b2 b3 s1 s2 s3
 go_wp2_with fail
 refine(rowOf_any 252 _ (fun i=>slF l (first+i)) _ (enters_by Tryz.func252 (by kernel_rfl) rfl) fun i hi W hW=>by rw[app2];exact csmall_any _ l first i _ _ hf hi HL.out W (rs.kept hW) (rn.kept hW) (Rd.kept HR3.out hW) (hT.kept hW)).mono ?_
 rintro e w4 ⟨rfl,b4⟩
 replace rz:=rz.kept b4
 replace hbw:=stepB hbw b4
 obtain⟨g,hg⟩:∃g:Nat→Nat→FZ,g=fun i=>slF l (first+i):=⟨_,rfl⟩
 rw[←hg]
 have HG:Hid _:=hg
 clear hg b4 rs rn hT
 go_wp2_with (refine wpList_store_part rfl 226 _ _ rfl rfl (rwC g) rfl [] (rwC fun _ _=>0) [] (rwC g) rz (whole13 _) (whole13 _) rfl (by rw[prC13_length,prC13_length]) (infoW13 _) (rwC_all _) ?_;intro w7 r7 hw7)
 refine bodyPost_blk rfl rfl rfl r7 Tryz.underlying226 rfl (infoW13 _) ?_
 exact⟨by rw[HG.out],hw7.below _ _ (by omega) hbw⟩

set_option maxRecDepth 100000 in
set_option maxHeartbeats 2000000 in
theorem ceach_any (K:FuncId) (caps:Array Value) (g h:Nat→Nat→FZ) (gc gr:Nat) (i:Nat) (hi:i<3) (w:World) (hc:BlkAt gc 229 [.func (.func K) #[] caps] w) (hr:BlkAt gr 226 (rwC g) w)
  (hE:∀(args:Array Value) (w:World),(callFunc K args).run Tryz.prog w=.ok (.enter K args) w)
  (hK:∀W,Below w.heap.size w W→Calls Tryz.prog K (#[poV (g i)]++caps) W fun e w'=>e=.returned (poV (h i))∧Below W.heap.size W w'):
  Calls Tryz.prog 254 #[.int .i64 (i:Int),.pointer (some ⟨gc,0,none⟩),.pointer (some ⟨gr,0,none⟩)] w fun e w'=>e=.returned (poV (h i))∧Below w.heap.size w w':=by
 have HK:Hid _:=hK
 obtain⟨post,hp⟩:=prC13_split g i 3 hi
 have HP:Hid _:=hp
 have hiI:(i:Int)<3:=by omega
 clear hK hp
 go_enter Tryz.func254,Tryz.ntmps254
 go_wp2_with (refine wpList_alloc_blk rfl 224 rfl (poC fun _=>0) (allocP13 _) ?_)
 intro w1 rz b1 s1
 have hcc:=(hc.kept b1).one
 have hr1:=hr.kept b1
 have hbw:=b1
 clear b1 s1 hc hr
 go_wp2_with fail
 refine wpE_begin 5 (by kernel_rfl) ?_
 refine eU_ 0 rfl ⟨_,by intro W hW;have hcW:=cellD11 hcc hW;go_simp<;>with_reducible rfl,?_⟩
 try simp only[Act.put,pA_,pB_,pC_]
 refine eU_ 1 rfl ⟨_,by intro W hW;go_simp<;>with_reducible rfl,?_⟩
 try simp only[Act.put,pA_,pB_,pC_]
 refine eU_ 2 rfl ⟨_,by intro W hW;go_simp<;>with_reducible rfl,?_⟩
 try simp only[Act.put,pA_,pB_,pC_]
 refine eU_ 3 rfl ⟨_,by intro W hW;refine Eq.trans (exec_load_part 224 _ (by rfl) (by rfl) (prC13 g i) (poC (g i)) post hr1.drew hW HP.out (by rw[prC13_length];omega) Tryz.underlying224 rfl (infoP13 _)) ?_;with_reducible rfl,?_⟩
 try simp only[Act.put,pA_,pB_,pC_]
 refine eD_ 4 fun K hK=>?_
 go_simp
 refine(HK.out _ hbw.drew).mono ?_
 rintro e wq ⟨rfl,bq⟩
 refine hK.out _ _ bq ?_
 clear hK K
 try simp only[Act.put,pA_,pB_,pC_]
 refine eL_ fun K hK=>?_
 refine wp_store_part 224 _ _ rfl rfl (poC (h i)) rfl [] (poC fun _=>0) [] (poC (h i)) (rz.drew.kept bq) (whole13 _) (whole13 _) rfl (by rw[poC_length,poC_length]) (infoP13 _) (poC_all _) ?_
 intro wS rS hwS
 refine hK.out _ _ ?_
 clear hK K
 try simp only[Act.put,pA_,pB_,pC_]
 go_wp2_with fail
 refine bodyPost_blk rfl rfl rfl rS Tryz.underlying224 rfl (infoP13 _) ?_
 exact⟨rfl,hwS.below _ _ (Nat.le_refl _) (stepB hbw.drew bq)⟩
set_option maxRecDepth 100000 in
set_option maxHeartbeats 2000000 in
theorem each_any (K:FuncId) (caps A:Array Value) (g h:Nat→Nat→FZ) (hA:A=(rwC g).toArray) (w:World) (hE:∀(args:Array Value) (w:World),(callFunc K args).run Tryz.prog w=.ok (.enter K args) w)
  (hK:∀i,i<3→∀W,Below w.heap.size w W→Calls Tryz.prog K (#[poV (g i)]++caps) W fun e w'=>e=.returned (poV (h i))∧Below W.heap.size W w'):
  Calls Tryz.prog 185 #[.agg A,.func (.func K) #[] caps] w fun e w'=>e=.returned (rwV h)∧Below w.heap.size w w':=by
 have hmf:=mkf13
 have HK:Hid _:=hK
 have HE:Hid _:=hE
 clear hK
 go_enter Tryz.func185,Tryz.ntmps185
 go_wp2_with (refine wpList_box_blk rfl 226 _ rfl (rwC g) (by rw[←hA];rfl) ?_)
 intro w1 rr b1 s1
 go_wp2_with (refine wpList_box_val rfl 229 _ rfl (.func (.func K) #[] caps) rfl (boxF13 _ _ _ _) ?_)
 intro w2 rc b2 s2
 go_wp2_with (refine wpList_alloc_blk rfl 226 rfl (rwC fun _ _=>0) (allocW13 _) ?_)
 intro w3 rz b3 s3
 replace rr:=(rr.kept b2).kept b3
 replace rc:=rc.kept b3
 have hbw:=stepB (stepB b1 b2) b3
 have n1:w.heap.size<w1.heap.size:=by have:=s1.out;omega
 have n2:w1.heap.size<w2.heap.size:=by have:=s2.out;omega
 clear b1 b2 b3 s1 s2 s3 hA
 go_wp2_with fail
 refine(rowOf_any 254 _ h _ (enters_by Tryz.func254 (by kernel_rfl) rfl) fun i hi W hW=>by rw[app2];exact ceach_any K caps g h _ _ i hi W (rc.kept hW) (rr.kept hW) HE.out (fun W2 h2=>HK.out i hi W2 (stepB (stepB hbw hW) h2))).mono ?_
 rintro e w4 ⟨rfl,b4⟩
 replace rz:=rz.kept b4
 replace hbw:=stepB hbw b4
 clear b4 rr rc
 go_wp2_with (refine wpList_store_part rfl 226 _ _ rfl rfl (rwC h) rfl [] (rwC fun _ _=>0) [] (rwC h) rz (whole13 _) (whole13 _) rfl (by rw[prC13_length,prC13_length]) (infoW13 _) (rwC_all _) ?_;intro w7 r7 hw7)
 refine bodyPost_blk rfl rfl rfl r7 Tryz.underlying226 rfl (infoW13 _) ?_
 exact⟨rfl,hw7.below _ _ (by omega) hbw⟩

set_option maxRecDepth 100000 in
set_option maxHeartbeats 2000000 in
theorem crplus_any (f g:Nat→Nat→FZ) (ga gb:Nat) (i:Nat) (hi:i<3) (w:World) (ra:BlkAt ga 226 (rwC f) w) (rb:BlkAt gb 226 (rwC g) w):
  Calls Tryz.prog 264 #[.int .i64 (i:Int),.pointer (some ⟨ga,0,none⟩),.pointer (some ⟨gb,0,none⟩)] w fun e w'=>e=.returned (poV fun k=>f i k+g i k)∧Below w.heap.size w w':=by
 obtain⟨pa,hpa⟩:=prC13_split f i 3 hi
 obtain⟨pb,hpb⟩:=prC13_split g i 3 hi
 have HA:Hid _:=hpa
 have HB:Hid _:=hpb
 have hiI:(i:Int)<3:=by omega
 clear hpa hpb
 go_enter Tryz.func264,Tryz.ntmps264
 go_wp2_with (refine wpList_alloc_blk rfl 224 rfl (poC fun _=>0) (allocP13 _) ?_)
 intro w1 rz b1 s1
 replace ra:=ra.kept b1
 replace rb:=rb.kept b1
 have hbw:=b1
 clear b1 s1
 go_wp2_with fail
 refine wpE_begin 7 (by kernel_rfl) ?_
 refine eU_ 0 rfl ⟨_,by intro W hW;go_simp<;>with_reducible rfl,?_⟩
 try simp only[Act.put,pA_,pB_,pC_]
 refine eU_ 1 rfl ⟨_,by intro W hW;go_simp<;>with_reducible rfl,?_⟩
 try simp only[Act.put,pA_,pB_,pC_]
 refine eU_ 2 rfl ⟨_,by intro W hW;refine Eq.trans (exec_load_part 224 _ (by rfl) (by rfl) (prC13 f i) (poC (f i)) pa ra.drew hW HA.out (by rw[prC13_length];omega) Tryz.underlying224 rfl (infoP13 _)) ?_;with_reducible rfl,?_⟩
 try simp only[Act.put,pA_,pB_,pC_]
 refine eU_ 3 rfl ⟨_,by intro W hW;go_simp<;>with_reducible rfl,?_⟩
 try simp only[Act.put,pA_,pB_,pC_]
 refine eU_ 4 rfl ⟨_,by intro W hW;go_simp<;>with_reducible rfl,?_⟩
 try simp only[Act.put,pA_,pB_,pC_]
 refine eU_ 5 rfl ⟨_,by intro W hW;refine Eq.trans (exec_load_part 224 _ (by rfl) (by rfl) (prC13 g i) (poC (g i)) pb rb.drew hW HB.out (by rw[prC13_length];omega) Tryz.underlying224 rfl (infoP13 _)) ?_;with_reducible rfl,?_⟩
 try simp only[Act.put,pA_,pB_,pC_]
 refine eD_ 6 fun K hK=>?_
 go_simp
 refine(nplusQ (f i) (g i) _).mono ?_
 rintro e wq ⟨rfl,bq⟩
 refine hK.out _ _ bq ?_
 clear hK K
 try simp only[Act.put,pA_,pB_,pC_]
 refine eL_ fun K hK=>?_
 refine wp_store_part 224 _ _ rfl rfl (poC fun k=>f i k+g i k) rfl [] (poC fun _=>0) [] (poC fun k=>f i k+g i k) (rz.drew.kept bq) (whole13 _) (whole13 _) rfl (by rw[poC_length,poC_length]) (infoP13 _) (poC_all _) ?_
 intro wS rS hwS
 refine hK.out _ _ ?_
 clear hK K
 try simp only[Act.put,pA_,pB_,pC_]
 go_wp2_with fail
 refine bodyPost_blk rfl rfl rfl rS Tryz.underlying224 rfl (infoP13 _) ?_
 exact⟨rfl,hwS.below _ _ (Nat.le_refl _) (stepB hbw.drew bq)⟩

set_option maxRecDepth 100000 in
set_option maxHeartbeats 2000000 in
theorem rplus_any (A B:Array Value) (f g:Nat→Nat→FZ) (hA:A=(rwC f).toArray) (hB:B=(rwC g).toArray) (w:World):
  Calls Tryz.prog 189 #[.agg A,.agg B] w fun e w'=>e=.returned (rwV fun i k=>f i k+g i k)∧Below w.heap.size w w':=by
 have hmf:=mkf13
 go_enter Tryz.func189,Tryz.ntmps189
 go_wp2_with (refine wpList_box_blk rfl 226 _ rfl (rwC f) (by rw[←hA];rfl) ?_)
 intro w1 ra b1 s1
 clear hA
 go_wp2_with (refine wpList_box_blk rfl 226 _ rfl (rwC g) (by rw[←hB];rfl) ?_)
 intro w2 rb b2 s2
 go_wp2_with (refine wpList_alloc_blk rfl 226 rfl (rwC fun _ _=>0) (allocW13 _) ?_)
 intro w3 rz b3 s3
 replace ra:=(ra.kept b2).kept b3
 replace rb:=rb.kept b3
 have hbw:=stepB (stepB b1 b2) b3
 have n1:w.heap.size<w1.heap.size:=by have:=s1.out;omega
 have n2:w1.heap.size<w2.heap.size:=by have:=s2.out;omega
 clear b1 b2 b3 s1 s2 s3 hB
 go_wp2_with fail
 refine(rowOf_any 264 _ (fun i k=>f i k+g i k) _ (enters_by Tryz.func264 (by kernel_rfl) rfl) fun i hi W hW=>by rw[app2];exact crplus_any f g _ _ i hi W (ra.kept hW) (rb.kept hW)).mono ?_
 rintro e w4 ⟨rfl,b4⟩
 replace rz:=rz.kept b4
 replace hbw:=stepB hbw b4
 clear b4 ra rb
 go_wp2_with (refine wpList_store_part rfl 226 _ _ rfl rfl (rwC fun i k=>f i k+g i k) rfl [] (rwC fun _ _=>0) [] (rwC fun i k=>f i k+g i k) rz (whole13 _) (whole13 _) rfl (by rw[prC13_length,prC13_length]) (infoW13 _) (rwC_all _) ?_;intro w7 r7 hw7)
 refine bodyPost_blk rfl rfl rfl r7 Tryz.underlying226 rfl (infoW13 _) ?_
 exact⟨rfl,hw7.below _ _ (by omega) hbw⟩

set_option maxRecDepth 100000 in
set_option maxHeartbeats 4000000 in
theorem rtimes_any (A B:Array Value) (f g:Nat→Nat→FZ) (hA:A=(rwC f).toArray) (hB:B=(rwC g).toArray) (w:World) (hT:PwT w):
  Calls Tryz.prog 203 #[.agg A,.agg B] w fun e w'=>e=.returned (poV (acF (fun _=>0) (fun j=>tm (f j) (g j)) 3))∧Below w.heap.size w w':=by
 go_enter Tryz.func203,Tryz.ntmps203
 go_wp2_with (refine wpList_box_blk rfl 226 _ rfl (rwC f) (by rw[←hA];rfl) ?_)
 intro w1 ra b1 s1
 clear hA
 go_wp2_with (refine wpList_box_blk rfl 226 _ rfl (rwC g) (by rw[←hB];rfl) ?_)
 intro w2 rb b2 s2
 go_wp2_with (refine wpList_alloc_blk rfl 224 rfl (poC fun _=>0) (allocP13 _) ?_)
 intro w3 rz b3 s3
 go_wp2_with (refine wpList_alloc_blk rfl 224 rfl (poC fun _=>0) (allocP13 _) ?_)
 intro w4 rs b4 s4
 replace ra:=((ra.kept b2).kept b3).kept b4
 replace rb:=(rb.kept b3).kept b4
 replace rz:=rz.kept b4
 have hbw:=stepB (stepB (stepB b1 b2) b3) b4
 have n1:w.heap.size<w1.heap.size:=by have:=s1.out;omega
 have n2:w1.heap.size<w2.heap.size:=by have:=s2.out;omega
 have n3:w2.heap.size<w3.heap.size:=by have:=s3.out;omega
 have r0:BlkAt w3.heap.size 224 (poC (acF (fun _=>0) (fun j=>tm (f j) (g j)) 0)) w4:=rs
 clear b1 b2 b3 b4 s1 s2 s3 s4 hB rs
 go_wp2
 go_loopw [7] (fun iv wx=>∃i:Nat,i≤3∧iv=.int .i64 (i:Int)∧BlkAt w.heap.size 226 (rwC f) wx∧BlkAt w1.heap.size 226 (rwC g) wx∧BlkAt w2.heap.size 224 (poC fun _=>0) wx∧BlkAt w3.heap.size 224 (poC (acF (fun _=>0) (fun j=>tm (f j) (g j)) i)) wx∧Below w.heap.size w wx) (fun iv _=>3 - (intOf iv).toNat)
 case atStart=>exact⟨0,by omega,rfl,ra,rb,rz,r0,hbw⟩
 case round=>
  obtain⟨i,hi,rfl,ra',rb',rz',rs',hbx⟩:=hrel
  clear ra rb rz r0 hbw
  by_cases hlt:i<3
  ·have hd:decide ((i:Int)<3)=true:=decide_eq_true (by omega)
   have hiI:(i:Int)<3:=by omega
   obtain⟨pa,hpa⟩:=prC13_split f i 3 hlt
   obtain⟨pb,hpb⟩:=prC13_split g i 3 hlt
   have HA:Hid _:=hpa
   have HB:Hid _:=hpb
   have HNx:Hid (∀x y:Nat→FZ,x=acF (fun _=>0) (fun j=>tm (f j) (g j)) i→y=tm (f i) (g i)→(fun k=>x k+y k)=acF (fun _=>0) (fun j=>tm (f j) (g j)) (i+1)):=by
    intro x y hx hy
    rw[hx,hy]
    rfl
   obtain⟨f0,hf0⟩:∃x:Nat→FZ,x=acF (fun _=>0) (fun j=>tm (f j) (g j)) i:=⟨_,rfl⟩
   rw[←hf0] at rs'
   have HF0:Hid _:=hf0
   have HT:Hid (PwT wr):=hT.kept hbx
   clear hpa hpb hf0
   go_wp2_with fail
   refine wpE_begin 9 (by kernel_rfl) ?_
   refine eU_ 0 rfl ⟨_,by intro W hW;refine Eq.trans (exec_load_part 224 _ (by rfl) (by rfl) [] (poC f0) [] rs'.drew hW (whole13 _) rfl Tryz.underlying224 rfl (infoP13 _)) ?_;with_reducible rfl,?_⟩
   try simp only[Act.put,pA_,pB_,pC_]
   refine eU_ 1 rfl ⟨_,by intro W hW;go_simp<;>with_reducible rfl,?_⟩
   try simp only[Act.put,pA_,pB_,pC_]
   refine eU_ 2 rfl ⟨_,by intro W hW;go_simp<;>with_reducible rfl,?_⟩
   try simp only[Act.put,pA_,pB_,pC_]
   refine eU_ 3 rfl ⟨_,by intro W hW;refine Eq.trans (exec_load_part 224 _ (by rfl) (by rfl) (prC13 f i) (poC (f i)) pa ra'.drew hW HA.out (by rw[prC13_length];omega) Tryz.underlying224 rfl (infoP13 _)) ?_;with_reducible rfl,?_⟩
   try simp only[Act.put,pA_,pB_,pC_]
   refine eU_ 4 rfl ⟨_,by intro W hW;go_simp<;>with_reducible rfl,?_⟩
   try simp only[Act.put,pA_,pB_,pC_]
   refine eU_ 5 rfl ⟨_,by intro W hW;go_simp<;>with_reducible rfl,?_⟩
   try simp only[Act.put,pA_,pB_,pC_]
   refine eU_ 6 rfl ⟨_,by intro W hW;refine Eq.trans (exec_load_part 224 _ (by rfl) (by rfl) (prC13 g i) (poC (g i)) pb rb'.drew hW HB.out (by rw[prC13_length];omega) Tryz.underlying224 rfl (infoP13 _)) ?_;with_reducible rfl,?_⟩
   try simp only[Act.put,pA_,pB_,pC_]
   refine eD_ 7 fun K hK=>?_
   go_simp
   refine(ntimesQ (f i) (g i) _ (HT.out.kept (Below.refl _ _).drew)).mono ?_
   rintro e wq ⟨rfl,bq⟩
   refine hK.out _ _ bq ?_
   clear hK K
   try simp only[Act.put,pA_,pB_,pC_]
   refine eD_ 8 fun K hK=>?_
   go_simp
   refine(nplusQ f0 (tm (f i) (g i)) _).mono ?_
   rintro e wm ⟨rfl,bm⟩
   rw[HNx.out f0 (tm (f i) (g i)) HF0.out rfl]
   refine hK.out _ _ bm ?_
   clear hK K
   try simp only[Act.put,pA_,pB_,pC_]
   refine eL_ fun K hK=>?_
   refine wp_store_part 224 _ _ rfl rfl (poC (acF (fun _=>0) (fun j=>tm (f j) (g j)) (i+1))) rfl [] (poC f0) [] (poC (acF (fun _=>0) (fun j=>tm (f j) (g j)) (i+1))) ((rs'.drew.kept bq).kept bm) (whole13 _) (whole13 _) rfl (by rw[poC_length,poC_length]) (infoP13 _) (poC_all _) ?_
   intro wS rS hwS
   refine hK.out _ _ ?_
   clear hK K
   try simp only[Act.put,pA_,pB_,pC_]
   have hbn:=hwS.below _ _ (by omega) (stepB (stepB hbx.drew bq) bm)
   have ran:=((ra'.drew.kept bq).kept bm).wrote hwS (by omega)
   have rbn:=((rb'.drew.kept bq).kept bm).wrote hwS (by omega)
   have rzn:=((rz'.drew.kept bq).kept bm).wrote hwS (by omega)
   clear ra' rb' rz' rs' hbx bq bm hwS HNx HF0 HT
   go_wp2
   go_roundw
   case rel=>exact⟨i+1,by omega,by go_num,ran,rbn,rzn,rS,hbn⟩
   case measure=>simp[intOf]<;>omega
  ·have hie:i=3:=by omega
   have hd:decide ((i:Int)<3)=false:=decide_eq_false (by omega)
   have hiI:(3:Int)≤(i:Int):=by omega
   rw[hie] at rs'
   obtain⟨f0,hf0⟩:∃x:Nat→FZ,x=acF (fun _=>0) (fun j=>tm (f j) (g j)) 3:=⟨_,rfl⟩
   rw[←hf0] at rs'
   have HF0:Hid _:=hf0
   clear hie hf0
   go_wp2_with (first|refine wpList_load_part rfl 224 _ rfl rfl [] (poC f0) [] rs' (whole13 _) rfl Tryz.underlying224 rfl (infoP13 _) ?_|(refine wpList_store_part rfl 224 _ _ rfl rfl (poC f0) rfl [] (poC fun _=>0) [] (poC f0) rz' (whole13 _) (whole13 _) rfl (by rw[poC_length,poC_length]) (infoP13 _) (poC_all _) ?_;intro w7 r7 hw7))
   refine bodyPost_blk rfl rfl rfl r7 Tryz.underlying224 rfl (infoP13 _) ?_
   exact⟨by rw[HF0.out],hw7.below _ _ (by omega) hbx⟩
structure Tells (w:World) (v:Value) (M:Nat→Nat→Nat→FZ):Prop where
 by_:∃(K:FuncId) (caps:Array Value),v=.func (.func K) #[] caps∧(∀(args:Array Value) (w:World),(callFunc K args).run Tryz.prog w=.ok (.enter K args) w)∧
  ∀i j:Nat,i<3→j<3→∀W,Below w.heap.size w W→Calls Tryz.prog K (#[Value.int .i64 (i:Int),Value.int .i64 (j:Int)]++caps) W fun e w'=>e=.returned (poV (M i j))∧Below W.heap.size W w'
theorem Tells.kept {w w':World} {v:Value} {M:Nat→Nat→Nat→FZ} (h:Tells w v M) (hb:Below w.heap.size w w'):Tells w' v M:=by
 obtain⟨K,caps,e,hE,hK⟩:=h.by_
 exact⟨K,caps,e,hE,fun i j hi hj W hW=>hK i j hi hj W (stepB hb hW)⟩
theorem app21 (u v c:Value):#[u,v]++#[c]=#[u,v,c]:=rfl
theorem New.two13 {e:TypeId} {w w':World} {v:Value} {l1 l2:List UInt8} (h:New e w v [l1,l2].flatten w'):New e w v (l1++l2) w':=by
 simpa using h

set_option maxRecDepth 100000 in
set_option maxHeartbeats 4000000 in
theorem cmatrix_any (v:Value) (rho:List UInt8) (i j gv:Nat) (hl:rho.length≤900000) (w:World) (hs:BlkAt gv 26 [v] w) (hr:Rd w v rho) (hT:Tabs w):
  Calls Tryz.prog 260 #[.int .i64 (i:Int),.int .i64 (j:Int),.pointer (some ⟨gv,0,none⟩)] w fun e w'=>e=.returned (poV (enF rho i j))∧Below w.heap.size w w':=by
 obtain⟨av,cv,rfl, -, -, -, -⟩:=id hr
 have HR:Hid (Rd w (.slice av rho.length cv) rho):=hr
 have HL:Hid (∀x:List UInt8,x.length=2→totL [rho,x]≤1000000000):=by
  intro x hx
  simp[totL]
  omega
 have i1:=ofN_wrap13 i
 have i2:=ofN_mod13 i
 have j1:=ofN_wrap13 j
 have j2:=ofN_mod13 j
 obtain⟨bi,hbi⟩:∃x:UInt8,x=UInt8.ofNat i:=⟨_,rfl⟩
 obtain⟨bj,hbj⟩:∃x:UInt8,x=UInt8.ofNat j:=⟨_,rfl⟩
 rw[←hbi] at i1 i2
 rw[←hbj] at j1 j2
 have HF:Hid (unF (smF (abF 168 31 (rho++[bj,bi])) 168)=enF rho i j):=by
  show _=_
  rw[hbi,hbj]
  rfl
 clear hr hbi hbj hl
 go_enter Tryz.func260,Tryz.ntmps260
 go_wp2_with (refine wpList_alloc_blk rfl 224 rfl (poC fun _=>0) (allocP13 _) ?_)
 intro w1 rz b1 s1
 have hcs:=(hs.kept b1).one
 have g1:=growB (w:=w1) (.cells #[.int .u8 ((bj.toNat:Nat):Int),.int .u8 ((bi.toNat:Nat):Int)] 5)
 have hc:Rd (w1.alloc (.cells #[.int .u8 ((bj.toNat:Nat):Int),.int .u8 ((bi.toNat:Nat):Int)] 5)) (.slice (some ⟨w1.heap.size,0,none⟩) 2 2) [bj,bi]:=Rd.litc [bj,bi] rfl rfl rfl (by unfold maxLen;simp)
 have hL:=RdL.pair12 (e:=26) (b:=w1.heap.size+1) (by simp) ((Rd.kept HR.out b1).kept g1) hc
 have g2:=stepB g1 (growB (w:=w1.alloc (.cells #[.int .u8 ((bj.toNat:Nat):Int),.int .u8 ((bi.toNat:Nat):Int)] 5)) (.cells #[.slice av rho.length cv,.slice (some ⟨w1.heap.size,0,none⟩) 2 2] 26))
 replace rz:=rz.kept g2
 replace hT:=(hT.kept b1).kept g2
 have hbw:=stepB b1 g2
 clear g1 g2 hc b1 s1 hs
 go_wp2_with fail
 refine(join_any _ _ _ _ hL (HL.out _ rfl)).mono ?_
 rintro e w3 ⟨v3,rfl,hN3⟩
 have hR3:=hN3.two13.rd
 replace rz:=rz.kept hN3.2
 replace hT:=hT.kept hN3.2
 replace hbw:=stepB hbw hN3.2
 clear hN3 hL hcs
 go_wp2_with fail
 refine(suniform_any _ (rho++[bj,bi]) _ hR3 hT).mono ?_
 rintro e w4 ⟨rfl,b4⟩
 replace rz:=rz.kept b4
 replace hbw:=stepB hbw b4
 rw[HF.out]
 obtain⟨f,hf⟩:∃f:Nat→FZ,f=enF rho i j:=⟨_,rfl⟩
 rw[←hf]
 have HG:Hid _:=hf
 clear hf b4 hR3 hT HF
 go_wp2_with (refine wpList_store_part rfl 224 _ _ rfl rfl (poC f) rfl [] (poC fun _=>0) [] (poC f) rz (whole13 _) (whole13 _) rfl (by rw[poC_length,poC_length]) (infoP13 _) (poC_all _) ?_;intro w7 r7 hw7)
 refine bodyPost_blk rfl rfl rfl r7 Tryz.underlying224 rfl (infoP13 _) ?_
 exact⟨by rw[HG.out],hw7.below _ _ (Nat.le_refl _) hbw⟩

set_option maxRecDepth 100000 in
set_option maxHeartbeats 2000000 in
theorem matrixOf_any (v:Value) (rho:List UInt8) (hl:rho.length≤900000) (w:World) (hr:Rd w v rho) (hT:Tabs w):
  Calls Tryz.prog 187 #[v] w fun e w'=>∃m,e=.returned m∧Tells w' m (enF rho)∧Below w.heap.size w w':=by
 obtain⟨av,cv,rfl, -, -, -, -⟩:=id hr
 have hmf:=mkf13
 have HR:Hid (Rd w (.slice av rho.length cv) rho):=hr
 clear hr
 go_enter Tryz.func187,Tryz.ntmps187
 go_wp2_with (refine wpList_box_val rfl 26 _ rfl (.slice av rho.length cv) rfl (boxS13 _ _ _ _) ?_)
 intro w1 rs b1 s1
 have HR1:Hid (Rd w1 (.slice av rho.length cv) rho):=Rd.kept HR.out b1
 replace hT:=hT.kept b1
 clear s1
 go_wp2
 go_ret
 exact⟨_,rfl,⟨260,_,rfl,enters_by Tryz.func260 (by kernel_rfl) rfl,fun i j hi hj W hW=>by rw[app21];exact cmatrix_any _ rho i j _ hl W (rs.kept hW) (Rd.kept HR1.out hW) (hT.kept hW)⟩,b1⟩

set_option maxRecDepth 100000 in
set_option maxHeartbeats 2000000 in
theorem cline_any (K:FuncId) (caps:Array Value) (M:Nat→Nat→Nat→FZ) (gm gi i j:Nat) (w:World) (hm:BlkAt gm 231 [.func (.func K) #[] caps] w) (hi:BlkAt gi 3 [.int .i64 (i:Int)] w)
  (hE:∀(args:Array Value) (w:World),(callFunc K args).run Tryz.prog w=.ok (.enter K args) w)
  (hK:∀W,Below w.heap.size w W→Calls Tryz.prog K (#[Value.int .i64 (i:Int),Value.int .i64 (j:Int)]++caps) W fun e w'=>e=.returned (poV (M i j))∧Below W.heap.size W w'):
  Calls Tryz.prog 263 #[.int .i64 (j:Int),.pointer (some ⟨gm,0,none⟩),.pointer (some ⟨gi,0,none⟩)] w fun e w'=>e=.returned (poV (M i j))∧Below w.heap.size w w':=by
 have HK:Hid _:=hK
 clear hK
 go_enter Tryz.func263,Tryz.ntmps263
 go_wp2_with (refine wpList_alloc_blk rfl 224 rfl (poC fun _=>0) (allocP13 _) ?_)
 intro w1 rz b1 s1
 have hcs:=(hm.kept b1).one
 have hci:=(hi.kept b1).one
 clear s1 hm hi
 go_wp2_with fail
 refine(HK.out _ b1).mono ?_
 rintro e w4 ⟨rfl,b4⟩
 replace rz:=rz.kept b4
 have hbw:=stepB b1 b4
 clear b4 hcs hci b1
 go_wp2_with (refine wpList_store_part rfl 224 _ _ rfl rfl (poC (M i j)) rfl [] (poC fun _=>0) [] (poC (M i j)) rz (whole13 _) (whole13 _) rfl (by rw[poC_length,poC_length]) (infoP13 _) (poC_all _) ?_;intro w7 r7 hw7)
 refine bodyPost_blk rfl rfl rfl r7 Tryz.underlying224 rfl (infoP13 _) ?_
 exact⟨rfl,hw7.below _ _ (Nat.le_refl _) hbw⟩

set_option maxRecDepth 100000 in
set_option maxHeartbeats 4000000 in
theorem cmtimes_any (K:FuncId) (caps:Array Value) (M:Nat→Nat→Nat→FZ) (g:Nat→Nat→FZ) (gm gb i:Nat) (w:World) (hm:BlkAt gm 231 [.func (.func K) #[] caps] w) (hb:BlkAt gb 226 (rwC g) w) (hT:PwT w)
  (hE:∀(args:Array Value) (w:World),(callFunc K args).run Tryz.prog w=.ok (.enter K args) w)
  (hK:∀j:Nat,j<3→∀W,Below w.heap.size w W→Calls Tryz.prog K (#[Value.int .i64 (i:Int),Value.int .i64 (j:Int)]++caps) W fun e w'=>e=.returned (poV (M i j))∧Below W.heap.size W w'):
  Calls Tryz.prog 262 #[.int .i64 (i:Int),.pointer (some ⟨gm,0,none⟩),.pointer (some ⟨gb,0,none⟩)] w fun e w'=>e=.returned (poV (acF (fun _=>0) (fun j=>tm (M i j) (g j)) 3))∧Below w.heap.size w w':=by
 have hmf:=mkf13
 have HK:Hid _:=hK
 have HE:Hid _:=hE
 clear hK
 go_enter Tryz.func262,Tryz.ntmps262
 go_wp2_with (refine wpList_box_val rfl 3 _ rfl (.int .i64 (i:Int)) rfl (boxI13 _ _) ?_)
 intro w1 ri b1 s1
 go_wp2_with (refine wpList_alloc_blk rfl 224 rfl (poC fun _=>0) (allocP13 _) ?_)
 intro w2 rz b2 s2
 replace ri:=ri.kept b2
 have hbw:=stepB b1 b2
 have rm:=hm.kept hbw
 have rb:=hb.kept hbw
 have n1:w.heap.size<w1.heap.size:=by have:=s1.out;omega
 clear b1 b2 s1 s2 hm hb
 go_wp2_with fail
 refine(rowOf_any 263 _ (M i) _ (enters_by Tryz.func263 (by kernel_rfl) rfl) fun j hj W hW=>by rw[app2];exact cline_any K caps M _ _ i j W (rm.kept hW) (ri.kept hW) HE.out (fun W2 h2=>HK.out j hj W2 (stepB (stepB hbw hW) h2))).mono ?_
 rintro e w3 ⟨rfl,b3⟩
 replace rz:=rz.kept b3
 replace rb:=rb.kept b3
 replace hbw:=stepB hbw b3
 have z3:=rz.lt
 have zb:=rb.lt
 clear b3 rm ri
 go_wp2_with (refine wpList_alloc_blk rfl 226 rfl (rwC fun _ _=>0) (allocW13 _) ?_)
 intro w4 rl b4 s4
 replace rz:=rz.kept b4
 replace rb:=rb.kept b4
 replace hbw:=stepB hbw b4
 clear b4 s4
 go_wp2_with (refine wpList_store_part rfl 226 _ _ rfl rfl (rwC (M i)) rfl [] (rwC fun _ _=>0) [] (rwC (M i)) rl (whole13 _) (whole13 _) rfl (by rw[prC13_length,prC13_length]) (infoW13 _) (rwC_all _) ?_)
 intro w5 r5 hw5
 replace rz:=rz.wrote hw5 (by omega)
 replace rb:=rb.wrote hw5 (by omega)
 replace hbw:=hw5.below _ _ (by omega) hbw
 clear rl hw5
 go_wp2_with (first|refine wpList_load_part rfl 226 _ rfl rfl [] (rwC (M i)) [] r5 (whole13 _) rfl Tryz.underlying226 rfl (infoW13 _) ?_|refine wpList_load_part rfl 226 _ rfl rfl [] (rwC g) [] rb (whole13 _) rfl Tryz.underlying226 rfl (infoW13 _) ?_)
 refine(rtimes_any _ _ (M i) g rfl rfl _ (hT.kept hbw)).mono ?_
 rintro e w6 ⟨rfl,b6⟩
 replace rz:=rz.kept b6
 replace hbw:=stepB hbw b6
 obtain⟨f,hf⟩:∃f:Nat→FZ,f=acF (fun _=>0) (fun j=>tm (M i j) (g j)) 3:=⟨_,rfl⟩
 rw[←hf]
 have HG:Hid _:=hf
 clear hf b6 r5 rb hT
 go_wp2_with (refine wpList_store_part rfl 224 _ _ rfl rfl (poC f) rfl [] (poC fun _=>0) [] (poC f) rz (whole13 _) (whole13 _) rfl (by rw[poC_length,poC_length]) (infoP13 _) (poC_all _) ?_;intro w7 r7 hw7)
 refine bodyPost_blk rfl rfl rfl r7 Tryz.underlying224 rfl (infoP13 _) ?_
 exact⟨by rw[HG.out],hw7.below _ _ (by omega) hbw⟩

set_option maxRecDepth 100000 in
set_option maxHeartbeats 4000000 in
theorem mtimes_any (m:Value) (M:Nat→Nat→Nat→FZ) (B:Array Value) (g:Nat→Nat→FZ) (hB:B=(rwC g).toArray) (w:World) (hm:Tells w m M) (hT:PwT w):
  Calls Tryz.prog 188 #[m,.agg B] w fun e w'=>e=.returned (rwV fun i=>acF (fun _=>0) (fun j=>tm (M i j) (g j)) 3)∧Below w.heap.size w w':=by
 obtain⟨K,caps,rfl,hE,hK⟩:=hm.by_
 have hmf:=mkf13
 have HK:Hid _:=hK
 have HE:Hid _:=hE
 clear hK hm
 go_enter Tryz.func188,Tryz.ntmps188
 go_wp2_with (refine wpList_box_val rfl 231 _ rfl (.func (.func K) #[] caps) rfl (boxM13 _ _ _ _) ?_)
 intro w1 rm b1 s1
 go_wp2_with (refine wpList_box_blk rfl 226 _ rfl (rwC g) (by rw[←hB];rfl) ?_)
 intro w2 rb b2 s2
 go_wp2_with (refine wpList_alloc_blk rfl 226 rfl (rwC fun _ _=>0) (allocW13 _) ?_)
 intro w3 rz b3 s3
 replace rm:=(rm.kept b2).kept b3
 replace rb:=rb.kept b3
 have hbw:=stepB (stepB b1 b2) b3
 have n1:w.heap.size<w1.heap.size:=by have:=s1.out;omega
 have n2:w1.heap.size<w2.heap.size:=by have:=s2.out;omega
 replace hT:=hT.kept hbw
 clear b1 b2 b3 s1 s2 s3 hB
 go_wp2_with fail
 refine(rowOf_any 262 _ (fun i=>acF (fun _=>0) (fun j=>tm (M i j) (g j)) 3) _ (enters_by Tryz.func262 (by kernel_rfl) rfl) fun i hi W hW=>by rw[app2];exact cmtimes_any K caps M g _ _ i W (rm.kept hW) (rb.kept hW) (hT.kept hW) HE.out (fun j hj W2 h2=>HK.out i j hi hj W2 (stepB (stepB hbw hW) h2))).mono ?_
 rintro e w4 ⟨rfl,b4⟩
 replace rz:=rz.kept b4
 replace hbw:=stepB hbw b4
 obtain⟨f,hf⟩:∃f:Nat→Nat→FZ,f=fun i=>acF (fun _=>0) (fun j=>tm (M i j) (g j)) 3:=⟨_,rfl⟩
 rw[←hf]
 have HG:Hid _:=hf
 clear hf b4 rb rm hT
 go_wp2_with (refine wpList_store_part rfl 226 _ _ rfl rfl (rwC f) rfl [] (rwC fun _ _=>0) [] (rwC f) rz (whole13 _) (whole13 _) rfl (by rw[prC13_length,prC13_length]) (infoW13 _) (rwC_all _) ?_;intro w7 r7 hw7)
 refine bodyPost_blk rfl rfl rfl r7 Tryz.underlying226 rfl (infoW13 _) ?_
 exact⟨by rw[HG.out],hw7.below _ _ (by omega) hbw⟩
theorem info513:(Tryz.prog.info? 5).map (fun i=>(i.zero,i.size,i.bytes))=some (some (.int .u8 0),1,1):=by kernel_rfl
set_option maxRecDepth 100000 in
set_option maxHeartbeats 4000000 in
theorem rpack_any (A:Array Value) (g:Nat→Nat→FZ) (hA:A=(rwC g).toArray) (d:Nat) (D:Int) (hD:D=(d:Int)) (h1:1≤d) (h12:d≤12) (w:World):
  Calls Tryz.prog 190 #[.agg A,.int .i64 D] w fun e w'=>∃v,e=.returned v∧New 5 w v (rpL d g 3) w':=by
 subst hD
 go_enter Tryz.func190,Tryz.ntmps190
 go_wp2_with (refine wpList_box_blk rfl 226 _ rfl (rwC g) (by rw[←hA];rfl) ?_)
 intro w1 ra b1 s1
 have hN0:New 5 w1 (.slice none 0 0) (rpL d g 0) w1:=New.start w1
 clear s1 hA
 go_wp2
 go_loopw [5,7] (fun v iv wx=>∃i:Nat,i≤3∧iv=.int .i64 (i:Int)∧New 5 w1 v (rpL d g i) wx) (fun _ iv _=>3 - (intOf iv).toNat)
 case atStart=>exact⟨0,by omega,rfl,hN0⟩
 case round=>
  obtain⟨i,hi,rfl,hN⟩:=hrel
  clear hN0
  have rax:=ra.kept hN.2
  by_cases hlt:i<3
  ·have hd:decide ((i:Int)<3)=true:=decide_eq_true (by omega)
   have hiI:(i:Int)<3:=by omega
   obtain⟨post,hp⟩:=prC13_split g i 3 hlt
   have HP:Hid _:=hp
   have HLe:Hid ((rpL d g i).length≤1152):=by
    show _≤_
    rw[rpL_length]
    have:32 * d * i≤32 * 12 * 3:=Nat.mul_le_mul (by omega) (by omega)
    omega
   have HNx:Hid (rpL d g i++pkL d (fzF (g i))=rpL d g (i+1)):=by show _=_;rfl
   have HLp:Hid ((pkL d (fzF (g i))).length≤384):=by show _≤_;rw[pkL_length];omega
   obtain⟨l0,hl0⟩:∃l:List UInt8,l=rpL d g i:=⟨_,rfl⟩
   rw[←hl0] at hN HLe HNx
   clear hp hl0
   go_wp2_with (refine wpList_load_part rfl 224 _ rfl rfl (prC13 g i) (poC (g i)) post rax HP.out (by rw[prC13_length];omega) Tryz.underlying224 rfl (infoP13 _) ?_)
   refine(spackQ d _ rfl h1 h12 (g i) _).mono ?_
   rintro e w2 ⟨v2,rfl,hN2⟩
   have hN3:=hN.kept hN2.2
   have hR2:=hN2.rd
   clear rax hN
   obtain⟨pk,hpk⟩:∃l:List UInt8,l=pkL d (fzF (g i)):=⟨_,rfl⟩
   rw[←hpk] at hR2 HNx HLp
   clear hpk hN2
   go_wp2_with (at_builtin;go_must (refine wpList_append_new (w:=w1) rfl _ _ 26 rfl 5 Tryz.underlying26 info513 _ _ rfl hN3 _ _ rfl hR2 (by have:=HLe.out;have:=HLp.out;omega) ?_))
   intro v3 w3 hN4 _
   rw[HNx.out] at hN4
   clear hN3 hR2
   go_wp2
   go_roundw
   case rel=>exact⟨i+1,by omega,by go_num,hN4⟩
   case measure=>simp[intOf]<;>omega
  ·have hie:i=3:=by omega
   have hd:decide ((i:Int)<3)=false:=decide_eq_false (by omega)
   have hiI:(3:Int)≤(i:Int):=by omega
   rw[hie] at hN
   clear hie rax
   go_wp2
   go_ret
   exact⟨_,rfl,hN.from b1⟩

theorem gen_slice {vg:Value} {wg:World} {l:List UInt8} (h:Rd wg vg l) (hl:l.length=64):∃bg og cg,vg=.slice (some ⟨bg,og,none⟩) 64 cg∧64≤cg∧cg≤maxLen∧Rd wg (.slice (some ⟨bg,og,none⟩) 32 cg) (l.take 32)∧Rd wg (.slice (some ⟨bg,og+32,none⟩) 32 (cg - 32)) (l.drop 32):=by
 obtain⟨a,cap,e,h2,h3,h4,h5⟩:=id h
 rcases h5 with h5|⟨b,off,ha,hc⟩
 ·rw[h5] at hl
  simp at hl
 ·subst ha
  rw[hl] at e h2
  subst e
  have t1:=h.take (n:=32) (by omega)
  have t2:=h.sub 32 64 (by omega) (by omega)
  rw[List.take_of_length_le (by rw[List.length_drop,hl];decide)] at t2
  exact⟨b,off,cap,rfl,h2,h3,t1,t2⟩

theorem app0 (v:Value):#[v]++#[]=#[v]:=rfl
theorem wp_alloc_blk2 {P:Program} {w0:World} {op:Oper} {a:Act} {w:World} {K:Act→World→Prop} {Q:Exit→Act→World→Prop} (hB:Below w0.heap.size w0 w) (ty:TypeId) (ho:op.op=.alloc ty) (cs:List Value)
  (hrun:(Instr.alloc ty true (.tuple #[])).run P w=.ok (.pointer (some ⟨w.heap.size,0,none⟩)) (w.alloc (.cells cs.toArray ty)))
  (h:∀g w',BlkAt g ty cs w'→w0.heap.size≤g→Below w0.heap.size w0 w'→Below w.heap.size w w'→K (a.put op.dst (.pointer (some ⟨g,0,none⟩))) w'):op.wp P a w K Q:=by
 unfold Oper.wp execOp
 simp only[ho,Sem.run_bind,hrun,Result.andThen_ok,Sem.run_pure]
 exact h _ _ (BlkAt.fresh rfl rfl) hB.size (stepB hB (growB _)) (growB _)
theorem eachF_any (A:Array Value) (g h:Nat→Nat→FZ) (hA:A=(rwC g).toArray) (hh:(fun i=>fwd (g i))=h) (w:World) (hP:PwT w):
  Calls Tryz.prog 185 #[.agg A,.func (.func 186) #[] #[]] w fun e w'=>e=.returned (rwV h)∧Below w.heap.size w w':=by
 subst hh
 exact each_any 186 #[] A g (fun i=>fwd (g i)) hA w (enters_by Tryz.func186 (by kernel_rfl) rfl) fun i hi W hW=>by rw[app0];exact nforwardQ (g i) W (hP.kept hW)
theorem smallRow_zero (v:Value) (l:List UInt8) (hl:l.length=32) (w:World) (hr:Rd w v l) (hT:Tabs w):
  Calls Tryz.prog 184 #[v,.int .i64 0] w fun e w'=>e=.returned (rwV (slF l))∧Below w.heap.size w w':=by
 have h:=smallRow_any v l 0 0 rfl (by decide) hl w hr hT
 have e:(fun i=>slF l (0+i))=slF l:=funext fun i=>by rw[Nat.zero_add]
 rw[e] at h
 exact h
theorem tot_two (a b:List UInt8) (ha:a.length≤2000) (hb:b.length≤2000):totL [a,b]≤1000000000:=by
 simp[totL]
 omega

set_option maxRecDepth 100000 in
set_option maxHeartbeats 8000000 in
theorem kgen_any (v:Value) (d:List UInt8) (w:World) (hd:Rd w v d) (hd32:d.length=32) (hT:Tabs w) (hP:PwT w):
  Calls Tryz.prog 113 #[v] w fun e w'=>∃x y,e=.returned (.tuple #[x,y,.int .i64 0])∧OwnG w [Rw.by 5 x (ekL d),Rw.by 5 y (dkL d)] w':=by
 obtain⟨ak,ck,rfl, -, -, -, -⟩:=id hd
 have h1:((d.length:Int) !=32)=false:=by simp;omega
 have HD:Hid (Rd w (.slice ak d.length ck) d):=hd
 have HD32:Hid _:=hd32
 have HT:Hid (Tabs w):=hT
 have HP:Hid (PwT w):=hP
 clear hd hd32 hT hP
 go_enter Tryz.func113,Tryz.ntmps113
 have g1:=growB (w:=w) (.cells #[.int .u8 3] 5)
 have hc:Rd (w.alloc (.cells #[.int .u8 3] 5)) (.slice (some ⟨w.heap.size,0,none⟩) 1 1) [3]:=Rd.lit1 3 rfl
 have hL:=RdL.pair12 (e:=26) (b:=w.heap.size+1) (by simp) (Rd.kept HD.out g1) hc
 have g2:=stepB g1 (growB (w:=w.alloc (.cells #[.int .u8 3] 5)) (.cells #[.slice ak d.length ck,.slice (some ⟨w.heap.size,0,none⟩) 1 1] 26))
 clear g1 hc
 go_wp2_with fail
 refine(join_any _ _ _ _ hL (tot_two _ _ (by rw[HD32.out];decide) (by decide))).mono ?_
 rintro e w3 ⟨v3,rfl,hN3⟩
 have hR3:=hN3.two13.rd
 have hb3:=stepB g2 hN3.2
 clear hN3 hL g2
 go_wp2_with fail
 refine(sum512_any _ (d++[3]) _ hR3 (HT.out.kept hb3)).mono ?_
 rintro e wg ⟨vg,rfl,hNg⟩
 have hbg:=stepB hb3 hNg.2
 have hrg:Rd wg vg (gnS d):=hNg.rd
 clear hb3 hR3 hNg
 obtain⟨bg,og,cg,rfl,hcg,hmg,hrho,hs⟩:=gen_slice hrg (gnS_length d)
 have HRho:Hid (Rd wg (.slice (some ⟨bg,og,none⟩) 32 cg) ((gnS d).take 32)):=hrho
 have HS:Hid (Rd wg (.slice (some ⟨bg,og+32,none⟩) 32 (cg - 32)) ((gnS d).drop 32)):=hs
 have HE:Hid (rpL 12 (tF ((gnS d).take 32) ((gnS d).drop 32)) 3++(gnS d).take 32=ekL d):=by show _=_;rw[←ekP_row];rfl
 have HK:Hid (rpL 12 (rwF ((gnS d).drop 32)) 3=dkL d):=by show _=_;rw[←dkP_row];rfl
 have HRl:Hid (((gnS d).take 32).length=32):=by show _=_;rw[List.length_take,gnS_length];decide
 have HSl:Hid (((gnS d).drop 32).length=32):=by show _=_;rw[List.length_drop,gnS_length]
 generalize (gnS d).take 32=rho at HRho HE HRl
 generalize (gnS d).drop 32=s at HS HE HK HSl
 have HBg:Hid (Below w.heap.size w wg):=hbg
 unfold maxLen at hmg
 have y1:¬cg=32:=by omega
 have y2:(64:Int)≤(cg:Int):=by omega
 have y3:(32:Int)≤(cg:Int):=by omega
 clear hrg hrho hs hbg
 go_wp2_with fail
 refine wpG_begin (by kernel_rfl) ?_
 refine gU_ 0 rfl ⟨_,by intro W hW;go_simp<;>with_reducible rfl,?_⟩
 try simp only[Act.put,pA_,pB_,pC_]
 refine gU_ 1 rfl ⟨_,by intro W hW;go_simp<;>with_reducible rfl,?_⟩
 try simp only[Act.put,pA_,pB_,pC_]
 refine gU_ 2 rfl ⟨_,by intro W hW;go_simp<;>with_reducible rfl,?_⟩
 try simp only[Act.put,pA_,pB_,pC_]
 refine gU_ 3 rfl ⟨_,by intro W hW;go_simp<;>with_reducible rfl,?_⟩
 try simp only[Act.put,pA_,pB_,pC_]
 refine gU_ 4 rfl ⟨_,by intro W hW;go_simp<;>with_reducible rfl,?_⟩
 try simp only[Act.put,pA_,pB_,pC_]
 refine gU_ 5 rfl ⟨_,by intro W hW;go_simp<;>with_reducible rfl,?_⟩
 try simp only[Act.put,pA_,pB_,pC_]
 refine wpG_done (by kernel_rfl) ?_
 have hbw:Below wg.heap.size wg wg.drew:=(Below.refl _ _).drew
 go_wp2_with fail
 refine(smallRow_zero _ s HSl.out _ (Rd.kept HS.out hbw) (HT.out.kept (stepB HBg.out hbw))).mono ?_
 rintro e w5 ⟨rfl,b5⟩
 replace hbw:=stepB hbw b5
 clear b5
 go_wp2_with fail
 refine(eachF_any _ (slF s) (rwF s) rfl rfl _ (HP.out.kept (stepB HBg.out hbw))).mono ?_
 rintro e w6 ⟨rfl,b6⟩
 replace hbw:=stepB hbw b6
 have z6:=hbw.size
 clear b6
 go_wp2_with (refine wpList_alloc_blk rfl 226 rfl (rwC fun _ _=>0) (allocW13 _) ?_)
 intro w7 r7 b7 s7
 replace hbw:=stepB hbw b7
 clear b7 s7
 go_wp2_with (refine wpList_store_part rfl 226 _ _ rfl rfl (rwC (rwF s)) rfl [] (rwC fun _ _=>0) [] (rwC (rwF s)) r7 (whole13 _) (whole13 _) rfl (by rw[prC13_length,prC13_length]) (infoW13 _) (rwC_all _) ?_)
 intro w8 r8 hw8
 replace hbw:=hw8.below _ _ z6 hbw
 clear r7 hw8
 go_wp2_with fail
 refine(smallRow_any _ s 3 _ rfl (by decide) HSl.out _ (Rd.kept HS.out hbw) (HT.out.kept (stepB HBg.out hbw))).mono ?_
 rintro e w9 ⟨rfl,b9⟩
 replace hbw:=stepB hbw b9
 replace r8:=r8.kept b9
 clear b9
 go_wp2_with fail
 refine(eachF_any _ (fun i=>slF s (3+i)) (fun i=>fwd (slF s (3+i))) rfl rfl _ (HP.out.kept (stepB HBg.out hbw))).mono ?_
 rintro e wA ⟨rfl,bA⟩
 replace hbw:=stepB hbw bA
 replace r8:=r8.kept bA
 have zA:=hbw.size
 have y8:=r8.lt
 clear bA
 obtain⟨no,hno⟩:∃f:Nat→Nat→FZ,f=fun i=>fwd (slF s (3+i)):=⟨_,rfl⟩
 rw[←hno]
 have HNo:Hid _:=hno
 clear hno
 go_wp2_with (refine wpList_alloc_blk rfl 226 rfl (rwC fun _ _=>0) (allocW13 _) ?_)
 intro wB rB bB sB
 replace hbw:=stepB hbw bB
 replace r8:=r8.kept bB
 clear bB sB
 go_wp2_with (refine wpList_store_part rfl 226 _ _ rfl rfl (rwC no) rfl [] (rwC fun _ _=>0) [] (rwC no) rB (whole13 _) (whole13 _) rfl (by rw[prC13_length,prC13_length]) (infoW13 _) (rwC_all _) ?_)
 intro wC rC hwC
 replace hbw:=hwC.below _ _ zA hbw
 replace r8:=r8.wrote hwC (by omega)
 clear rB hwC y8
 have HSum:Hid (∀f:Nat→Nat→FZ,f=(fun i=>acF (fun _=>0) (fun j=>tm (enF rho i j) (rwF s j)) 3)→(fun i k=>f i k+no i k)=tF rho s):=by
  intro f hf
  rw[hf,HNo.out]
  funext i
  exact acF_eq _ _ 3
 go_upto_region 7 with fail
 go_cut [10] (fun v wx=>∃g:Nat,v=.pointer (some ⟨g,0,none⟩)∧wC.heap.size≤g∧BlkAt g 226 (rwC (tF rho s)) wx∧Below wC.heap.size wC wx)
 case first=>
  have hB:Below wC.heap.size wC wC.drew:=(Below.refl _ _).drew
  refine wpB_begin (Below.refl wC.heap.size wC) (by kernel_rfl) ?_
  refine bU_ hB 0 rfl ⟨_,by intro W hW;go_simp<;>with_reducible rfl,?_⟩
  try simp only[Act.put,pA_,pB_,pC_]
  refine bU_ hB 2 rfl ⟨_,by intro W hW;refine Eq.trans (exec_load_part 226 _ (by rfl) (by rfl) [] (rwC (rwF s)) [] r8 hW (whole13 _) rfl Tryz.underlying226 rfl (infoW13 _)) ?_;with_reducible rfl,?_⟩
  try simp only[Act.put,pA_,pB_,pC_]
  refine bU_ hB 4 rfl ⟨_,by intro W hW;refine Eq.trans (exec_load_part 226 _ (by rfl) (by rfl) [] (rwC no) [] rC hW (whole13 _) rfl Tryz.underlying226 rfl (infoW13 _)) ?_;with_reducible rfl,?_⟩
  try simp only[Act.put,pA_,pB_,pC_]
  refine bF_ 1 6 (fun K hK=>?_) (fun K hK=>?_)
  ·go_simp
   refine(matrixOf_any _ rho (by rw[HRl.out];decide) _ (Rd.kept HRho.out (stepB hbw hB)) (HT.out.kept (stepB HBg.out (stepB hbw hB)))).mono ?_
   rintro e wq ⟨mv,rfl,hM,bq⟩
   replace hB:=stepB hB bq
   try replace hG:=hG.kept bq
   refine hK.out _ _ hB ?_
   clear hK K
   try simp only[Act.put,pA_,pB_,pC_]
   refine bF_ 3 6 (fun K hK=>?_) (fun K hK=>?_)
   ·go_simp
    refine(mtimes_any mv (enF rho) _ (rwF s) rfl _ hM (HP.out.kept (stepB HBg.out (stepB hbw hB)))).mono ?_
    rintro e wp ⟨rfl,bp⟩
    replace hB:=stepB hB bp
    try replace hG:=hG.kept bp
    obtain⟨fm,hfm⟩:∃f:Nat→Nat→FZ,f=fun i=>acF (fun _=>0) (fun j=>tm (enF rho i j) (rwF s j)) 3:=⟨_,rfl⟩
    rw[←hfm]
    have HFm:Hid _:=hfm
    clear hfm
    refine hK.out _ _ hB ?_
    clear hK K
    try simp only[Act.put,pA_,pB_,pC_]
    refine bF_ 5 6 (fun K hK=>?_) (fun K hK=>?_)
    ·go_simp
     refine(rplus_any _ _ fm no rfl rfl _).mono ?_
     rintro e wm ⟨rfl,bm⟩
     rw[HSum.out fm HFm.out]
     replace hB:=stepB hB bm
     try replace hG:=hG.kept bm
     refine hK.out _ _ hB ?_
     clear hK K
     try simp only[Act.put,pA_,pB_,pC_]
     refine bD_ 6 fun K hK=>?_
     refine wp_alloc_blk2 hB 226 rfl (rwC fun _ _=>0) (allocW13 _) ?_
     intro g wN hG hge hBA hBc
     replace hB:=hBA
     try replace hM:=hM.kept hBc
     refine hK.out _ _ hB ?_
     clear hK K
     try simp only[Act.put,pA_,pB_,pC_]
     refine bD_ 7 fun K hK=>?_
     refine wp_store_part 226 _ _ rfl rfl (rwC (tF rho s)) rfl [] (rwC fun _ _=>0) [] (rwC (tF rho s)) hG (whole13 _) (whole13 _) rfl (by rw[prC13_length,prC13_length]) (infoW13 _) (rwC_all _) ?_
     intro wS hGS hwS
     replace hB:=hwS.below _ _ hge hB
     refine hK.out _ _ hB ?_
     clear hK K
     try simp only[Act.put,pA_,pB_,pC_]
     refine wpB_done (by kernel_rfl) ?_
     go_wp2_with fail
     go_meet
     exact⟨g,rfl,hge,hGS,hB⟩
    ·refine wp_alloc_blk2 hB 226 rfl (rwC fun _ _=>0) (allocW13 _) ?_
     intro g wN hG hge hBA hBc
     replace hB:=hBA
     try replace hM:=hM.kept hBc
     refine hK.out _ _ hB ?_
     clear hK K
     try simp only[Act.put,pA_,pB_,pC_]
     refine bD_ 5 fun K hK=>?_
     go_simp
     refine(rplus_any _ _ fm no rfl rfl _).mono ?_
     rintro e wm ⟨rfl,bm⟩
     rw[HSum.out fm HFm.out]
     replace hB:=stepB hB bm
     try replace hG:=hG.kept bm
     refine hK.out _ _ hB ?_
     clear hK K
     try simp only[Act.put,pA_,pB_,pC_]
     refine bD_ 7 fun K hK=>?_
     refine wp_store_part 226 _ _ rfl rfl (rwC (tF rho s)) rfl [] (rwC fun _ _=>0) [] (rwC (tF rho s)) hG (whole13 _) (whole13 _) rfl (by rw[prC13_length,prC13_length]) (infoW13 _) (rwC_all _) ?_
     intro wS hGS hwS
     replace hB:=hwS.below _ _ hge hB
     refine hK.out _ _ hB ?_
     clear hK K
     try simp only[Act.put,pA_,pB_,pC_]
     refine wpB_done (by kernel_rfl) ?_
     go_wp2_with fail
     go_meet
     exact⟨g,rfl,hge,hGS,hB⟩
   ·refine wp_alloc_blk2 hB 226 rfl (rwC fun _ _=>0) (allocW13 _) ?_
    intro g wN hG hge hBA hBc
    replace hB:=hBA
    try replace hM:=hM.kept hBc
    refine hK.out _ _ hB ?_
    clear hK K
    try simp only[Act.put,pA_,pB_,pC_]
    refine bD_ 3 fun K hK=>?_
    go_simp
    refine(mtimes_any mv (enF rho) _ (rwF s) rfl _ hM (HP.out.kept (stepB HBg.out (stepB hbw hB)))).mono ?_
    rintro e wp ⟨rfl,bp⟩
    replace hB:=stepB hB bp
    try replace hG:=hG.kept bp
    obtain⟨fm,hfm⟩:∃f:Nat→Nat→FZ,f=fun i=>acF (fun _=>0) (fun j=>tm (enF rho i j) (rwF s j)) 3:=⟨_,rfl⟩
    rw[←hfm]
    have HFm:Hid _:=hfm
    clear hfm
    refine hK.out _ _ hB ?_
    clear hK K
    try simp only[Act.put,pA_,pB_,pC_]
    refine bD_ 5 fun K hK=>?_
    go_simp
    refine(rplus_any _ _ fm no rfl rfl _).mono ?_
    rintro e wm ⟨rfl,bm⟩
    rw[HSum.out fm HFm.out]
    replace hB:=stepB hB bm
    try replace hG:=hG.kept bm
    refine hK.out _ _ hB ?_
    clear hK K
    try simp only[Act.put,pA_,pB_,pC_]
    refine bD_ 7 fun K hK=>?_
    refine wp_store_part 226 _ _ rfl rfl (rwC (tF rho s)) rfl [] (rwC fun _ _=>0) [] (rwC (tF rho s)) hG (whole13 _) (whole13 _) rfl (by rw[prC13_length,prC13_length]) (infoW13 _) (rwC_all _) ?_
    intro wS hGS hwS
    replace hB:=hwS.below _ _ hge hB
    refine hK.out _ _ hB ?_
    clear hK K
    try simp only[Act.put,pA_,pB_,pC_]
    refine wpB_done (by kernel_rfl) ?_
    go_wp2_with fail
    go_meet
    exact⟨g,rfl,hge,hGS,hB⟩
  ·refine wp_alloc_blk2 hB 226 rfl (rwC fun _ _=>0) (allocW13 _) ?_
   intro g wN hG hge hBA hBc
   replace hB:=hBA
   try replace hM:=hM.kept hBc
   refine hK.out _ _ hB ?_
   clear hK K
   try simp only[Act.put,pA_,pB_,pC_]
   refine bD_ 1 fun K hK=>?_
   go_simp
   refine(matrixOf_any _ rho (by rw[HRl.out];decide) _ (Rd.kept HRho.out (stepB hbw hB)) (HT.out.kept (stepB HBg.out (stepB hbw hB)))).mono ?_
   rintro e wq ⟨mv,rfl,hM,bq⟩
   replace hB:=stepB hB bq
   try replace hG:=hG.kept bq
   refine hK.out _ _ hB ?_
   clear hK K
   try simp only[Act.put,pA_,pB_,pC_]
   refine bD_ 3 fun K hK=>?_
   go_simp
   refine(mtimes_any mv (enF rho) _ (rwF s) rfl _ hM (HP.out.kept (stepB HBg.out (stepB hbw hB)))).mono ?_
   rintro e wp ⟨rfl,bp⟩
   replace hB:=stepB hB bp
   try replace hG:=hG.kept bp
   obtain⟨fm,hfm⟩:∃f:Nat→Nat→FZ,f=fun i=>acF (fun _=>0) (fun j=>tm (enF rho i j) (rwF s j)) 3:=⟨_,rfl⟩
   rw[←hfm]
   have HFm:Hid _:=hfm
   clear hfm
   refine hK.out _ _ hB ?_
   clear hK K
   try simp only[Act.put,pA_,pB_,pC_]
   refine bD_ 5 fun K hK=>?_
   go_simp
   refine(rplus_any _ _ fm no rfl rfl _).mono ?_
   rintro e wm ⟨rfl,bm⟩
   rw[HSum.out fm HFm.out]
   replace hB:=stepB hB bm
   try replace hG:=hG.kept bm
   refine hK.out _ _ hB ?_
   clear hK K
   try simp only[Act.put,pA_,pB_,pC_]
   refine bD_ 7 fun K hK=>?_
   refine wp_store_part 226 _ _ rfl rfl (rwC (tF rho s)) rfl [] (rwC fun _ _=>0) [] (rwC (tF rho s)) hG (whole13 _) (whole13 _) rfl (by rw[prC13_length,prC13_length]) (infoW13 _) (rwC_all _) ?_
   intro wS hGS hwS
   replace hB:=hwS.below _ _ hge hB
   refine hK.out _ _ hB ?_
   clear hK K
   try simp only[Act.put,pA_,pB_,pC_]
   refine wpB_done (by kernel_rfl) ?_
   go_wp2_with fail
   go_meet
   exact⟨g,rfl,hge,hGS,hB⟩
 case rest=>
 obtain⟨gt,rfl,hget,rT,bc⟩:=hcut
 replace r8:=r8.kept bc
 replace hbw:=stepB hbw bc
 rename World=>wT
 clear bc rC HSum HNo
 go_wp2_with fail
 refine wpG_begin (by kernel_rfl) ?_
 refine gU_ 0 rfl ⟨_,by intro W hW;refine Eq.trans (exec_load_part 226 _ (by rfl) (by rfl) [] (rwC (tF rho s)) [] rT.drew hW (whole13 _) rfl Tryz.underlying226 rfl (infoW13 _)) ?_;with_reducible rfl,?_⟩
 try simp only[Act.put,pA_,pB_,pC_]
 refine gU_ 2 rfl ⟨_,by intro W hW;go_simp<;>with_reducible rfl,?_⟩
 try simp only[Act.put,pA_,pB_,pC_]
 refine gU_ 5 rfl ⟨_,by intro W hW;refine Eq.trans (exec_load_part 226 _ (by rfl) (by rfl) [] (rwC (rwF s)) [] r8.drew hW (whole13 _) rfl Tryz.underlying226 rfl (infoW13 _)) ?_;with_reducible rfl,?_⟩
 try simp only[Act.put,pA_,pB_,pC_]
 refine gD_ 1 fun K hK=>?_
 go_simp
 refine(rpack_any _ (tF rho s) rfl 12 _ rfl (by decide) (by decide) _).mono ?_
 rintro e wp ⟨vp,rfl,hNp⟩
 obtain⟨ap,cp,rfl, -⟩:=id hNp.rd
 have hL:=RdL.pair12 (e:=26) (b:=wp.heap.size) rfl hNp.rd (Rd.kept HRho.out (stepB hbw.drew hNp.2))
 have g1:=growB (w:=wp) (.cells #[.slice ap (rpL 12 (tF rho s) 3).length cp,.slice (some ⟨bg,og,none⟩) 32 cg] 26)
 refine hK.out _ _ hNp.2 ?_
 clear hK K
 try simp only[Act.put,pA_,pB_,pC_]
 refine gD_ 3 fun K hK=>?_
 go_simp
 refine hK.out _ _ g1 ?_
 clear hK K
 try simp only[Act.put,pA_,pB_,pC_]
 refine gD_ 4 fun K hK=>?_
 go_simp
 refine(join_any _ _ _ _ hL (tot_two _ _ (by rw[rpL_length];decide) (by rw[HRl.out];decide))).mono ?_
 rintro e wj ⟨vj,rfl,hNj⟩
 refine hK.out _ _ hNj.2 ?_
 clear hK K
 try simp only[Act.put,pA_,pB_,pC_]
 refine gD_ 6 fun K hK=>?_
 go_simp
 refine(rpack_any _ (rwF s) rfl 12 _ rfl (by decide) (by decide) _).mono ?_
 rintro e wk ⟨vk,rfl,hNk⟩
 refine hK.out _ _ hNk.2 ?_
 clear hK K
 try simp only[Act.put,pA_,pB_,pC_]
 refine gU_ 7 rfl ⟨_,by intro W hW;go_simp<;>with_reducible rfl,?_⟩
 try simp only[Act.put,pA_,pB_,pC_]
 refine gU_ 8 rfl ⟨_,by intro W hW;go_simp<;>with_reducible rfl,?_⟩
 try simp only[Act.put,pA_,pB_,pC_]
 refine gU_ 9 rfl ⟨_,by intro W hW;go_simp<;>with_reducible rfl,?_⟩
 try simp only[Act.put,pA_,pB_,pC_]
 refine wpG_done (by kernel_rfl) ?_
 have hO:=((OwnG.since (stepB (stepB (stepB HBg.out hbw.drew) hNp.2) g1)).new hNj.two13).new hNk
 rw[HE.out,HK.out] at hO
 have HO:Hid _:=hO.swap
 clear hO hL g1 hNp hNj hNk r8 rT
 go_wp2
 go_ret3
 exact⟨vj,vk,rfl,HO.out⟩
theorem RdL.four {w:World} {e:TypeId} {v1 v2 v3 v4:Value} {l1 l2 l3 l4:List UInt8} {b:Nat} (hb:b=w.heap.size) (h1:Rd w v1 l1) (h2:Rd w v2 l2) (h3:Rd w v3 l3) (h4:Rd w v4 l4):
  RdL (w.alloc (.cells #[v1,v2,v3,v4] e)) (.slice (some ⟨b,0,none⟩) 4 4) [v1,v2,v3,v4] [l1,l2,l3,l4]:=by
 subst hb
 refine RdL.lit [v1,v2,v3,v4] [l1,l2,l3,l4] rfl rfl rfl (by unfold maxLen;simp) rfl fun i hi=>?_
 match i,hi with
 |0,_=>exact h1
 |1,_=>exact h2
 |2,_=>exact h3
 |3,_=>exact h4
theorem tot_four (a b c d:List UInt8) (ha:a.length≤3000) (hb:b.length≤3000) (hc:c.length≤3000) (hd:d.length≤3000):totL [a,b,c,d]≤1000000000:=by
 simp[totL]
 omega
theorem OwnG.sub14 {w0 w:World} {L L':List Rw} (h:OwnG w0 L w) (hs:L'.Sublist L):OwnG w0 L' w:=⟨fun p hp=>h.rows p (hs.subset hp),h.apart.sublist hs,h.below⟩

set_option maxRecDepth 100000 in
set_option maxHeartbeats 4000000 in
theorem mgen_any (vd vz:Value) (d z:List UInt8) (w:World) (hd:Rd w vd d) (hz:Rd w vz z) (hd32:d.length=32) (hz32:z.length=32) (hT:Tabs w) (hP:PwT w):
  Calls Tryz.prog 64 #[vd,vz] w fun e w'=>∃x y,e=.returned (.tuple #[x,y,.int .i64 0])∧OwnG w [Rw.by 5 x (ekL d),Rw.by 5 y (kdL d z)] w':=by
 obtain⟨ak,ck,rfl, -, -, -, -⟩:=id hd
 obtain⟨ac,cc,rfl, -, -, -, -⟩:=id hz
 have h1:((d.length:Int) !=32)=false:=by simp;omega
 have h2:((z.length:Int) !=32)=false:=by simp;omega
 have HD:Hid (Rd w (.slice ak d.length ck) d):=hd
 have HZ:Hid (Rd w (.slice ac z.length cc) z):=hz
 have HD32:Hid _:=hd32
 have HZ32:Hid _:=hz32
 have HT:Hid (Tabs w):=hT
 have HP:Hid (PwT w):=hP
 have HF:Hid ([dkL d,ekL d,hsS (ekL d),z].flatten=kdL d z):=by show _=_;unfold kdL;simp
 have L1:Hid ((ekL d).length=1184):=ekL_length d
 have L2:Hid ((dkL d).length=1152):=dkL_length d
 clear hd hz hd32 hz32 hT hP
 go_enter Tryz.func64,Tryz.ntmps64
 go_wp2_with fail
 refine(kgen_any _ d _ HD.out HD32.out HT.out HP.out).mono ?_
 rintro e w1 ⟨x,y,rfl,hO⟩
 obtain⟨E,hE⟩:∃E:List UInt8,E=ekL d:=⟨_,rfl⟩
 rw[←hE] at hO HF L1
 have HEe:Hid _:=hE
 clear hE
 generalize dkL d=K at hO HF L2
 obtain⟨ax,cx,rfl, -⟩:=id hO.rd0
 obtain⟨ay,cy,rfl, -⟩:=id hO.tail.rd0
 go_wp2_with fail
 refine(sum256_any _ E _ hO.rd0 (HT.out.kept hO.below)).mono ?_
 rintro e w2 ⟨v2,rfl,hN2⟩
 have L3:Hid ((hsS E).length=32):=hsS_length E
 have hN2':New 5 w1 v2 (hsS E) w2:=hN2
 have hO2:=hO.new hN2'
 generalize hsS E=S at hO2 HF L3
 obtain⟨a2,c2,rfl, -⟩:=id hO2.rd0
 have hL:=RdL.four (e:=26) (b:=w2.heap.size) rfl hO2.tail.tail.rd0 hO2.tail.rd0 hO2.rd0 (HZ.out.kept hO2.below)
 have g1:=growB (w:=w2) (.cells #[.slice ay K.length cy,.slice ax E.length cx,.slice a2 S.length c2,.slice ac z.length cc] 26)
 have HO3:Hid _:=hO2.kept g1
 clear hO hN2 hN2' hO2 g1
 go_wp2_with fail
 refine(join_any _ _ _ _ hL (tot_four _ _ _ _ (by rw[L2.out];decide) (by rw[L1.out];decide) (by rw[L3.out];decide) (by rw[HZ32.out];decide))).mono ?_
 rintro e w4 ⟨v4,rfl,hN4⟩
 rw[HF.out] at hN4
 have hO4:=HO3.out.new hN4
 have HO:Hid (OwnG w [Rw.by 5 (.slice ax E.length cx) (ekL d),Rw.by 5 v4 (kdL d z)] w4):=by rw[←HEe.out];exact(hO4.sub14 (.cons_cons _ (.cons _ (.cons_cons _ (List.nil_sublist _))))).swap
 clear hO4 hN4 HO3 hL
 go_wp2
 go_ret3
 exact⟨_,v4,rfl,HO.out⟩

set_option maxRecDepth 100000 in
set_option maxHeartbeats 4000000 in
theorem mreduced_any (v:Value) (b:List UInt8) (q:Bool) (hq:rdQ b=q) (hl:b.length=384) (w:World) (hr:Rd w v b):
  Calls Tryz.prog 117 #[v] w fun e w'=>e=.returned (.bool q)∧Below w.heap.size w w':=by
 obtain⟨av,cv,rfl, -⟩:=id hr
 have HR:Hid (Rd w (.slice av b.length cv) b):=hr
 have HL:Hid (b.length=32 * 12):=hl
 have HQ:Hid (decide (pkL 12 (fzF (upF 12 b))=b)=q):=hq
 clear hr hl hq
 go_enter Tryz.func117,Tryz.ntmps117
 go_wp2_with fail
 refine(sunpack_any 12 _ rfl (by decide) (by decide) _ b _ HR.out HL.out).mono ?_
 rintro e w2 ⟨rfl,b2⟩
 generalize upF 12 b=f at HQ
 have hbw:=b2
 have z2:=b2.size
 clear b2
 go_wp2_with (refine wpList_alloc_blk rfl 224 rfl (poC fun _=>0) (allocP13 _) ?_)
 intro w3 rp b3 s3
 replace hbw:=stepB hbw b3
 clear b3 s3
 go_wp2_with (refine wpList_store_part rfl 224 _ _ rfl rfl (poC f) rfl [] (poC fun _=>0) [] (poC f) rp (whole13 _) (whole13 _) rfl (by rw[poC_length,poC_length]) (infoP13 _) (poC_all _) ?_)
 intro w4 r4 hw4
 replace hbw:=hw4.below _ _ z2 hbw
 clear rp hw4
 go_wp2_with (refine wpList_valK (exec_load_part 224 (.tmp 3) rfl rfl [] (poC f) [] r4 (Below.refl _ _) (whole13 _) rfl Tryz.underlying224 rfl (infoP13 _)) (by go_simp;done) ?_)
 refine(spackQ 12 _ rfl (by decide) (by decide) f _).mono ?_
 rintro e w5 ⟨v5,rfl,hN5⟩
 replace hbw:=stepB hbw hN5.2
 have hr5:=hN5.rd
 clear hN5 r4
 go_wp2_with fail
 refine(equal_bool _ _ _ b q HQ.out _ hr5 (Rd.kept HR.out hbw)).mono ?_
 rintro e w6 ⟨rfl,b6⟩
 replace hbw:=stepB hbw b6
 clear b6 hr5
 go_wp2
 go_ret
 exact⟨rfl,hbw⟩

theorem third_at (i:Nat) (hi:i<3):∃p j q:Nat,Hid (p=384 * i)∧Hid (j=i+1)∧Hid (q=384 * i+384)∧IntKind.i64.wrap ((i:Int) * 384)=(p:Int)∧IntKind.i64.wrap ((i:Int)+1)=(j:Int)∧IntKind.i64.wrap ((j:Int) * 384)=(q:Int):=by
 refine⟨384 * i,i+1,384 * i+384,rfl,rfl,rfl,?_,?_,?_⟩
 ·rw[show(i:Int) * 384=((384 * i:Nat):Int) by omega];exact IntWalk.i64_in _ (by omega)
 ·rw[show(i:Int)+1=((i+1:Nat):Int) by omega];exact IntWalk.i64_in _ (by omega)
 ·rw[show((i+1:Nat):Int) * 384=((384 * i+384:Nat):Int) by omega];exact IntWalk.i64_in _ (by omega)
theorem third_rd {w:World} {b o ck:Nat} {ek:List UInt8} (h:Rd w (.slice (some ⟨b,o,none⟩) 1184 ck) ek) (i p:Nat) (hi:i<3) (hp:p=384 * i):Rd w (.slice (some ⟨b,o+p,none⟩) 384 384) (tdL ek i):=by
 subst hp
 have h2:=h.part (384 * i) (384 * i+384) (by omega) (by omega)
 rw[show 384 * i+384 - 384 * i=384 by omega] at h2
 exact h2

set_option maxRecDepth 100000 in
set_option maxHeartbeats 4000000 in
theorem mcheck_any (v:Value) (ek:List UInt8) (w:World) (hr:Rd w v ek):
  Calls Tryz.prog 76 #[v] w fun e w'=>e=.returned (.int .i64 (ckE ek))∧Below w.heap.size w w':=by
 obtain⟨a0,ck,ev,hck,hmk, -,h5⟩:=id hr
 subst ev
 by_cases hl:ek.length=1184
 ·have h1:((ek.length:Int) !=1184)=false:=by simp;omega
  rcases h5 with h5|⟨b,o,rfl, -⟩
  ·rw[h5] at hl
   simp at hl
  have HY:Hid (∀h:(∀i,i<3→rdQ (tdL ek i)=true),ckE ek=0):=ckE_thirds ek hl
  have HN:Hid (∀i,i<3→rdQ (tdL ek i)=false→ckE ek=12):=ckE_third ek hl
  have HLn:Hid (∀i,i<3→(tdL ek i).length=384):=tdL_length ek hl
  rw[hl] at hr hck h1 ⊢
  have HR:Hid (Rd w (.slice (some ⟨b,o,none⟩) 1184 ck) ek):=hr
  have HCk:Hid _:=hck
  have HMk:Hid _:=hmk
  generalize ckE ek=R at HY HN ⊢
  clear hr hl hck hmk
  go_enter Tryz.func76,Tryz.ntmps76
  go_wp2
  go_loopw [7] (fun iv wx=>∃i:Nat,i≤3∧iv=.int .i64 (i:Int)∧Hid (∀k,k<i→rdQ (tdL ek k)=true)∧Below w.heap.size w wx) (fun iv _=>3 - (intOf iv).toNat)
  case atStart=>exact⟨0,by omega,rfl,(fun k hk=>by omega),Below.refl _ _⟩
  case round=>
   obtain⟨i,hi,rfl,HI,hbw⟩:=hrel
   by_cases hlt:i<3
   ·have hd:decide ((i:Int)<3)=true:=decide_eq_true (by omega)
    have hiI:(i:Int)<3:=by omega
    obtain⟨p,j,q,HP,HJ,HQ,x1,x2,x3⟩:=third_at i hlt
    obtain⟨rq,hrq⟩:∃rq,rdQ (tdL ek i)=rq:=⟨_,rfl⟩
    have HRq:Hid _:=hrq
    clear hrq
    go_wp2_with fail
    refine(kpart_any b o 1184 ck p q 384 _ _ rfl rfl (by have:=HP.out;have:=HQ.out;omega) _ (by have:=HP.out;have:=HQ.out;omega) (by have:=HQ.out;omega) HCk.out HMk.out).mono ?_
    rintro e wy ⟨rfl,rfl⟩
    go_wp2_with fail
    refine(mreduced_any _ _ rq HRq.out (HLn.out i hlt) _ (third_rd (Rd.kept HR.out hbw) i p hlt HP.out)).mono ?_
    rintro e w2 ⟨rfl,b2⟩
    have HB2:Hid _:=stepB hbw b2
    clear hbw b2
    cases rq
    ·have HE:Hid (R=12):=HN.out i hlt HRq.out
     go_wp2
     go_ret
     exact⟨by rw[HE.out];rfl,HB2.out⟩
    ·have HI2:Hid (∀k,k<j→rdQ (tdL ek k)=true):=fun k hk=>by
      have hj:=HJ.out
      by_cases e:k=i
      ·rw[e];exact HRq.out
      ·exact HI.out k (by omega)
     go_wp2
     go_roundw
     case rel=>exact⟨j,by have:=HJ.out;omega,rfl,HI2,HB2.out⟩
     case measure=>have:=HJ.out;simp[intOf]<;>omega
   ·have hie:i=3:=by omega
    have hd:decide ((i:Int)<3)=false:=decide_eq_false (by omega)
    have hiI:(3:Int)≤(i:Int):=by omega
    have HE:Hid (R=0):=HY.out (by rw[←hie];exact HI.out)
    have HB:Hid _:=hbw
    clear hbw hie
    go_wp2
    go_ret
    exact⟨by rw[HE.out];rfl,HB.out⟩
 ·have h1:((ek.length:Int) !=1184)=true:=by simp;omega
  have HE:Hid (ckE ek=1):=ckE_len ek hl
  rw[HE.out]
  clear hr h5
  go_enter Tryz.func76,Tryz.ntmps76
  go_wp2
  go_ret
  exact⟨rfl,Below.refl _ _⟩
structure WV where
 g:Nat
 gs:Nat
 gl:Nat
 gc:Nat
 gm:Nat
 gp:Nat
 gq:Nat
 gd:Nat
structure WF (V:WV) (vl:Value) (w:World):Prop where
 bs:BlkAt V.gs 33 [.pointer (some ⟨V.g,0,none⟩)] w
 bl:BlkAt V.gl 26 [vl] w
 bp:BlkAt V.gp 127 [.func (.func 57) #[] #[.pointer (some ⟨V.gm,0,none⟩)]] w
 bq:BlkAt V.gq 128 [.func (.func 58) #[] #[.pointer (some ⟨V.gs,0,none⟩),.pointer (some ⟨V.gp,0,none⟩)]] w
 bd:BlkAt V.gd 69 [.func (.func 60) #[] #[.pointer (some ⟨V.gc,0,none⟩)]] w
theorem WF.kept {V:WV} {vl:Value} {w w':World} (h:WF V vl w) (hb:Below w.heap.size w w'):WF V vl w':=⟨h.bs.kept hb,h.bl.kept hb,h.bp.kept hb,h.bq.kept hb,h.bd.kept hb⟩
theorem WF.side {V:WV} {vl:Value} {cs:List Value} {w w':World} (h:WF V vl w) (hB:BlkAt V.g 101 cs w) (c:Chg (fun k=>k=V.g) w w'):WF V vl w':=
 ⟨h.bs.chg c (blk_ne h.bs hB (by decide)),h.bl.chg c (blk_ne h.bl hB (by decide)),h.bp.chg c (blk_ne h.bp hB (by decide)),h.bq.chg c (blk_ne h.bq hB (by decide)),h.bd.chg c (blk_ne h.bd hB (by decide))⟩
theorem WF.var {V:WV} {vl:Value} {k:Nat} {cs:List Value} {w w':World} (h:WF V vl w) (hB:BlkAt k 26 cs w) (hl:V.gl≠k) (c:Chg (fun j=>j=k) w w'):WF V vl w':=
 ⟨h.bs.chg c (blk_ne h.bs hB (by decide)),h.bl.chg c hl,h.bp.chg c (blk_ne h.bp hB (by decide)),h.bq.chg c (blk_ne h.bq hB (by decide)),h.bd.chg c (blk_ne h.bd hB (by decide))⟩
theorem ne_put {k ty g e e' base:Nat} {cs cs':List Value} {v:Value} {l:List UInt8} {w:World} (hk:BlkAt k ty cs' w) (hB:BlkAt g e' cs w) (hO:Ow e base v l w) (h1:ty≠e') (h2:e≠ty):¬(k=g∨some k=v.ownBlock):=by
 rintro(h|h)
 ·exact blk_ne hk hB h1 h
 ·exact hO.not_blk hk h2 h.symm
theorem WF.put {V:WV} {vl v:Value} {m:List UInt8} {base:Nat} {cs:List Value} {w w':World} (h:WF V vl w) (hB:BlkAt V.gm 26 cs w) (hO:Ow 5 base v m w) (hl:V.gl≠V.gm) (c:Chg (fun k=>k=V.gm∨some k=v.ownBlock) w w'):WF V vl w':=
 ⟨h.bs.chg c (ne_put h.bs hB hO (by decide) (by decide)),h.bl.chg c (by rintro(e|e);exact hl e;exact hO.not_blk h.bl (by decide) e.symm),h.bp.chg c (ne_put h.bp hB hO (by decide) (by decide)),h.bq.chg c (ne_put h.bq hB hO (by decide) (by decide)),h.bd.chg c (ne_put h.bd hB hO (by decide) (by decide))⟩
structure WC (V:WV) (w0:World) (x0 vm:Value) (s:Sta) (c m:List UInt8) (post:List Value) (vc vh vk vg vd:Value) (w:World):Prop where
 st:StV w0.heap.size V.g x0 vm post vc vh vk s w
 sl:Sls 17 post
 bm:BlkAt V.gm 26 [vg] w
 om:Ow 5 w0.heap.size vg m w
 ac:Apart vg vc
 ah:Apart vg vh
 ak:Apart vg vk
 bc:BlkAt V.gc 26 [vd] w
 rc:Rd w0 vd c
 below:Below w0.heap.size w0 w
structure WN (V:WV) (w0:World):Prop where
 g:w0.heap.size≤V.g
 c:w0.heap.size≤V.gc
 m:w0.heap.size≤V.gm
 lc:V.gl≠V.gc
 lm:V.gl≠V.gm
 cm:V.gc≠V.gm
structure Wr (V:WV) (vl:Value) (w0:World) (x0 vm:Value) (s:Sta) (c m:List UInt8) (w:World):Prop where
 fix:WF V vl w
 num:WN V w0
 it:∃post vc vh vk vg vd,WC V w0 x0 vm s c m post vc vh vk vg vd w
theorem WC.kept {V:WV} {w0:World} {x0 vm:Value} {s:Sta} {c m:List UInt8} {post:List Value} {vc vh vk vg vd:Value} {w w':World} (h:WC V w0 x0 vm s c m post vc vh vk vg vd w) (hb:Below w.heap.size w w'):WC V w0 x0 vm s c m post vc vh vk vg vd w':=
 ⟨h.st.kept hb,h.sl,h.bm.kept hb,h.om.kept hb,h.ac,h.ah,h.ak,h.bc.kept hb,h.rc,stepB h.below hb⟩
theorem Wr.kept {V:WV} {vl:Value} {w0:World} {x0 vm:Value} {s:Sta} {c m:List UInt8} {w w':World} (h:Wr V vl w0 x0 vm s c m w) (hb:Below w.heap.size w w'):Wr V vl w0 x0 vm s c m w':=by
 obtain⟨post,vc,vh,vk,vg,vd,h1⟩:=h.it
 exact⟨h.fix.kept hb,h.num,_,_,_,_,_,_,h1.kept hb⟩
theorem WC.side {V:WV} {vl:Value} {w0:World} {x0 vm x1:Value} {s s':Sta} {c m:List UInt8} {post post':List Value} {vc vh vk vg vd vh':Value} {w w':World} (h:WC V w0 x0 vm s c m post vc vh vk vg vd w) (hN:WN V w0) (c1:Chg (fun k=>k=V.g) w w')
  (hs:StV w0.heap.size V.g x0 x1 post' vc vh' vk s' w') (hp:Sls 17 post') (ha:Apart vg vh'):WC V w0 x0 x1 s' c m post' vc vh' vk vg vd w':=
 ⟨hs,hp,h.bm.chg c1 (blk_ne h.bm h.st.1 (by decide)),h.om.chg h.st.1 ne_shake c1,h.ac,ha,h.ak,h.bc.chg c1 (blk_ne h.bc h.st.1 (by decide)),h.rc,Chg.gone h.below c1 h.below.size hN.g⟩
theorem WC.drawn {V:WV} {vl:Value} {w0:World} {x0 vm:Value} {s:Sta} {c c' m:List UInt8} {post:List Value} {vc vh vk vg vd vd':Value} {w w':World} (h:WC V w0 x0 vm s c m post vc vh vk vg vd w) (hN:WN V w0) (c1:Chg (fun k=>k=V.gc) w w')
  (hb:BlkAt V.gc 26 [vd'] w') (hr:Rd w0 vd' c'):WC V w0 x0 vm s c' m post vc vh vk vg vd' w':=
 ⟨⟨h.st.1.chg c1 (blk_ne h.st.1 h.bc (by decide)),h.st.2.1.chg h.bc (by decide) c1,h.st.2.2.1.chg h.bc (by decide) c1,h.st.2.2.2.chg h.bc (by decide) c1⟩,h.sl,h.bm.chg c1 (Ne.symm hN.cm),h.om.chg h.bc (by decide) c1,h.ac,h.ah,h.ak,hb,hr,Chg.gone h.below c1 h.below.size hN.c⟩
theorem WC.grown {V:WV} {w0:World} {x0 vm:Value} {s:Sta} {c m m':List UInt8} {post:List Value} {vc vh vk vg vg' vd:Value} {w w':World} (h:WC V w0 x0 vm s c m post vc vh vk vg vd w) (hN:WN V w0) (c1:Chg (fun k=>k=V.gm∨some k=vg.ownBlock) w w')
  (hb:BlkAt V.gm 26 [vg'] w') (ho:Ow 5 w0.heap.size vg' m' w') (hn:Near w vg vg'):WC V w0 x0 vm s c m' post vc vh vk vg' vd w':=by
 have far:∀{v:Value} {l:List UInt8},Ow 5 w0.heap.size v l w→Apart vg v→Ow 5 w0.heap.size v l w':=fun {v l} hv ha=>own_chg hv c1 fun b hb' e=>by
  rcases e with e|e
  ·subst e
   exact hv.not_blk h.bm (by decide) hb'
  ·exact ha b e.symm hb'
 refine⟨⟨h.st.1.chg c1 (ne_put h.st.1 h.bm h.om (by decide) (by decide)),far h.st.2.1 h.ac,far h.st.2.2.1 h.ah,far h.st.2.2.2 h.ak⟩,h.sl,hb,ho,Apart.near hn h.ac fun g hg=>(h.st.2.1.lt hg).2,Apart.near hn h.ah fun g hg=>(h.st.2.2.1.lt hg).2,Apart.near hn h.ak fun g hg=>(h.st.2.2.2.lt hg).2,h.bc.chg c1 ?_,h.rc,?_⟩
 ·rintro(e|e)
  ·exact hN.cm e
  ·exact h.om.not_blk h.bc (by decide) e.symm
 ·exact c1.below h.below h.below.size fun k _ e=>by
   rcases e with e|e
   ·have:=hN.m;omega
   ·exact(h.om.lt e.symm).1
end Go.Proofs.YtpgjobpmafbigaaGreatDoor
