/- What functions of the program, or of the reference, answer: contracts; several texts in one. -/
import Derived.Test.YtpgjobpmafbigaaGreatDoorGa
import Derived.Test.YtpgjobpmafbigaaGreatDoorBase
import Derived.Test.YtpgjobpmafbigaaGreatDoorGe
import Derived.Test.YtpgjobpmafbigaaGreatDoorGb

namespace Go.Proofs.YtpgjobpmafbigaaGreatDoor
set_option linter.unusedSimpArgs false
set_option linter.unusedVariables false

abbrev FZ:=Fin 3329
def nz (x:Nat):FZ:=⟨x % 3329,Nat.mod_lt _ (by decide)⟩
theorem nz_val (x:Nat):(nz x).val=x % 3329:=rfl
theorem nz_mul (x y:Nat):nz (x * y)=nz x * nz y:=by
 apply Fin.ext
 rw[Fin.val_mul]
 exact Nat.mul_mod x y _
def sm (n:Nat) (f:Nat→FZ):FZ:=match n with
 |0=>0
 |n+1=>sm n f+f n
theorem sm_zero (f:Nat→FZ):sm 0 f=0:=rfl
theorem sm_succ (n:Nat) (f:Nat→FZ):sm (n+1) f=sm n f+f n:=rfl
theorem sm_congr {f g:Nat→FZ}:∀n,(∀i,i<n→f i=g i)→sm n f=sm n g
 |0,_=>rfl
 |n+1,h=>by
  unfold sm
  rw[sm_congr n fun i hi=>h i (by omega),h n (by omega)]
theorem sm_add (f g:Nat→FZ):∀n,sm n (fun i=>f i+g i)=sm n f+sm n g
 |0=>by unfold sm;rfl
 |n+1=>by
  unfold sm
  rw[sm_add f g n]
  generalize sm n f=a
  generalize sm n g=b
  generalize f n=c
  generalize g n=d
  grind -lia
theorem sm_mul (c:FZ) (f:Nat→FZ):∀n,sm n (fun i=>c * f i)=c * sm n f
 |0=>by
  unfold sm
  grind -lia
 |n+1=>by
  unfold sm
  rw[sm_mul c f n]
  generalize sm n f=a
  generalize f n=b
  grind -lia
theorem sm_two (f:Nat→FZ):∀n,sm (2 * n) f=sm n (fun i=>f (2 * i))+sm n (fun i=>f (2 * i+1))
 |0=>by
  unfold sm
  grind -lia
 |n+1=>by
  have e:2 * (n+1)=2 * n+1+1:=by omega
  rw[e,sm_succ,sm_succ,sm_succ,sm_succ,sm_two f n]
  generalize sm n (fun i=>f (2 * i))=a
  generalize sm n (fun i=>f (2 * i+1))=b
  generalize f (2 * n)=c
  generalize f (2 * n+1)=d
  grind -lia
def pz (r:FZ):Nat→FZ
 |0=>1
 |n+1=>pz r n * r
theorem pz_succ (r:FZ) (n:Nat):pz r (n+1)=pz r n * r:=rfl
theorem pz_add (r:FZ) (m:Nat):∀n,pz r (m+n)=pz r m * pz r n
 |0=>by
  show pz r m=pz r m * 1
  grind -lia
 |n+1=>by
  rw[←Nat.add_assoc,pz_succ,pz_add r m n,pz_succ]
  grind -lia
theorem pz_two (z:FZ):∀i,pz z (2 * i)=pz (z * z) i
 |0=>rfl
 |i+1=>by
  have e:2 * (i+1)=2 * i+1+1:=by omega
  rw[e,pz_succ,pz_succ,pz_succ,pz_two z i]
  grind -lia
theorem pz_nz (x n:Nat):nz (x ^ n)=pz (nz x) n:=by
 induction n with
 |zero=>rfl
 |succ n ih=>rw[Nat.pow_succ,nz_mul,ih,pz_succ]
def ev (n l o:Nat) (f:Nat→FZ) (r:FZ):FZ:=sm n fun s=>f (o+l * s) * pz r s
theorem ev_plus (n l o:Nat) (f:Nat→FZ) (r z:FZ) (h:r=z * z):ev (2 * n) l o f z=ev n (2 * l) o f r+z * ev n (2 * l) (o+l) f r:=by
 unfold ev
 rw[sm_two,←sm_mul]
 congr 1
 ·refine sm_congr n fun i _=>?_
  have e1:o+l * (2 * i)=o+2 * l * i:=by rw[Nat.mul_comm 2 l,Nat.mul_assoc]
  rw[e1,pz_two,h]
 ·refine sm_congr n fun i _=>?_
  have e1:o+l * (2 * i+1)=o+l+2 * l * i:=by rw[Nat.mul_add,Nat.mul_comm 2 l,Nat.mul_assoc,Nat.mul_one];omega
  rw[e1,pz_succ,pz_two,h]
  generalize f (o+l+2 * l * i)=a
  generalize pz (z * z) i=b
  grind -lia
theorem ev_minus (n l o:Nat) (f:Nat→FZ) (r z:FZ) (h:r=z * z):ev (2 * n) l o f (-z)=ev n (2 * l) o f r - z * ev n (2 * l) (o+l) f r:=by
 rw[ev_plus n l o f r (-z) (by rw[h];grind -lia)]
 generalize ev n (2 * l) o f r=a
 generalize ev n (2 * l) (o+l) f r=b
 grind -lia
def zt (k:Nat):FZ:=pz 17 (tnJ k 7)
def rt:Nat→Nat→FZ
 |0,_=> -1
 |l+1,c=>if c % 2=0 then zt (2 ^ l+c / 2) else - zt (2 ^ l+c / 2)
theorem zt_square:∀l:Fin 7,∀b:Fin 64,b.val<2 ^ l.val→zt (2 ^ l.val+b.val) * zt (2 ^ l.val+b.val)=rt l.val b.val:=by decide+kernel
def zr (i:Nat):FZ:=pz 17 (2 * tnJ i 7+1)
theorem rt_last:∀b:Fin 128,rt 7 b.val=zr b.val:=by decide+kernel
theorem rt_even (l b:Nat):rt (l+1) (2 * b)=zt (2 ^ l+b):=by
 show(if 2 * b % 2=0 then zt (2 ^ l+2 * b / 2) else _)=_
 rw[if_pos (by omega),show 2 * b / 2=b by omega]
theorem rt_odd (l b:Nat):rt (l+1) (2 * b+1)= - zt (2 ^ l+b):=by
 show(if (2 * b+1) % 2=0 then _ else - zt (2 ^ l+(2 * b+1) / 2))=_
 rw[if_neg (by omega),show(2 * b+1) / 2=b by omega]
def lw (f:Nat→FZ) (l b t:Nat):FZ:=ev (2 ^ l) (2 ^ (8 - l)) t f (rt l b)
theorem lw_first (f:Nat→FZ) (b t:Nat):lw f 0 b t=f t:=by
 show sm 1 (fun s=>f (t+256 * s) * pz (-1) s)=f t
 rw[sm_succ,sm_zero]
 show 0+f (t+256 * 0) * 1=f t
 rw[Nat.mul_zero,Nat.add_zero]
 grind -lia
theorem lw_last (f:Nat→FZ) (b t:Nat) (hb:b<128):lw f 7 b t=ev 128 2 t f (zr b):=by
 show ev 128 2 t f (rt 7 b)=_
 rw[rt_last ⟨b,hb⟩]
theorem lw_even (f:Nat→FZ) (l b t:Nat) (hl:l<7) (hb:b<2 ^ l):lw f (l+1) (2 * b) t=lw f l b t+zt (2 ^ l+b) * lw f l b (t+2 ^ (7 - l)):=by
 have h64:b<64:=Nat.lt_of_lt_of_le hb (Nat.pow_le_pow_right (by decide) (by omega:l≤6))
 have hs:=zt_square ⟨l,hl⟩ ⟨b,h64⟩ hb
 have e1:2 ^ (l+1)=2 * 2 ^ l:=by rw[Nat.pow_succ,Nat.mul_comm]
 have e2:2 ^ (8 - l)=2 * 2 ^ (7 - l):=by rw[show 8 - l=7 - l+1 by omega,Nat.pow_succ,Nat.mul_comm]
 have e3:8 - (l+1)=7 - l:=by omega
 unfold lw
 rw[rt_even,e3,e1,e2,ev_plus _ _ _ _ _ _ hs.symm]
theorem lw_odd (f:Nat→FZ) (l b t:Nat) (hl:l<7) (hb:b<2 ^ l):lw f (l+1) (2 * b+1) t=lw f l b t - zt (2 ^ l+b) * lw f l b (t+2 ^ (7 - l)):=by
 have h64:b<64:=Nat.lt_of_lt_of_le hb (Nat.pow_le_pow_right (by decide) (by omega:l≤6))
 have hs:=zt_square ⟨l,hl⟩ ⟨b,h64⟩ hb
 have e1:2 ^ (l+1)=2 * 2 ^ l:=by rw[Nat.pow_succ,Nat.mul_comm]
 have e2:2 ^ (8 - l)=2 * 2 ^ (7 - l):=by rw[show 8 - l=7 - l+1 by omega,Nat.pow_succ,Nat.mul_comm]
 have e3:8 - (l+1)=7 - l:=by omega
 unfold lw
 rw[rt_odd,e3,e1,e2,ev_minus _ _ _ _ _ _ hs.symm]
theorem fz_mul_zero {a b:FZ} (h:a * b=0):a=0∨b=0:=by
 have h1:a.val * b.val % 3329=0:=by
  have:=congrArg Fin.val h
  rwa [Fin.val_mul] at this
 rcases pr3329.dvd_mul (Nat.dvd_of_mod_eq_zero h1) with h2|h2
 ·left
  apply Fin.ext
  have:=a.isLt
  exact Nat.eq_zero_of_dvd_of_lt h2 this
 ·right
  apply Fin.ext
  have:=b.isLt
  exact Nat.eq_zero_of_dvd_of_lt h2 this
theorem geo (w:FZ):∀n,(w - 1) * sm n (fun j=>pz w j)=pz w n - 1
 |0=>by
  rw[sm_zero]
  show(w - 1) * 0=1 - 1
  grind -lia
 |n+1=>by
  have h:=geo w n
  rw[sm_succ,pz_succ]
  generalize sm n (fun j=>pz w j)=a at h ⊢
  generalize pz w n=b at h ⊢
  grind -lia
theorem geo_zero (w:FZ) (h1:pz w 128=1) (hw:w≠1):sm 128 (fun j=>pz w j)=0:=by
 have h:=geo w 128
 rw[h1] at h
 have h2:(w - 1) * sm 128 (fun j=>pz w j)=0:=by
  rw[h]
  rfl
 rcases fz_mul_zero h2 with h3|h3
 ·exfalso
  apply hw
  have:w=(w - 1)+1:=by grind -lia
  rw[this,h3]
  rfl
 ·exact h3
theorem geo_one:sm 128 (fun j=>pz 1 j)=128:=by decide+kernel
def zi (i:Nat):FZ:=pz (zr i) 255
theorem zi_one:∀i:Fin 128,zr i.val * zi i.val=1:=by decide+kernel
theorem zr_pow:∀i:Fin 128,pz (zr i.val) 128= -1:=by decide+kernel
theorem zi_pow:∀i:Fin 128,pz (zi i.val) 128= -1:=by decide+kernel
theorem zr_inj:∀i:Fin 128,∀k:Fin 128,zr i.val=zr k.val→i=k:=by decide+kernel
theorem pz_mul (a b:FZ):∀n,pz (a * b) n=pz a n * pz b n
 |0=>by
  show(1:FZ)=1 * 1
  rfl
 |n+1=>by
  rw[pz_succ,pz_succ,pz_succ,pz_mul a b n]
  grind -lia
theorem ortho (i k:Nat) (hi:i<128) (hk:k<128):sm 128 (fun j=>pz (zi i) j * pz (zr k) j)=if i=k then 128 else 0:=by
 have e:sm 128 (fun j=>pz (zi i) j * pz (zr k) j)=sm 128 (fun j=>pz (zi i * zr k) j):=sm_congr 128 fun j _=>(pz_mul _ _ j).symm
 rw[e]
 have h1:=zi_one ⟨i,hi⟩
 by_cases h:i=k
 ·rw[if_pos h,←h,show zi i * zr i=1 by rw[←h1];grind -lia]
  exact geo_one
 ·rw[if_neg h]
  refine geo_zero _ ?_ fun hc=>h ?_
  ·rw[pz_mul,zi_pow ⟨i,hi⟩,zr_pow ⟨k,hk⟩]
   decide
  ·have h2:zr k=zr i:=by
    have h3:zr i * (zi i * zr k)=zr i * 1:=by rw[hc]
    have h4:zr i * (zi i * zr k)=(zr i * zi i) * zr k:=by grind -lia
    rw[h4,h1] at h3
    have h5:(1:FZ) * zr k=zr k:=by grind -lia
    have h6:zr i * 1=zr i:=by grind -lia
    rw[←h5,h3,h6]
   exact congrArg Fin.val (zr_inj ⟨i,hi⟩ ⟨k,hk⟩ h2.symm)
def fwd (f:Nat→FZ) (p:Nat):FZ:=ev 128 2 (p % 2) f (zr (p / 2))
def inw (g:Nat→FZ) (p:Nat):FZ:=sm 128 fun i=>g (2 * i+p % 2) * (3303 * pz (zi i) (p / 2))
theorem fwd_lw (f:Nat→FZ) (b t:Nat) (hb:b<128) (ht:t<2):fwd f (2 * b+t)=lw f 7 b t:=by
 rw[lw_last f b t hb]
 unfold fwd
 rw[show(2 * b+t) % 2=t by omega,show(2 * b+t) / 2=b by omega]
theorem sm_zeros:∀n,sm n (fun _=>0)=0
 |0=>rfl
 |n+1=>by
  rw[sm_succ,sm_zeros n]
  rfl
theorem sm_swap (f:Nat→Nat→FZ) (m:Nat):∀n,sm n (fun i=>sm m (fun j=>f i j))=sm m (fun j=>sm n (fun i=>f i j))
 |0=>by
  rw[sm_zero]
  exact(sm_zeros m).symm
 |n+1=>by
  rw[sm_succ,sm_swap f m n,←sm_add]
  rfl
theorem sm_one (n k:Nat) (hk:k<n) (f:Nat→FZ) (h:∀i,i<n→i≠k→f i=0):sm n f=f k:=by
 induction n with
 |zero=>omega
 |succ n ih=>
  rw[sm_succ]
  by_cases hn:k=n
  ·subst hn
   have:sm k f=0:=by
    rw[sm_congr k (g:=fun _=>0) fun i hi=>h i (by omega) (by omega)]
    exact sm_zeros k
   rw[this]
   grind -lia
  ·rw[ih (by omega) fun i hi hne=>h i (by omega) hne,h n (by omega) (by omega)]
   grind -lia
theorem fwd_inw (g:Nat→FZ) (p:Nat) (hp:p<256):fwd (inw g) p=g p:=by
 unfold fwd ev
 have e1:sm 128 (fun s=>inw g (p % 2+2 * s) * pz (zr (p / 2)) s)=sm 128 (fun s=>sm 128 (fun i=>g (2 * i+p % 2) * 3303 * (pz (zi i) s * pz (zr (p / 2)) s))):=by
  refine sm_congr 128 fun s _=>?_
  unfold inw
  rw[show(p % 2+2 * s) % 2=p % 2 by omega,show(p % 2+2 * s) / 2=s by omega]
  generalize pz (zr (p / 2)) s=c
  have e2:sm 128 (fun i=>g (2 * i+p % 2) * (3303 * pz (zi i) s)) * c=c * sm 128 (fun i=>g (2 * i+p % 2) * (3303 * pz (zi i) s)):=by
   generalize sm 128 (fun i=>g (2 * i+p % 2) * (3303 * pz (zi i) s))=a
   grind -lia
  rw[e2,←sm_mul]
  refine sm_congr 128 fun i _=>?_
  generalize g (2 * i+p % 2)=a
  generalize pz (zi i) s=b
  grind -lia
 rw[e1,sm_swap]
 have e3:sm 128 (fun i=>sm 128 (fun s=>g (2 * i+p % 2) * 3303 * (pz (zi i) s * pz (zr (p / 2)) s)))=sm 128 (fun i=>g (2 * i+p % 2) * 3303 * (if i=p / 2 then 128 else 0)):=by
  refine sm_congr 128 fun i hi=>?_
  rw[sm_mul,ortho i (p / 2) hi (by omega)]
 rw[e3,sm_one 128 (p / 2) (by omega) _ fun i _ hne=>by
  rw[if_neg hne]
  generalize g (2 * i+p % 2)=a
  grind -lia]
 rw[if_pos rfl,show 2 * (p / 2)+p % 2=p by omega]
 have e4:(3303:FZ) * 128=1:=by decide
 generalize g p=a
 have e5:a * 3303 * 128=a * ((3303:FZ) * 128):=by grind -lia
 rw[e5,e4]
 grind -lia
theorem zt_ne:∀k:Fin 128,zt k.val≠0:=by decide+kernel
theorem half_zero {a:FZ} (h:2 * a=0):a=0:=by
 rcases fz_mul_zero h with h1|h1
 ·exact absurd h1 (by decide)
 ·exact h1
theorem lw_down (f g:Nat→FZ) (l:Nat) (hl:l<7) (h:∀b t,b<2 ^ (l+1)→t<2 ^ (7 - l)→lw f (l+1) b t=lw g (l+1) b t):
  ∀b t,b<2 ^ l→t<2 ^ (8 - l)→lw f l b t=lw g l b t:=by
 have key:∀b t,b<2 ^ l→t<2 ^ (7 - l)→lw f l b t=lw g l b t∧lw f l b (t+2 ^ (7 - l))=lw g l b (t+2 ^ (7 - l)):=by
  intro b t hb ht
  have hb2:2 * b+1<2 ^ (l+1):=by rw[Nat.pow_succ];omega
  have h0:=h (2 * b) t (by omega) ht
  have h1:=h (2 * b+1) t hb2 ht
  rw[lw_even f l b t hl hb,lw_even g l b t hl hb] at h0
  rw[lw_odd f l b t hl hb,lw_odd g l b t hl hb] at h1
  have hk:2 ^ l+b<128:=by
   have:2 ^ l≤64:=Nat.pow_le_pow_right (by decide) (by omega:l≤6)
   omega
  have hz:=zt_ne ⟨2 ^ l+b,hk⟩
  simp only at hz
  generalize zt (2 ^ l+b)=z at h0 h1 hz
  generalize lw f l b t=x at h0 h1 ⊢
  generalize lw g l b t=x' at h0 h1 ⊢
  generalize lw f l b (t+2 ^ (7 - l))=y at h0 h1 ⊢
  generalize lw g l b (t+2 ^ (7 - l))=y' at h0 h1 ⊢
  have k1:2 * (x - x')=0:=by grind -lia
  have k2:2 * (z * (y - y'))=0:=by grind -lia
  have k3:=half_zero k1
  have k4:=(fz_mul_zero (half_zero k2)).resolve_left hz
  constructor
  ·grind -lia
  ·grind -lia
 intro b t hb ht
 have e2:2 ^ (8 - l)=2 * 2 ^ (7 - l):=by rw[show 8 - l=7 - l+1 by omega,Nat.pow_succ,Nat.mul_comm]
 by_cases h1:t<2 ^ (7 - l)
 ·exact(key b t hb h1).1
 ·have:=(key b (t - 2 ^ (7 - l)) hb (by omega)).2
  rwa [Nat.sub_add_cancel (by omega)] at this
theorem fwd_inj (f g:Nat→FZ) (h:∀p,p<256→fwd f p=fwd g p):∀p,p<256→f p=g p:=by
 have h7:∀b t,b<2 ^ 7→t<2 ^ 1→lw f 7 b t=lw g 7 b t:=by
  intro b t hb ht
  rw[←fwd_lw f b t hb ht,←fwd_lw g b t hb ht]
  exact h _ (by omega)
 have h6:=lw_down f g 6 (by decide) h7
 have h5:=lw_down f g 5 (by decide) h6
 have h4:=lw_down f g 4 (by decide) h5
 have h3:=lw_down f g 3 (by decide) h4
 have h2:=lw_down f g 2 (by decide) h3
 have h1:=lw_down f g 1 (by decide) h2
 have h0:=lw_down f g 0 (by decide) h1
 intro p hp
 have:=h0 0 p (by decide) hp
 rwa [lw_first,lw_first] at this
def x0 (z:FZ) (k:Nat):FZ:=if k % 2=0 then pz z (k / 2) else 0
def x1 (z:FZ) (k:Nat):FZ:=if k % 2=0 then 0 else pz z (k / 2)
theorem x_add (z:FZ) (i j:Nat):x0 z (i+j)=x0 z i * x0 z j+z * (x1 z i * x1 z j)∧x1 z (i+j)=x0 z i * x1 z j+x1 z i * x0 z j:=by
 unfold x0 x1
 by_cases hi:i % 2=0
 ·by_cases hj:j % 2=0
  ·rw[if_pos (show(i+j) % 2=0 by omega),if_pos (show(i+j) % 2=0 by omega),if_pos hi,if_pos hj,if_pos hi,if_pos hj,show(i+j) / 2=i / 2+j / 2 by omega,pz_add]
   constructor<;>grind -lia
  ·rw[if_neg (show ¬(i+j) % 2=0 by omega),if_neg (show ¬(i+j) % 2=0 by omega),if_pos hi,if_neg hj,if_pos hi,if_neg hj,show(i+j) / 2=i / 2+j / 2 by omega,pz_add]
   constructor<;>grind -lia
 ·by_cases hj:j % 2=0
  ·rw[if_neg (show ¬(i+j) % 2=0 by omega),if_neg (show ¬(i+j) % 2=0 by omega),if_neg hi,if_pos hj,if_neg hi,if_pos hj,show(i+j) / 2=i / 2+j / 2 by omega,pz_add]
   constructor<;>grind -lia
  ·rw[if_pos (show(i+j) % 2=0 by omega),if_pos (show(i+j) % 2=0 by omega),if_neg hi,if_neg hj,if_neg hi,if_neg hj,show(i+j) / 2=i / 2+j / 2+1 by omega,pz_succ,pz_add]
   constructor<;>grind -lia
theorem x_turn (z:FZ) (h:pz z 128= -1) (k:Nat):x0 z (k+256)= - x0 z k∧x1 z (k+256)= - x1 z k:=by
 unfold x0 x1
 rw[show(k+256) % 2=k % 2 by omega,show(k+256) / 2=k / 2+128 by omega,pz_add,h]
 by_cases hk:k % 2=0
 ·rw[if_pos hk,if_pos hk,if_pos hk,if_pos hk]
  constructor<;>grind -lia
 ·rw[if_neg hk,if_neg hk,if_neg hk,if_neg hk]
  constructor<;>grind -lia
def e0 (z:FZ) (f:Nat→FZ):FZ:=sm 256 fun k=>f k * x0 z k
def e1 (z:FZ) (f:Nat→FZ):FZ:=sm 256 fun k=>f k * x1 z k
theorem e0_ev (z:FZ) (f:Nat→FZ):e0 z f=ev 128 2 0 f z:=by
 unfold e0
 rw[show(256:Nat)=2 * 128 from rfl,sm_two]
 have h1:sm 128 (fun i=>f (2 * i+1) * x0 z (2 * i+1))=0:=by
  rw[sm_congr 128 (g:=fun _=>0) fun i _=>by
   unfold x0
   rw[if_neg (by omega)]
   grind -lia]
  exact sm_zeros 128
 rw[h1]
 have h2:sm 128 (fun i=>f (2 * i) * x0 z (2 * i))=ev 128 2 0 f z:=by
  unfold ev
  refine sm_congr 128 fun i _=>?_
  unfold x0
  rw[if_pos (by omega),show 2 * i / 2=i by omega,Nat.zero_add]
 rw[h2]
 generalize ev 128 2 0 f z=a
 grind -lia
theorem e1_ev (z:FZ) (f:Nat→FZ):e1 z f=ev 128 2 1 f z:=by
 unfold e1
 rw[show(256:Nat)=2 * 128 from rfl,sm_two]
 have h1:sm 128 (fun i=>f (2 * i) * x1 z (2 * i))=0:=by
  rw[sm_congr 128 (g:=fun _=>0) fun i _=>by
   unfold x1
   rw[if_pos (by omega)]
   grind -lia]
  exact sm_zeros 128
 rw[h1]
 have h2:sm 128 (fun i=>f (2 * i+1) * x1 z (2 * i+1))=ev 128 2 1 f z:=by
  unfold ev
  refine sm_congr 128 fun i _=>?_
  unfold x1
  rw[if_neg (by omega),show(2 * i+1) / 2=i by omega,Nat.add_comm 1]
 rw[h2]
 generalize ev 128 2 1 f z=a
 grind -lia
theorem sm_put (x:Nat→FZ) (f:Nat→FZ) (m:Nat) (c:FZ):∀n,m<n→sm n (fun k=>(if k=m then f m+c else f k) * x k)=sm n (fun k=>f k * x k)+c * x m:=by
 intro n
 induction n with
 |zero=>intro h;omega
 |succ n ih=>
  intro h
  rw[sm_succ,sm_succ]
  by_cases hn:m=n
  ·subst hn
   rw[if_pos rfl,sm_congr m (g:=fun k=>f k * x k) fun i hi=>by rw[if_neg (by omega)]]
   generalize sm m (fun k=>f k * x k)=a
   generalize f m=b
   generalize x m=d
   grind -lia
  ·rw[ih (by omega),if_neg (by omega)]
   generalize sm n (fun k=>f k * x k)=a
   generalize f n * x n=b
   generalize c * x m=d
   grind -lia
def putZ (f:Nat→FZ) (m:Nat) (c:FZ) (k:Nat):FZ:=if k=m then f m+c else f k
def Pp (a b:Nat→FZ) (i j:Nat) (o:Nat→FZ):Prop:=∀z:FZ,pz z 128= -1→
 e0 z o=sm i (fun p=>sm 256 (fun q=>a p * b q * x0 z (p+q)))+sm j (fun q=>a i * b q * x0 z (i+q))∧
 e1 z o=sm i (fun p=>sm 256 (fun q=>a p * b q * x1 z (p+q)))+sm j (fun q=>a i * b q * x1 z (i+q))
theorem Pp.start (a b:Nat→FZ) (o:Nat→FZ) (h:∀k,k<256→o k=0):Pp a b 0 0 o:=by
 intro z _
 unfold e0 e1
 rw[sm_zero,sm_zero,sm_zero,sm_zero]
 constructor
 ·rw[sm_congr 256 (g:=fun _=>0) fun k hk=>by
   rw[h k hk]
   grind -lia,sm_zeros]
  rfl
 ·rw[sm_congr 256 (g:=fun _=>0) fun k hk=>by
   rw[h k hk]
   grind -lia,sm_zeros]
  rfl
theorem Pp.put {a b o:Nat→FZ} {i j:Nat} (h:Pp a b i j o) (hij:i+j<256):Pp a b i (j+1) (putZ o (i+j) (a i * b j)):=by
 intro z hz
 obtain⟨h0,h1⟩:=h z hz
 have k0:e0 z (putZ o (i+j) (a i * b j))=e0 z o+a i * b j * x0 z (i+j):=sm_put (x0 z) o (i+j) (a i * b j) 256 hij
 have k1:e1 z (putZ o (i+j) (a i * b j))=e1 z o+a i * b j * x1 z (i+j):=sm_put (x1 z) o (i+j) (a i * b j) 256 hij
 rw[k0,k1,h0,h1,sm_succ,sm_succ]
 constructor
 ·generalize sm i _=p
  generalize sm j _=q
  grind -lia
 ·generalize sm i _=p
  generalize sm j _=q
  grind -lia
theorem Pp.turn {a b o:Nat→FZ} {i j:Nat} (h:Pp a b i j o) (hi:i<256) (hj:j<256) (hij:256≤i+j):Pp a b i (j+1) (putZ o (i+j - 256) (- (a i * b j))):=by
 intro z hz
 obtain⟨h0,h1⟩:=h z hz
 have k0:e0 z (putZ o (i+j - 256) (- (a i * b j)))=e0 z o+ - (a i * b j) * x0 z (i+j - 256):=sm_put (x0 z) o (i+j - 256) (- (a i * b j)) 256 (by omega)
 have k1:e1 z (putZ o (i+j - 256) (- (a i * b j)))=e1 z o+ - (a i * b j) * x1 z (i+j - 256):=sm_put (x1 z) o (i+j - 256) (- (a i * b j)) 256 (by omega)
 obtain⟨t0,t1⟩:=x_turn z hz (i+j - 256)
 rw[show i+j - 256+256=i+j by omega] at t0 t1
 rw[k0,k1,h0,h1,sm_succ,sm_succ,t0,t1]
 constructor
 ·generalize sm i _=p
  generalize sm j _=q
  grind -lia
 ·generalize sm i _=p
  generalize sm j _=q
  grind -lia
theorem Pp.next {a b o:Nat→FZ} {i:Nat} (h:Pp a b i 256 o):Pp a b (i+1) 0 o:=by
 intro z hz
 obtain⟨h0,h1⟩:=h z hz
 constructor
 ·rw[h0,sm_succ i,sm_zero]
  generalize sm i _=p
  generalize sm 256 (fun q=>a i * b q * x0 z (i+q))=q
  clear h0 h1 h hz
  grind -lia
 ·rw[h1,sm_succ i,sm_zero]
  generalize sm i _=p
  generalize sm 256 (fun q=>a i * b q * x1 z (i+q))=q
  clear h0 h1 h hz
  grind -lia
theorem e_prod (a b:Nat→FZ) (z:FZ):sm 256 (fun p=>sm 256 (fun q=>a p * b q * x0 z (p+q)))=e0 z a * e0 z b+z * (e1 z a * e1 z b)∧
  sm 256 (fun p=>sm 256 (fun q=>a p * b q * x1 z (p+q)))=e0 z a * e1 z b+e1 z a * e0 z b:=by
 have inner0:∀p,sm 256 (fun q=>a p * b q * x0 z (p+q))=a p * x0 z p * e0 z b+z * (a p * x1 z p * e1 z b):=by
  intro p
  unfold e0 e1
  rw[←sm_mul,←sm_mul,←sm_mul,←sm_add]
  refine sm_congr 256 fun q _=>?_
  rw[(x_add z p q).1]
  grind -lia
 have inner1:∀p,sm 256 (fun q=>a p * b q * x1 z (p+q))=a p * x0 z p * e1 z b+a p * x1 z p * e0 z b:=by
  intro p
  unfold e0 e1
  rw[←sm_mul,←sm_mul,←sm_add]
  refine sm_congr 256 fun q _=>?_
  rw[(x_add z p q).2]
  grind -lia
 constructor
 ·rw[sm_congr 256 fun p _=>inner0 p,sm_add,sm_mul]
  have h1:sm 256 (fun p=>a p * x0 z p * e0 z b)=e0 z a * e0 z b:=by
   rw[sm_congr 256 (g:=fun p=>e0 z b * (a p * x0 z p)) fun p _=>by grind -lia,sm_mul]
   show e0 z b * e0 z a=_
   grind -lia
  have h2:sm 256 (fun p=>a p * x1 z p * e1 z b)=e1 z a * e1 z b:=by
   rw[sm_congr 256 (g:=fun p=>e1 z b * (a p * x1 z p)) fun p _=>by grind -lia,sm_mul]
   show e1 z b * e1 z a=_
   grind -lia
  rw[h1,h2]
 ·rw[sm_congr 256 fun p _=>inner1 p,sm_add]
  have h1:sm 256 (fun p=>a p * x0 z p * e1 z b)=e0 z a * e1 z b:=by
   rw[sm_congr 256 (g:=fun p=>e1 z b * (a p * x0 z p)) fun p _=>by grind -lia,sm_mul]
   show e1 z b * e0 z a=_
   grind -lia
  have h2:sm 256 (fun p=>a p * x1 z p * e0 z b)=e1 z a * e0 z b:=by
   rw[sm_congr 256 (g:=fun p=>e0 z b * (a p * x1 z p)) fun p _=>by grind -lia,sm_mul]
   show e0 z b * e1 z a=_
   grind -lia
  rw[h1,h2]
def tm (a b:Nat→FZ) (p:Nat):FZ:=if p % 2=0 then a p * b p+a (p+1) * b (p+1) * zr (p / 2) else a (p - 1) * b p+a p * b (p - 1)
def pd (a b:Nat→FZ) (p:Nat):FZ:=inw (tm (fwd a) (fwd b)) p
theorem fwd_even (f:Nat→FZ) (p:Nat) (h:p % 2=0):fwd f p=e0 (zr (p / 2)) f:=by
 rw[e0_ev]
 unfold fwd
 rw[h]
theorem fwd_odd (f:Nat→FZ) (p:Nat) (h:p % 2=1):fwd f p=e1 (zr (p / 2)) f:=by
 rw[e1_ev]
 unfold fwd
 rw[h]
theorem fwd_pd (a b:Nat→FZ) (p:Nat) (hp:p<256):fwd (pd a b) p=tm (fwd a) (fwd b) p:=fwd_inw (tm (fwd a) (fwd b)) p hp
theorem Pp.fwd {a b o:Nat→FZ} (h:Pp a b 256 0 o) (p:Nat) (hp:p<256):fwd o p=tm (fwd a) (fwd b) p:=by
 have hz:=zr_pow ⟨p / 2,by omega⟩
 simp only at hz
 obtain⟨h0,h1⟩:=h _ hz
 rw[sm_zero,(e_prod a b _).1] at h0
 rw[sm_zero,(e_prod a b _).2] at h1
 unfold tm
 by_cases hq:p % 2=0
 ·rw[if_pos hq,fwd_even o p hq,fwd_even a p hq,fwd_even b p hq,fwd_odd a (p+1) (by omega),fwd_odd b (p+1) (by omega),show(p+1) / 2=p / 2 by omega,h0]
  grind -lia
 ·rw[if_neg hq,fwd_odd o p (by omega),fwd_odd a p (by omega),fwd_odd b p (by omega),fwd_even a (p - 1) (by omega),fwd_even b (p - 1) (by omega),show(p - 1) / 2=p / 2 by omega,h1]
  grind -lia
theorem Pp.done {a b o:Nat→FZ} (h:Pp a b 256 0 o) (p:Nat) (hp:p<256):o p=pd a b p:=
 fwd_inj o (pd a b) (fun q hq=>by rw[h.fwd q hq,fwd_pd a b q hq]) p hp
def gI (F:Nat→Int):List Int:=(List.range 256).map F
theorem gI_length (F:Nat→Int):(gI F).length=256:=by simp[gI]
theorem gI_get (F:Nat→Int) {k:Nat} (h:k<256):(gI F).getD k 0=F k:=by simp[gI,h]
theorem gI_congr {F G:Nat→Int} (h:∀k,k<256→F k=G k):gI F=gI G:=List.map_congr_left fun k hk=>h k (List.mem_range.1 hk)
theorem gI_set (F:Nat→Int) (i:Nat) (v:Int):(gI F).set i v=gI fun k=>if k=i then v else F k:=by
 refine List.ext_getElem (by simp[gI]) fun k h1 h2=>?_
 simp only[gI,List.getElem_set,List.getElem_map,List.getElem_range]
 by_cases h:i=k
 ·simp[h]
 ·rw[if_neg h,if_neg (fun e=>h e.symm)]
theorem gI_ne (F:Nat→Int):gI F≠[]:=by
 intro e
 have:=gI_length F
 rw[e] at this
 cases this
def fzF (f:Nat→FZ) (k:Nat):Int:=(((f k).val:Nat):Int)
def lf (l:List Int) (k:Nat):FZ:=nz (rsZ (l.getD k 0))
theorem fz_congr {f g:Nat→FZ} (h:∀k,k<256→f k=g k):gI (fzF f)=gI (fzF g):=gI_congr fun k hk=>by unfold fzF;rw[h k hk]
theorem fzF_lt (f:Nat→FZ) (k:Nat):0≤fzF f k∧fzF f k<3329:=by
 unfold fzF
 have:=(f k).isLt
 omega
theorem fz_val_add (x y:FZ):(x+y).val=(x.val+y.val) % 3329:=Fin.val_add x y
theorem fz_val_mul (x y:FZ):(x * y).val=x.val * y.val % 3329:=Fin.val_mul x y
theorem fz_val_sub (x y:FZ):(x - y).val=(x.val+3329 - y.val) % 3329:=by
 have h:=Fin.sub_def x y
 have hx:=x.isLt
 have hy:=y.isLt
 rw[h]
 show(3329 - y.val+x.val) % 3329=_
 omega
def hnr (f:Nat→FZ) (o:Nat) (r:FZ) (j:Nat):FZ:=sm (128 - j) fun s=>f (o+2 * (j+s)) * pz r s
def cdN (S:Nat→UInt8) (c:Nat):Nat:=if c % 2=0 then (S (3 * (c / 2))).toNat+256 * ((S (3 * (c / 2)+1)).toNat % 16) else (S (3 * (c / 2)+1)).toNat / 16+16 * (S (3 * (c / 2)+2)).toNat
def unA (S:Nat→UInt8):Nat→List Nat
 |0=>[]
 |c+1=>if cdN S c<3329∧(unA S c).length<256 then unA S c++[cdN S c] else unA S c
theorem unA_take {S:Nat→UInt8} {c:Nat} (h:cdN S c<3329) (hl:(unA S c).length<256):unA S (c+1)=unA S c++[cdN S c]:=if_pos ⟨h,hl⟩
theorem unA_pass {S:Nat→UInt8} {c:Nat} (h:¬(cdN S c<3329∧(unA S c).length<256)):unA S (c+1)=unA S c:=if_neg h
theorem unA_full {S:Nat→UInt8} {c:Nat} (h:(unA S c).length=256):∀d,unA S (c+d)=unA S c
 |0=>rfl
 |d+1=>by
  have ih:=unA_full h d
  have h2:¬(cdN S (c+d)<3329∧(unA S (c+d)).length<256):=by
   rw[ih]
   omega
  show unA S (c+d+1)=_
  rw[unA_pass h2,ih]
theorem unA_lt (S:Nat→UInt8):∀c,∀x∈unA S c,x<3329
 |0,x,hx=>by simp[unA] at hx
 |c+1,x,hx=>by
  have ih:=unA_lt S c
  by_cases h:cdN S c<3329∧(unA S c).length<256
  ·rw[unA_take h.1 h.2,List.mem_append,List.mem_singleton] at hx
   rcases hx with h1|rfl
   ·exact ih x h1
   ·exact h.1
  ·rw[unA_pass h] at hx
   exact ih x hx
def unF (S:Nat→UInt8) (k:Nat):FZ:=nz ((unA S 2688).getD k 0)
theorem getD_lt {l:List Nat} (h:∀x∈l,x<3329) (k:Nat):l.getD k 0<3329:=by
 by_cases hk:k<l.length
 ·have:=h l[k] (List.getElem_mem hk)
  simpa [hk] using this
 ·simp[Nat.not_lt.1 hk]
def unG (l:List Nat) (k:Nat):Int:=((l.getD k 0:Nat):Int)
theorem unG_nil:unG []=fun _=>0:=by
 funext k
 simp[unG]
theorem unG_put (l:List Nat) (x k:Nat):(if k=l.length then ((x:Nat):Int) else unG l k)=unG (l++[x]) k:=by
 unfold unG
 by_cases h:k=l.length
 ·rw[if_pos h,h]
  simp
 ·rw[if_neg h]
  by_cases h2:k<l.length
  ·simp[List.getElem?_append,h2]
  ·have h3:l.length≤k:=by omega
   have h4:(l++[x]).length≤k:=by rw[List.length_append,List.length_singleton];omega
   rw[List.getD_eq_getElem?_getD,List.getD_eq_getElem?_getD,List.getElem?_eq_none h3,List.getElem?_eq_none h4]
theorem un_done {S:Nat→UInt8} {c:Nat} (hc:c≤2688) (h:c=2688∨(unA S c).length=256):gI (unG (unA S c))=gI (fzF (unF S)):=by
 have e:unA S 2688=unA S c:=by
  rcases h with rfl|h
  ·rfl
  ·have:=unA_full h (2688 - c)
   rw[show c+(2688 - c)=2688 by omega] at this
   exact this
 refine gI_congr fun k _=>?_
 unfold unG fzF unF
 rw[e,nz_val,Nat.mod_eq_of_lt (getD_lt (unA_lt S c) k)]
abbrev FF:=Fin 57896044618658097711785492504343953926634992332820282019728792003956564819949
theorem pr_p:Pr 57896044618658097711785492504343953926634992332820282019728792003956564819949:=pr_57896044618658097711785492504343953926634992332820282019728792003956564819949
theorem fmul_val (a b:FF):(a * b).val=a.val * b.val % 57896044618658097711785492504343953926634992332820282019728792003956564819949:=Fin.val_mul a b
theorem fne (a:FF) (h:a≠0):¬57896044618658097711785492504343953926634992332820282019728792003956564819949 ∣ a.val:=by
 intro hd
 apply h
 apply Fin.ext
 have h1:=Nat.eq_zero_of_dvd_of_lt hd a.isLt
 rw[h1]
 rfl
def pTwo:Nat:=57896044618658097711785492504343953926634992332820282019728792003956564819947
theorem pTwo_eq:pTwo+1=57896044618658097711785492504343953926634992332820282019728792003956564819949 - 1:=by decide
theorem zpow_mod (k n:Nat) (h:0<k):0 ^ k % n=0:=by rw[Nat.zero_pow h,Nat.zero_mod]
def finv (a:FF):FF:=⟨a.val ^ pTwo % 57896044618658097711785492504343953926634992332820282019728792003956564819949,Nat.mod_lt _ (by decide)⟩
theorem finv_mul (a:FF) (h:a≠0):a * finv a=1:=by
 apply Fin.ext
 rw[fmul_val]
 show a.val * (a.val ^ pTwo % 57896044618658097711785492504343953926634992332820282019728792003956564819949) % 57896044618658097711785492504343953926634992332820282019728792003956564819949=1
 rw[Nat.mul_mod_mod,Nat.mul_comm,←Nat.pow_succ,Nat.succ_eq_add_one,pTwo_eq]
 exact fermat pr_p a.val (fne a h)
theorem fmul_zero {a b:FF} (h:a * b=0):a=0∨b=0:=by
 by_cases ha:a=0
 ·exact .inl ha
 ·right
  have h1:=finv_mul a ha
  have h2:b=b * (a * finv a):=by rw[h1];grind -lia
  rw[h2]
  have h3:b * (a * finv a)=(a * b) * finv a:=by grind -lia
  rw[h3,h]
  grind -lia
theorem fcancel {a b c:FF} (hc:c≠0) (h:a * c=b * c):a=b:=by
 have h1:(a - b) * c=0:=by grind -lia
 rcases fmul_zero h1 with h2|h2
 ·grind -lia
 ·exact absurd h2 hc
theorem finv_zero:finv 0=0:=by
 have h:∀a:FF,a.val=0→(finv a).val=0:=fun a ha=>by
  show a.val ^ pTwo % 57896044618658097711785492504343953926634992332820282019728792003956564819949=0
  rw[ha]
  exact zpow_mod pTwo 57896044618658097711785492504343953926634992332820282019728792003956564819949 (by decide)
 exact Fin.ext (h 0 rfl)

def dD:FF:=⟨37095705934669439343138083508754565189542113879843219016388785533085940283555,by decide⟩
theorem two_ne:(2:FF)≠0:=by decide
def OnC (u v:FF):Prop:=v * v - u * u=1+dD * u * u * v * v
structure Pt where
 u:FF
 v:FF
 on:OnC u v
theorem frac_eq {a b a' b':FF} (hb:b≠0) (hb':b'≠0) (h:a * b'=a' * b):a * finv b=a' * finv b':=by
 have h1:=finv_mul b hb
 have h2:=finv_mul b' hb'
 refine fcancel hb (fcancel hb' ?_)
 generalize finv b=x at *
 generalize finv b'=y at *
 grind -lia
def Rp (X Z:FF) (P:Pt):Prop:=X * (1 - P.v)=Z * (1+P.v)∧(X≠0∨Z≠0)
theorem two_mul_zero {a:FF} (h:2 * a=0):a=0:=by
 rcases fmul_zero h with h|h
 ·exact absurd h two_ne
 ·exact h
theorem Rp.sum {X Z:FF} {P:Pt} (h:Rp X Z P):X - Z=P.v * (X+Z)∧X+Z≠0:=by
 have h1:X - Z=P.v * (X+Z):=by
  have:=h.1
  generalize P.v=v at *
  grind -lia
 refine⟨h1,fun h0=>?_⟩
 rw[h0] at h1
 have hx:X=0:=two_mul_zero (by generalize P.v=v at *;grind -lia)
 have hz:Z=0:=two_mul_zero (by generalize P.v=v at *;grind -lia)
 rcases h.2 with h2|h2
 ·exact h2 hx
 ·exact h2 hz
end Go.Proofs.YtpgjobpmafbigaaGreatDoor

namespace Go.Proofs.YtpgjobpmafbigaaGreatDoor
open Go.ChangeShapes Go.WideShapes Go.ChangeAt Go.RowKit
set_option linter.unusedSimpArgs false
set_option linter.unusedVariables false

theorem beq_say (a b:Bool) (x y:Int):(((a,x):Say)==(b,y))=(decide (a=b)&&decide (x=y)):=by
 show((a==b)&&(x==y))=_
 congr 1<;>(rw[Bool.eq_iff_iff];simp)
theorem idx_miss {l:List Say} {f:Say→Bool} (h:∀k,k<l.length→f (l.getD k (false,0))=false):l.any f=false:=by
 rw[List.any_eq_false]
 intro x hx
 obtain⟨k,hk,rfl⟩:=List.mem_iff_getElem.1 hx
 have:=h k hk
 simp[hk] at this
 simp[this]
theorem idx_hit {l:List Say} {f:Say→Bool} {k:Nat} (hk:k<l.length) (h:f (l.getD k (false,0))=true):l.any f=true:=by
 rw[List.any_eq_true]
 refine⟨l.getD k (false,0),?_,h⟩
 simp[hk]

set_option maxRecDepth 100000 in
set_option maxHeartbeats 4000000 in
theorem keyIdx_any (k:Say) (ks:List Say) (v:Value) (A:Array Value) (hA:A=#[.bool k.1,.int .i64 k.2]) (w:World) (h:KyR w v ks):
  Calls Tryz.prog 348 #[v,.agg A] w fun e w'=>(∃r:Int,e=.returned (.int .i64 r)∧decide (0≤r)=ks.any fun q=>q==k)∧Below w.heap.size w w':=by
 obtain⟨kb,kt⟩:=k
 obtain⟨a,cap,rfl,hl,hm, -⟩:=id h
 obtain⟨n,hn⟩:∃n:Nat,n=ks.length:=⟨_,rfl⟩
 rw[←hn] at h hl
 have HN:Hid (n=ks.length):=hn
 unfold maxLen at hm
 have HK:Hid (KyR w (.slice a n cap) ks):=h
 rw[←hn]
 clear h hn
 go_enter Tryz.func348,Tryz.ntmps348
 go_wp2_with (refine wpList_box_blk rfl 269 _ rfl [.bool kb,.int .i64 kt] (by rw[←hA];rfl) ?_)
 intro w1 q1 b1 s1
 have HK1:Hid (KyR w1 (.slice a n cap) ks):=HK.out.kept b1
 have c0:w1.cell? ⟨w.heap.size,0,none⟩=some (.bool kb):=q1.cell 0
 have c1:w1.cell? ⟨w.heap.size,1,none⟩=some (.int .i64 kt):=q1.cell 1
 have HC0:Hid _:=c0
 have HC1:Hid _:=c1
 have HB:Hid (Below w.heap.size w w1):=b1
 clear s1 hA b1 q1 HK c0 c1
 go_wp2
 go_loopw [8] (fun iv wx=>∃i:Nat,i≤n∧iv=.int .i64 (i:Int)∧Hid (∀j,j<i→((ks.getD j (false,0))==(kb,kt))=false)∧Below w1.heap.size w1 wx) (fun iv _=>n - (intOf iv).toNat)
 case atStart=>exact⟨0,by omega,rfl,(by show ∀k,_;intro k hk;omega),Below.refl _ _⟩
 case round=>
  obtain⟨i,hi,rfl,HI,hbx⟩:=hrel
  by_cases hlt:i<n
  ·have hd:decide ((i:Int)<(n:Int))=true:=decide_eq_true (by omega)
   have hiI:(i:Int)<(n:Int):=by omega
   have HIn:Hid (i<ks.length):=by show _<_;rw[←HN.out];exact hlt
   obtain⟨b,off,rfl,g1,g2⟩:=HK1.out.at HIn.out
   replace g1:=cellKP g1 hbx
   replace g2:=cellKP g2 hbx
   obtain⟨x,hx⟩:∃x:Say,x=ks.getD i (false,0):=⟨_,rfl⟩
   rw[←hx] at g1 g2
   have HX:Hid (x=ks.getD i (false,0)):=hx
   obtain⟨xb,xt⟩:=x
   have c0:=cellKP HC0.out hbx
   have c1:=cellKP HC1.out hbx
   clear hx
   by_cases hb:kb=xb
   ·by_cases ht:kt=xt
    ·have HF:Hid ((ks.any fun q=>q==(kb,kt))=true):=idx_hit HIn.out (by rw[←HX.out,beq_say,decide_eq_true hb.symm,decide_eq_true ht.symm];rfl)
     have hbd:=hbx.drew
     go_wp2
     go_region
     go_wp2
     go_ret
     exact⟨⟨_,rfl,by rw[HF.out];exact decide_eq_true (by omega)⟩,stepB HB.out hbd⟩
    ·have HI2:Hid (∀j,j<i+1→((ks.getD j (false,0))==(kb,kt))=false):=by
      show ∀j,_
      intro j hj
      rcases Nat.lt_or_ge j i with h|h
      ·exact HI.out j h
      ·rw[show j=i by omega,←HX.out,beq_say,decide_eq_false (show ¬xt=kt from fun e=>ht e.symm)]
       simp
     have hbd:=hbx.drew
     subst hb
     go_wp2
     go_region
     go_wp2
     go_roundw
     case rel=>exact⟨i+1,by omega,by go_num,HI2,hbd⟩
     case measure=>simp[intOf]<;>omega
   ·have HI2:Hid (∀j,j<i+1→((ks.getD j (false,0))==(kb,kt))=false):=by
     show ∀j,_
     intro j hj
     rcases Nat.lt_or_ge j i with h|h
     ·exact HI.out j h
     ·rw[show j=i by omega,←HX.out,beq_say,decide_eq_false (show ¬xb=kb from fun e=>hb e.symm)]
      simp
    have hbd:=hbx.drew
    go_wp2
    go_region
    go_wp2
    go_roundw
    case rel=>exact⟨i+1,by omega,by go_num,HI2,hbd⟩
    case measure=>simp[intOf]<;>omega
  ·have hd:decide ((i:Int)<(n:Int))=false:=decide_eq_false (by omega)
   have hiI:(n:Int)≤(i:Int):=by omega
   have HO:Hid ((ks.any fun q=>q==(kb,kt))=false):=idx_miss fun k hk=>HI.out k (by rw[←HN.out] at hk;omega)
   go_wp2
   go_ret
   exact⟨⟨_,rfl,by rw[HO.out];rfl⟩,stepB HB.out hbx⟩

set_option maxRecDepth 100000 in
set_option maxHeartbeats 4000000 in
theorem keyIn_any (k:Say) (ks:List Say) (v:Value) (A:Array Value) (hA:A=#[.bool k.1,.int .i64 k.2]) (w:World) (h:KyR w v ks):
  Calls Tryz.prog 300 #[v,.agg A] w fun e w'=>e=.returned (.bool (ks.any fun q=>q==k))∧Below w.heap.size w w':=by
 have HK:Hid (KyR w v ks):=h
 clear h
 go_enter Tryz.func300,Tryz.ntmps300
 go_wp2_with (refine wpList_box_blk rfl 269 _ rfl [.bool k.1,.int .i64 k.2] (by rw[←hA];rfl) ?_)
 intro w1 q1 b1 s1
 clear s1 hA
 go_wp2_with (refine wpList_load_part rfl 269 _ rfl rfl [] [.bool k.1,.int .i64 k.2] [] q1 rfl rfl Tryz.underlying269 rfl infoKey2 ?_)
 refine(keyIdx_any k ks v _ rfl _ (HK.out.kept b1)).mono ?_
 rintro e w2 ⟨⟨r,rfl,hr⟩,b2⟩
 have HR:Hid (decide (0≤r)=ks.any fun q=>q==k):=hr
 clear hr
 go_wp2
 go_ret
 exact⟨by rw[←HR.out];rfl,stepB b1 b2⟩

theorem enters15 {f:FuncId} {fn:Func} {c:Code} (hf:Tryz.prog.funcs[f]?=some fn) (hn:(fn.name== "runtime.NumGoroutine")=false) (hb:fn.body=some c) (args:Array Value) (w:World):(callFunc f args).run Tryz.prog w=.ok (.enter f args) w:=enters_of hf hn hb args w

set_option maxRecDepth 100000 in
set_option maxHeartbeats 4000000 in
theorem keyFn_any (K:FuncId) (ra la:Array Value) (f:Say→Bool) (ks:List Say) (v:Value) (w:World) (h:KyR w v ks) (hE:∀(args:Array Value) (w:World),(callFunc K args).run Tryz.prog w=.ok (.enter K args) w)
  (hK:∀k∈ks,∀W,Below w.heap.size w W→Calls Tryz.prog K (ra++#[.agg #[.bool k.1,.int .i64 k.2]]++la) W fun e w'=>e=.returned (.bool (f k))∧Below W.heap.size W w'):
  Calls Tryz.prog 302 #[v,.func (.func K) ra la] w fun e w'=>(∃r:Int,e=.returned (.int .i64 r)∧decide (0≤r)=ks.any f)∧Below w.heap.size w w':=by
 have HF:Hid _:=hK
 obtain⟨a,cap,rfl,hl,hm, -⟩:=id h
 obtain⟨n,hn⟩:∃n:Nat,n=ks.length:=⟨_,rfl⟩
 rw[←hn] at h hl
 have HN:Hid (n=ks.length):=hn
 unfold maxLen at hm
 have HK1:Hid (KyR w (.slice a n cap) ks):=h
 rw[←hn]
 clear h hn hK
 go_enter Tryz.func302,Tryz.ntmps302
 go_wp2
 go_loopw [8] (fun iv wx=>∃i:Nat,i≤n∧iv=.int .i64 (i:Int)∧Hid (∀j,j<i→f (ks.getD j (false,0))=false)∧Below w.heap.size w wx) (fun iv _=>n - (intOf iv).toNat)
 case atStart=>exact⟨0,by omega,rfl,(by show ∀k,_;intro k hk;omega),Below.refl _ _⟩
 case round=>
  obtain⟨i,hi,rfl,HI,hbx⟩:=hrel
  by_cases hlt:i<n
  ·have hd:decide ((i:Int)<(n:Int))=true:=decide_eq_true (by omega)
   have hiI:(i:Int)<(n:Int):=by omega
   have HIn:Hid (i<ks.length):=by show _<_;rw[←HN.out];exact hlt
   obtain⟨b,off,rfl,g1,g2⟩:=HK1.out.at HIn.out
   replace g1:=cellKP g1 hbx
   replace g2:=cellKP g2 hbx
   have HC:=HF.out (ks.getD i (false,0)) (by have:=HIn.out;simp[this]) _ hbx
   obtain⟨x,hx⟩:∃x:Say,x=ks.getD i (false,0):=⟨_,rfl⟩
   rw[←hx] at g1 g2 HC
   have HX:Hid (x=ks.getD i (false,0)):=hx
   obtain⟨xb,xt⟩:=x
   have HC:Hid (Calls Tryz.prog K (ra++#[.agg #[.bool xb,.int .i64 xt]]++la) wr fun e w'=>e=.returned (.bool (f (xb,xt)))∧Below wr.heap.size wr w'):=HC
   have hrg:=range_two g1 g2
   clear hx g1 g2
   go_wp2_with (refine wpList_load_mid rfl 269 _ rfl b (off+i * 2) rfl [.bool xb,.int .i64 xt] _ hrg Tryz.underlying269 rfl infoKey2 ?_)
   refine HC.out.mono ?_
   rintro e w2 ⟨rfl,b2⟩
   obtain⟨y,hy⟩:∃y:Bool,y=f (xb,xt):=⟨_,rfl⟩
   rw[←hy]
   have HY:Hid (y=f (xb,xt)):=hy
   have hbx2:=stepB hbx b2
   clear hy hrg HC b2
   cases y with
   |true=>
    have HO:Hid (ks.any f=true):=idx_hit HIn.out (by rw[←HX.out];exact HY.out.symm)
    go_wp2
    go_ret
    exact⟨⟨_,rfl,by rw[HO.out];exact decide_eq_true (by omega)⟩,hbx2⟩
   |false=>
    have HI2:Hid (∀j,j<i+1→f (ks.getD j (false,0))=false):=by
     show ∀j,_
     intro j hj
     rcases Nat.lt_or_ge j i with h|h
     ·exact HI.out j h
     ·rw[show j=i by omega,←HX.out];exact HY.out.symm
    go_wp2
    go_roundw
    case rel=>exact⟨i+1,by omega,by go_num,HI2,hbx2⟩
    case measure=>simp[intOf]<;>omega
  ·have hd:decide ((i:Int)<(n:Int))=false:=decide_eq_false (by omega)
   have hiI:(n:Int)≤(i:Int):=by omega
   have HO:Hid (ks.any f=false):=idx_miss fun k hk=>HI.out k (by rw[←HN.out] at hk;omega)
   go_wp2
   go_ret
   exact⟨⟨_,rfl,by rw[HO.out];rfl⟩,hbx⟩

set_option maxHeartbeats 2000000 in
theorem keyAny_any (K:FuncId) (ra la:Array Value) (f:Say→Bool) (ks:List Say) (v:Value) (w:World) (h:KyR w v ks) (hE:∀(args:Array Value) (w:World),(callFunc K args).run Tryz.prog w=.ok (.enter K args) w)
  (hK:∀k∈ks,∀W,Below w.heap.size w W→Calls Tryz.prog K (ra++#[.agg #[.bool k.1,.int .i64 k.2]]++la) W fun e w'=>e=.returned (.bool (f k))∧Below W.heap.size W w'):
  Calls Tryz.prog 228 #[v,.func (.func K) ra la] w fun e w'=>e=.returned (.bool (ks.any f))∧Below w.heap.size w w':=by
 have HF:Hid (Calls Tryz.prog 302 #[v,.func (.func K) ra la] w fun e w'=>(∃r:Int,e=.returned (.int .i64 r)∧decide (0≤r)=ks.any f)∧Below w.heap.size w w'):=keyFn_any K ra la f ks v w h hE hK
 clear hK h hE
 go_enter Tryz.func228,Tryz.ntmps228
 go_wp2_with fail
 refine HF.out.mono ?_
 rintro e w2 ⟨⟨r,rfl,hr⟩,b2⟩
 have HR:Hid (decide (0≤r)=ks.any f):=hr
 clear hr
 go_wp2
 go_ret
 exact⟨by rw[←HR.out];rfl,b2⟩

set_option maxRecDepth 100000 in
set_option maxHeartbeats 4000000 in
theorem sayFn_any (K:FuncId) (ra la:Array Value) (f:Say→Bool) (ks:List Say) (v:Value) (w:World) (h:KyR w v ks) (hE:∀(args:Array Value) (w:World),(callFunc K args).run Tryz.prog w=.ok (.enter K args) w)
  (hK:∀k∈ks,∀W,Below w.heap.size w W→Calls Tryz.prog K (ra++#[.agg #[.bool k.1,.int .i64 k.2]]++la) W fun e w'=>e=.returned (.bool (f k))∧Below W.heap.size W w'):
  Calls Tryz.prog 301 #[v,.func (.func K) ra la] w fun e w'=>(∃r:Int,e=.returned (.int .i64 r)∧decide (0≤r)=ks.any f)∧Below w.heap.size w w':=by
 have HF:Hid _:=hK
 obtain⟨a,cap,rfl,hl,hm, -⟩:=id h
 obtain⟨n,hn⟩:∃n:Nat,n=ks.length:=⟨_,rfl⟩
 rw[←hn] at h hl
 have HN:Hid (n=ks.length):=hn
 unfold maxLen at hm
 have HK1:Hid (KyR w (.slice a n cap) ks):=h
 rw[←hn]
 clear h hn hK
 go_enter Tryz.func301,Tryz.ntmps301
 go_wp2
 go_loopw [8] (fun iv wx=>∃i:Nat,i≤n∧iv=.int .i64 (i:Int)∧Hid (∀j,j<i→f (ks.getD j (false,0))=false)∧Below w.heap.size w wx) (fun iv _=>n - (intOf iv).toNat)
 case atStart=>exact⟨0,by omega,rfl,(by show ∀k,_;intro k hk;omega),Below.refl _ _⟩
 case round=>
  obtain⟨i,hi,rfl,HI,hbx⟩:=hrel
  by_cases hlt:i<n
  ·have hd:decide ((i:Int)<(n:Int))=true:=decide_eq_true (by omega)
   have hiI:(i:Int)<(n:Int):=by omega
   have HIn:Hid (i<ks.length):=by show _<_;rw[←HN.out];exact hlt
   obtain⟨b,off,rfl,g1,g2⟩:=HK1.out.at HIn.out
   replace g1:=cellKP g1 hbx
   replace g2:=cellKP g2 hbx
   have HC:=HF.out (ks.getD i (false,0)) (by have:=HIn.out;simp[this]) _ hbx
   obtain⟨x,hx⟩:∃x:Say,x=ks.getD i (false,0):=⟨_,rfl⟩
   rw[←hx] at g1 g2 HC
   have HX:Hid (x=ks.getD i (false,0)):=hx
   obtain⟨xb,xt⟩:=x
   have HC:Hid (Calls Tryz.prog K (ra++#[.agg #[.bool xb,.int .i64 xt]]++la) wr fun e w'=>e=.returned (.bool (f (xb,xt)))∧Below wr.heap.size wr w'):=HC
   have hrg:=range_two g1 g2
   clear hx g1 g2
   go_wp2_with (refine wpList_load_mid rfl 192 _ rfl b (off+i * 2) rfl [.bool xb,.int .i64 xt] _ hrg Tryz.underlying192 rfl infoSay2 ?_)
   refine HC.out.mono ?_
   rintro e w2 ⟨rfl,b2⟩
   obtain⟨y,hy⟩:∃y:Bool,y=f (xb,xt):=⟨_,rfl⟩
   rw[←hy]
   have HY:Hid (y=f (xb,xt)):=hy
   have hbx2:=stepB hbx b2
   clear hy hrg HC b2
   cases y with
   |true=>
    have HO:Hid (ks.any f=true):=idx_hit HIn.out (by rw[←HX.out];exact HY.out.symm)
    go_wp2
    go_ret
    exact⟨⟨_,rfl,by rw[HO.out];exact decide_eq_true (by omega)⟩,hbx2⟩
   |false=>
    have HI2:Hid (∀j,j<i+1→f (ks.getD j (false,0))=false):=by
     show ∀j,_
     intro j hj
     rcases Nat.lt_or_ge j i with h|h
     ·exact HI.out j h
     ·rw[show j=i by omega,←HX.out];exact HY.out.symm
    go_wp2
    go_roundw
    case rel=>exact⟨i+1,by omega,by go_num,HI2,hbx2⟩
    case measure=>simp[intOf]<;>omega
  ·have hd:decide ((i:Int)<(n:Int))=false:=decide_eq_false (by omega)
   have hiI:(n:Int)≤(i:Int):=by omega
   have HO:Hid (ks.any f=false):=idx_miss fun k hk=>HI.out k (by rw[←HN.out] at hk;omega)
   go_wp2
   go_ret
   exact⟨⟨_,rfl,by rw[HO.out];rfl⟩,hbx⟩

set_option maxHeartbeats 2000000 in
theorem sayAny_any (K:FuncId) (ra la:Array Value) (f:Say→Bool) (ks:List Say) (v:Value) (w:World) (h:KyR w v ks) (hE:∀(args:Array Value) (w:World),(callFunc K args).run Tryz.prog w=.ok (.enter K args) w)
  (hK:∀k∈ks,∀W,Below w.heap.size w W→Calls Tryz.prog K (ra++#[.agg #[.bool k.1,.int .i64 k.2]]++la) W fun e w'=>e=.returned (.bool (f k))∧Below W.heap.size W w'):
  Calls Tryz.prog 225 #[v,.func (.func K) ra la] w fun e w'=>e=.returned (.bool (ks.any f))∧Below w.heap.size w w':=by
 have HF:Hid (Calls Tryz.prog 301 #[v,.func (.func K) ra la] w fun e w'=>(∃r:Int,e=.returned (.int .i64 r)∧decide (0≤r)=ks.any f)∧Below w.heap.size w w'):=sayFn_any K ra la f ks v w h hE hK
 clear hK h hE
 go_enter Tryz.func225,Tryz.ntmps225
 go_wp2_with fail
 refine HF.out.mono ?_
 rintro e w2 ⟨⟨r,rfl,hr⟩,b2⟩
 have HR:Hid (decide (0≤r)=ks.any f):=hr
 clear hr
 go_wp2
 go_ret
 exact⟨by rw[←HR.out];rfl,b2⟩
end Go.Proofs.YtpgjobpmafbigaaGreatDoor

namespace Go.Proofs.YtpgjobpmafbigaaGreatDoor
set_option linter.unusedSimpArgs false
set_option linter.unusedVariables false
open Go.RowKit

section
variable {P : Program} {ops : Array Oper} {Q : Exit → Act → World → Prop} {md : Region.Mode} {S : World → Prop} {n : Nat}

end
end Go.Proofs.YtpgjobpmafbigaaGreatDoor

namespace Go.Proofs.YtpgjobpmafbigaaGreatDoor
open Go.ChangeShapes Go.WideShapes Go.ChangeAt Go.RowKit
set_option linter.unusedSimpArgs false
set_option linter.unusedVariables false

structure CoR (w:World) (g:Nat) (ks ss:List Say):Prop where
 ex:∃vk vs,BlkAt g 265 [vk,vs] w∧KyR w vk ks∧KyR w vs ss
theorem CoR.kept {w w':World} {g:Nat} {ks ss:List Say} (h:CoR w g ks ss) (hb:Below w.heap.size w w'):CoR w' g ks ss:=by
 obtain⟨vk,vs,h1,h2,h3⟩:=h.ex
 exact⟨vk,vs,h1.kept hb,h2.kept hb,h3.kept hb⟩

set_option maxRecDepth 100000 in
set_option maxHeartbeats 4000000 in
theorem lacks_any (k:Say) (g:Nat) (ks ss:List Say) (A:Array Value) (hA:A=#[.bool k.1,.int .i64 k.2]) (w:World) (h:CoR w g ks ss):
  Calls Tryz.prog 223 #[.pointer (some ⟨g,0,none⟩),.agg A] w fun e w'=>e=.returned (.bool (lkB ks k))∧Below w.heap.size w w':=by
 obtain⟨kb,kt⟩:=k
 obtain⟨vk,vs,hb,hk, -⟩:=h.ex
 clear h
 go_enter Tryz.func223,Tryz.ntmps223
 go_wp2_with (refine wpList_box_blk rfl 269 _ rfl [.bool kb,.int .i64 kt] (by rw[←hA];rfl) ?_)
 intro w1 q1 b1 s1
 replace hb:=hb.kept b1
 replace hk:=hk.kept b1
 obtain⟨a,cap,rfl, -, -, -⟩:=id hk
 have d0:w1.cell? ⟨g,0,none⟩=some (.slice a ks.length cap):=hb.cell 0
 have c0:w1.cell? ⟨w.heap.size,0,none⟩=some (.bool kb):=q1.cell 0
 have c1:w1.cell? ⟨w.heap.size,1,none⟩=some (.int .i64 kt):=q1.cell 1
 have HK:Hid (KyR w1 (.slice a ks.length cap) ks):=hk
 have HB1:Hid (Below w.heap.size w w1.drew):=b1.drew
 clear s1 hA hb hk q1 b1
 go_wp2_with fail
 refine wpG_begin (by kernel_rfl) ?_
 refine gU_ 0 rfl ⟨_,by intro W hW;go_simp<;>with_reducible rfl,?_⟩
 try simp only[Act.put,pA_,pB_,pC_]
 refine gU_ 1 rfl ⟨_,by intro W hW;go_simp<;>with_reducible rfl,?_⟩
 try simp only[Act.put,pA_,pB_,pC_]
 refine gU_ 2 rfl ⟨_,by intro W hW;go_simp<;>with_reducible rfl,?_⟩
 try simp only[Act.put,pA_,pB_,pC_]
 refine gU_ 3 rfl ⟨_,by intro W hW;have hcW:=cellDK15 d0 hW;go_simp<;>with_reducible rfl,?_⟩
 try simp only[Act.put,pA_,pB_,pC_]
 refine gU_ 4 rfl ⟨_,by intro W hW;have h0:=cellDK15 c0 hW;have h1:=cellDK15 c1 hW;go_simp<;>with_reducible rfl,?_⟩
 try simp only[Act.put,pA_,pB_,pC_]
 refine gD_ 5 fun K hK=>?_
 go_simp
 refine(keyIn_any (kb,kt) ks _ _ rfl _ (HK.out.kept (Below.refl _ _).drew)).mono ?_
 rintro e w2 ⟨rfl,b2⟩
 refine hK.out _ _ b2 ?_
 clear hK K
 try simp only[Act.put,pA_,pB_,pC_]
 refine gU_ 6 rfl ⟨_,by intro W hW;go_simp<;>with_reducible rfl,?_⟩
 try simp only[Act.put,pA_,pB_,pC_]
 refine gU_ 7 rfl ⟨_,by intro W hW;go_simp<;>with_reducible rfl,?_⟩
 try simp only[Act.put,pA_,pB_,pC_]
 refine wpG_done (by kernel_rfl) ?_
 have HB2:Hid (Below w.heap.size w w2):=stepB HB1.out b2
 go_wp2
 go_ret
 exact⟨rfl,HB2.out⟩

theorem argsR (x y:Value):#[x]++#[y]++(#[]:Array Value)=#[x,y]:=rfl
set_option maxRecDepth 100000 in
set_option maxHeartbeats 8000000 in
theorem takes_any (s:Say) (g:Nat) (ks ss:List Say) (A:Array Value) (hA:A=#[.bool s.1,.int .i64 s.2]) (w:World) (h:CoR w g ks ss):
  Calls Tryz.prog 146 #[.pointer (some ⟨g,0,none⟩),.agg A] w fun e w'=>e=.returned (.bool (tkS (ks,ss) s))∧Below w.heap.size w w':=by
 obtain⟨b,t⟩:=s
 have HC:Hid (CoR w g ks ss):=h
 obtain⟨R,hR⟩:∃r:Bool,r=tkS (ks,ss) (b,t):=⟨_,rfl⟩
 have HR:Hid (R=tkS (ks,ss) (b,t)):=hR
 rw[←hR]
 clear h hR
 go_enter Tryz.func146,Tryz.ntmps146
 go_wp2_with (refine wpList_box_blk rfl 192 _ rfl [.bool b,.int .i64 t] (by rw[←hA];rfl) ?_)
 intro w1 q1 b1 s1
 have HC1:Hid (CoR w1 g ks ss):=HC.out.kept b1
 clear s1 hA HC
 go_wp2_with (refine wpList_load_part rfl 192 _ rfl rfl [] [.bool b,.int .i64 t] [] q1 rfl rfl Tryz.underlying192 rfl infoSay2 ?_)
 refine(isSecret_any b t _ rfl _).mono ?_
 rintro e w2 ⟨rfl,b2⟩
 replace q1:=q1.kept b2
 replace b1:=stepB b1 b2
 have HC2:Hid (CoR w2 g ks ss):=HC1.out.kept b2
 obtain⟨z,hz⟩:∃z:Bool,z=scB t:=⟨_,rfl⟩
 rw[←hz]
 have HZ:Hid (z=scB t):=hz
 clear hz HC1 b2
 cases z with
 |false=>
  have HR2:Hid (R=lkB ks (b,t)):=by show _=_;rw[HR.out];unfold tkS;rw[if_pos HZ.out.symm]
  go_wp2_with (refine wpList_load_part rfl 192 _ rfl rfl [] [.bool b,.int .i64 t] [] q1 rfl rfl Tryz.underlying192 rfl infoSay2 ?_)
  refine(key_any b t _ rfl _).mono ?_
  rintro e w3 ⟨rfl,b3⟩
  replace b1:=stepB b1 b3
  have HC3:Hid (CoR w3 g ks ss):=HC2.out.kept b3
  go_wp2_with fail
  refine(lacks_any (b,t) g ks ss _ rfl _ HC3.out).mono ?_
  rintro e w4 ⟨rfl,b4⟩
  rw[←HR2.out]
  replace b1:=stepB b1 b4
  go_wp2
  go_ret
  exact⟨rfl,b1⟩
 |true=>
  obtain⟨vk,vs,hb, -,hs⟩:=HC2.out.ex
  obtain⟨a,cap,rfl, -, -, -⟩:=id hs
  have d1:w2.cell? ⟨g,1,none⟩=some (.slice a ss.length cap):=hb.cell 1
  have c0:w2.cell? ⟨w.heap.size,0,none⟩=some (.bool b):=q1.cell 0
  have c1:w2.cell? ⟨w.heap.size,1,none⟩=some (.int .i64 t):=q1.cell 1
  have HS:Hid (KyR w2 (.slice a ss.length cap) ss):=hs
  have HB1:Hid (Below w.heap.size w w2.drew):=b1.drew
  have HQ:Hid (BlkAt w.heap.size 192 [.bool b,.int .i64 t] w2):=q1
  clear hb hs q1 b1
  go_wp2_with fail
  refine wpG_begin (by kernel_rfl) ?_
  refine gU_ 0 rfl ⟨_,by intro W hW;go_simp<;>with_reducible rfl,?_⟩
  try simp only[Act.put,pA_,pB_,pC_]
  refine gU_ 1 rfl ⟨_,by intro W hW;go_simp<;>with_reducible rfl,?_⟩
  try simp only[Act.put,pA_,pB_,pC_]
  refine gU_ 2 rfl ⟨_,by intro W hW;go_simp<;>with_reducible rfl,?_⟩
  try simp only[Act.put,pA_,pB_,pC_]
  refine gU_ 3 rfl ⟨_,by intro W hW;have hcW:=cellDK15 d1 hW;go_simp<;>with_reducible rfl,?_⟩
  try simp only[Act.put,pA_,pB_,pC_]
  refine gU_ 4 rfl ⟨_,by intro W hW;have h0:=cellDK15 c0 hW;have h1:=cellDK15 c1 hW;go_simp<;>with_reducible rfl,?_⟩
  try simp only[Act.put,pA_,pB_,pC_]
  refine gD_ 5 fun K hK=>?_
  go_simp
  refine hK.out _ _ (Below.refl _ _) ?_
  clear hK K
  try simp only[Act.put,pA_,pB_,pC_]
  refine gD_ 6 fun K hK=>?_
  go_simp
  refine(sayAny_any 226 #[.agg #[.bool b,.int .i64 t]] #[] (rpB (b,t)) ss _ _ (HS.out.kept (Below.refl _ _).drew) (fun args w=>enters15 Tryz.func226 (by kernel_rfl) rfl args w) (fun k _ W _=>by rw[argsR];exact repeats_any b k.1 t k.2 _ _ rfl rfl W)).mono ?_
  rintro e w3 ⟨rfl,b3⟩
  refine hK.out _ _ b3 ?_
  clear hK K
  try simp only[Act.put,pA_,pB_,pC_]
  refine wpG_done (by kernel_rfl) ?_
  have HB2:Hid (Below w.heap.size w w3):=stepB HB1.out b3
  have HC3:Hid (CoR w3 g ks ss):=(HC2.out.kept (Below.refl _ _).drew).kept b3
  have q1:BlkAt w.heap.size 192 [.bool b,.int .i64 t] w3:=HQ.out.drew.kept b3
  clear b3 HC2 HB1 HQ HS c0 c1 d1
  obtain⟨y,hy⟩:∃y:Bool,y=ss.any (rpB (b,t)):=⟨_,rfl⟩
  rw[←hy]
  have HY:Hid (y=ss.any (rpB (b,t))):=hy
  clear hy
  have hnz:¬scB t=false:=by rw[←HZ.out];simp
  cases y with
  |true=>
   have HR2:Hid (R=false):=by show _=_;rw[HR.out];unfold tkS;rw[if_neg hnz,if_pos HY.out.symm]
   clear hnz
   go_wp2
   go_ret
   exact⟨by rw[HR2.out];rfl,HB2.out⟩
  |false=>
   have HR2:Hid (R=if pkB15 t then !lkB ks (b,1)|| !lkB ks (b,8) else !(scK t (!b)).any (lkB ks)):=by
    show _=_
    rw[HR.out]
    unfold tkS
    rw[if_neg hnz,if_neg (by rw[←HY.out];simp)]
   clear hnz
   go_wp2_with (refine wpList_load_part rfl 192 _ rfl rfl [] [.bool b,.int .i64 t] [] q1 rfl rfl Tryz.underlying192 rfl infoSay2 ?_)
   refine(ofBoth_any b t _ rfl _).mono ?_
   rintro e w4 ⟨rfl,b4⟩
   replace q1:=q1.kept b4
   have HB3:Hid (Below w.heap.size w w4):=stepB HB2.out b4
   have HC4:Hid (CoR w4 g ks ss):=HC3.out.kept b4
   clear b4 HC3 HB2
   obtain⟨x,hx⟩:∃x:Bool,x=pkB15 t:=⟨_,rfl⟩
   rw[←hx]
   rw[←hx] at HR2
   clear hx
   cases x with
   |true=>
    have HR3:Hid (R=(!lkB ks (b,1)|| !lkB ks (b,8))):=by show _=_;rw[HR2.out];rfl
    have c0:w4.cell? ⟨w.heap.size,0,none⟩=some (.bool b):=q1.cell 0
    go_wp2_with fail
    refine(lacks_any (b,1) g ks ss _ rfl _ HC4.out).mono ?_
    rintro e w5 ⟨rfl,b5⟩
    replace q1:=q1.kept b5
    have HB4:Hid (Below w.heap.size w w5):=stepB HB3.out b5
    have HC5:Hid (CoR w5 g ks ss):=HC4.out.kept b5
    clear b5 c0
    have c0:w5.cell? ⟨w.heap.size,0,none⟩=some (.bool b):=q1.cell 0
    obtain⟨m,hm⟩:∃m:Bool,m=lkB ks (b,1):=⟨_,rfl⟩
    rw[←hm]
    rw[←hm] at HR3
    clear hm
    cases m with
    |false=>
     go_wp2
     go_ret
     exact⟨by rw[HR3.out];rfl,HB4.out⟩
    |true=>
     go_wp2_with fail
     refine(lacks_any (b,8) g ks ss _ rfl _ HC5.out).mono ?_
     rintro e w6 ⟨rfl,b6⟩
     have HB5:Hid (Below w.heap.size w w6):=stepB HB4.out b6
     go_wp2
     go_ret
     exact⟨by rw[HR3.out];rfl,HB5.out⟩
   |false=>
    have HR3:Hid (R= !(scK t (!b)).any (lkB ks)):=by show _=_;rw[HR2.out];rfl
    go_wp2_with (refine wpList_load_part rfl 192 _ rfl rfl [] [.bool b,.int .i64 t] [] q1 rfl rfl Tryz.underlying192 rfl infoSay2 ?_)
    refine(guards_any b t _ rfl _).mono ?_
    rintro e w5 ⟨vg,rfl,hO⟩
    have HG:Hid (KyR w5 vg (scK t (!b))):=hO.ky rfl
    have HB4:Hid (Below w.heap.size w w5):=stepB HB3.out hO.below
    have HC5:Hid (CoR w5 g ks ss):=HC4.out.kept hO.below
    clear hO q1
    go_wp2_with fail
    refine(keyAny_any 223 #[.pointer (some ⟨g,0,none⟩)] #[] (lkB ks) (scK t (!b)) vg _ HG.out (fun args w=>enters15 Tryz.func223 (by kernel_rfl) rfl args w) (fun k _ W hW=>by rw[argsR];exact lacks_any k g ks ss _ rfl W (HC5.out.kept hW))).mono ?_
    rintro e w6 ⟨rfl,b6⟩
    have HB5:Hid (Below w.heap.size w w6):=stepB HB4.out b6
    go_wp2
    go_ret
    exact⟨by rw[HR3.out];rfl,HB5.out⟩
structure RsT (rest:List Rw) (vs:List Value) (q:Ptn):Prop where
 len:vs.length=q.n
 toks:∀k (h:k<vs.length),(⟨3,1,vs[k],(q.tk k).length,(q.tk k).map (Value.int .i64)⟩:Rw)∈rest
 kinds:∀r∈rest,r.ty=3

theorem RsT.next {rest:List Rw} {vs:List Value} {p:Ptn} (h:RsT rest vs p) (b:Bool) (t:List Int) (v:Value):RsT (⟨3,1,v,t.length,t.map (Value.int .i64)⟩ :: rest) (vs++[v]) ⟨p.name,p.ki,p.kr,p.ms++[(b,t)]⟩:=by
 have hl:vs.length=p.ms.length:=h.len
 refine⟨by simp[Ptn.n,hl],fun k hk=>?_,fun q hq=>?_⟩
 ·by_cases hk2:k<vs.length
  ·have e1:(vs++[v])[k]=vs[k]:=List.getElem_append_left hk2
   have e2:Ptn.tk ⟨p.name,p.ki,p.kr,p.ms++[(b,t)]⟩ k=p.tk k:=by
    unfold Ptn.tk
    have:k<p.ms.length:=by omega
    simp[List.getD,List.getElem?_append_left this]
   rw[e1,e2]
   exact List.mem_cons_of_mem _ (h.toks k hk2)
  ·have hke:k=vs.length:=by simp at hk;omega
   subst hke
   have e1:(vs++[v])[vs.length]=v:=by simp
   have e2:Ptn.tk ⟨p.name,p.ki,p.kr,p.ms++[(b,t)]⟩ vs.length=t:=by
    unfold Ptn.tk
    rw[hl]
    simp[List.getD]
   rw[e1,e2]
   exact List.mem_cons_self ..
 ·rcases List.mem_cons.1 hq with rfl|hq
  ·rfl
  ·exact h.kinds q hq

theorem rows_far {L:List Rw} {w w':World} {g:Nat} {ty:TypeId} {cs:List Value} (hO:OwnG w L w') (hb:BlkAt g ty cs w') (hk:∀q∈L,q.ty≠ty):∀q∈L,∀b,q.v.ownBlock=some b→b≠g:=
 fun q hq b hqb e=>row_not_blk (hO.rows q hq) hb (hk q hq) (by rw[hqb,e])

structure Mw (g b o go:Nat) (vm:Value) (q:Bool) (vi:Value) (W:World):Prop where
 box:W.cell? ⟨g,3,none⟩=some vm
 msg:W.cell? ⟨b,o,none⟩=some (.bool q)
 out:W.cell? ⟨go,3,none⟩=some vi

theorem cell_chg {S:Nat→Prop} {W W':World} (c:Chg S W W') {p:Addr} {v:Value} (h:W.cell? p=some v) (hS:¬S p.block):W'.cell? p=some v:=by
 have h1:=c.block p.block (World.block_lt_of_cell? _ _ h) hS
 unfold World.cell? at h ⊢
 rw[h1]
 exact h

theorem Mw.kept {g b o go:Nat} {vm:Value} {q:Bool} {vi:Value} {W W':World} (h:Mw g b o go vm q vi W) (hb:Below W.heap.size W W'):Mw g b o go vm q vi W':=
 ⟨by rw[hb.cell (World.block_lt_of_cell? _ _ h.box)];exact h.box,by rw[hb.cell (World.block_lt_of_cell? _ _ h.msg)];exact h.msg,by rw[hb.cell (World.block_lt_of_cell? _ _ h.out)];exact h.out⟩

theorem Mw.chg {S:Nat→Prop} {g b o go:Nat} {vm:Value} {q:Bool} {vi:Value} {W W':World} (h:Mw g b o go vm q vi W) (c:Chg S W W') (h1:¬S g) (h2:¬S b) (h3:¬S go):Mw g b o go vm q vi W':=
 ⟨cell_chg c h.box h1,cell_chg c h.msg h2,cell_chg c h.out h3⟩

end Go.Proofs.YtpgjobpmafbigaaGreatDoor

namespace Go.Proofs.YtpgjobpmafbigaaGreatDoor
set_option linter.unusedSimpArgs false
set_option linter.unusedVariables false
open Go.RowKit

section
variable {P : Program} {ops : Array Oper} {Q : Exit → Act → World → Prop} {md : Region.Mode} {S : World → Prop} {n : Nat}

theorem wpS_skip {i:Nat} {oi:Oper} {fuel:Nat} {listed:Array Bool} {a:Act} {w:World} (hS:S w) (hi:ops[i]?=some oi)
  (hs:Region.noSelect ops=true) (hf:Region.free md ops listed i=true) (hr:(Region.ready md ops listed).contains i=true)
  (hw:Region.wanted oi (yielded ops a.tmps)=false)
  (h:wpAnyH P md ops (NoPanic Q) S fuel (listed.setIfInBounds i true) (a.put oi.dst undef) w):wpAnyH P md ops (NoPanic Q) S (fuel+1) listed a w:=
 wpAnyH_take hi hs hf hr (fun _ _ _ h=>h) (.inr ⟨hw,rfl⟩) hS h
theorem wpV_begin (n:Nat) (S:World→Prop) {id:Nat} {a:Act} {w:World} (hm:P.follows .mixedOrders=true)
  (h:wpAnyF P .any ops (NoPanic Q) S n ops.size (Array.replicate ops.size false) a w.drew):(Code.region id ops true).wp P Q a w:=
 wp_region_noPanic (wp_region_any hm (wpAny_of_F _ _ _ _ h))
theorem wpV_take {i:Nat} {oi:Oper} {v:Value} {fuel:Nat} {listed:Array Bool} {a:Act} {w:World} (hS:S w) (hi:ops[i]?=some oi) (hin:i≠n) (hl:waitsB md ops n i=true) (hnl:listed.getD n true=false)
  (hs:Region.noSelect ops=true) (hf:Region.free md ops listed i=true) (hr:(Region.ready md ops listed).contains i=true)
  (hw:Region.wanted oi (yielded ops a.tmps)=true) (hy:∀W,S W→(execOp a.eval oi).run P W=.ok (.value v) W)
  (h:wpAnyF P md ops (NoPanic Q) S n fuel (listed.setIfInBounds i true) (a.put oi.dst v) w):wpAnyF P md ops (NoPanic Q) S n (fuel+1) listed a w:=
 wpAnyF_first hi hin hl (Region.noSelect_spec hs) (fun _ _ _ h=>h) fuel listed a w (Region.free_spec hi hf) (by simpa using hr) (.inl ⟨hw,hy⟩) hS hnl h
theorem wpV_pure {i:Nat} {oi:Oper} {v:Value} {fuel:Nat} {listed:Array Bool} {a:Act} {w:World} (hS:listed.getD n true=true∨S w) (hi:ops[i]?=some oi) (hin:i≠n)
  (hs:Region.noSelect ops=true) (hf:Region.free md ops listed i=true) (hr:(Region.ready md ops listed).contains i=true)
  (hw:Region.wanted oi (yielded ops a.tmps)=true) (hy:∀W,(execOp a.eval oi).run P W=.ok (.value v) W)
  (h:wpAnyF P md ops (NoPanic Q) S n fuel (listed.setIfInBounds i true) (a.put oi.dst v) w):wpAnyF P md ops (NoPanic Q) S n (fuel+1) listed a w:=
 wpAnyF_pure hi hin (Region.noSelect_spec hs) (fun _ _ _ h=>h) fuel listed a w (Region.free_spec hi hf) (by simpa using hr) (.inl ⟨hw,fun W _=>hy W⟩) hS h
theorem wpV_do {i:Nat} {o:Oper} {fuel:Nat} {listed:Array Bool} {a:Act} {w:World} (hr:Region.ready md ops listed=[i]) (hi:ops[i]?=some o)
  (hw:Region.wanted o (yielded ops a.tmps)=true)
  (h:∀K:Act→World→Prop,Shut (∀a' w',(i=n∨S w')→wpAnyF P md ops Q S n fuel (listed.setIfInBounds i true) a' w'→K a' w')→o.wp P a w K Q):wpAnyF P md ops Q S n (fuel+1) listed a w:=by
 have hmem:i∈Region.ready md ops listed:=by rw[hr];simp
 refine⟨(fun h0=>by rw[hr] at h0;cases h0),fun j hj=>?_⟩
 rw[hr] at hj
 obtain rfl:j=i:=by simpa using hj
 have h1:=h (fun a' w'=>((listed.setIfInBounds j true).getD n true=true∨S w')∧wpAnyF P md ops Q S n fuel (listed.setIfInBounds j true) a' w')
  (fun a' w' hb hg=>⟨hb.imp (fun e=>by
   subst e
   rcases Nat.lt_or_ge j listed.size with h'|h'
   ·simp[h']
   ·simp[Array.getElem?_eq_none h']) id,hg⟩)
 unfold wpOp
 simp only[hi,hw,if_true]
 exact .inl h1
theorem wpV_done {fuel:Nat} {listed:Array Bool} {a:Act} {w:World} (hr:Region.ready md ops listed=[]) (h:Q .normal a w):wpAnyF P md ops (NoPanic Q) S n fuel listed a w:=by
 cases fuel with
 |zero=>exact⟨hr,h⟩
 |succ fuel=>exact⟨fun _=>h,by rw[hr];intro i hi;cases hi⟩
theorem vU_ {fuel:Nat} {listed:Array Bool} {a:Act} {w:World} (hb:S w) (i:Nat) {oi:Oper} (hi:nthO ops.toList i=some oi)
  (h:∃v,(∀W,S W→(execOp a.eval oi).run P W=.ok (.value v) W)∧wpAnyF P md ops (NoPanic Q) S n fuel (listed.setIfInBounds i true) (a.put oi.dst v) w)
  (hc:takeB md ops listed i=true:=by kernel_rfl) (hw:Region.wanted oi (yielded ops a.tmps)=true:=by rfl) (hin:i≠n:=by decide) (hl:waitsB md ops n i=true:=by kernel_rfl) (hnl:listed.getD n true=false:=by kernel_rfl):wpAnyF P md ops (NoPanic Q) S n (fuel+1) listed a w:=by
 obtain⟨v,hy,h⟩:=h
 exact wpV_take hb (nA hi) hin hl hnl (takeB_1 hc) (takeB_2 hc) (takeB_3 hc) hw hy h
theorem vP_ {fuel:Nat} {listed:Array Bool} {a:Act} {w:World} (hb:listed.getD n true=true∨S w) (i:Nat) {oi:Oper} (hi:nthO ops.toList i=some oi)
  (h:∃v,(∀W,(execOp a.eval oi).run P W=.ok (.value v) W)∧wpAnyF P md ops (NoPanic Q) S n fuel (listed.setIfInBounds i true) (a.put oi.dst v) w)
  (hc:takeB md ops listed i=true:=by kernel_rfl) (hw:Region.wanted oi (yielded ops a.tmps)=true:=by rfl) (hin:i≠n:=by decide):wpAnyF P md ops (NoPanic Q) S n (fuel+1) listed a w:=by
 obtain⟨v,hy,h⟩:=h
 exact wpV_pure hb (nA hi) hin (takeB_1 hc) (takeB_2 hc) (takeB_3 hc) hw hy h
theorem vD_ (i:Nat) {o:Oper} {fuel:Nat} {listed:Array Bool} {a:Act} {w:World}
  (h:∀K:Act→World→Prop,Shut (∀a' w',(i=n∨S w')→wpAnyF P md ops Q S n fuel (listed.setIfInBounds i true) a' w'→K a' w')→o.wp P a w K Q)
  (hr:Region.ready md ops listed=[i]:=by kernel_rfl) (hi:ops[i]?=some o:=by exact nA rfl) (hw:Region.wanted o (yielded ops a.tmps)=true:=by rfl):wpAnyF P md ops Q S n (fuel+1) listed a w:=wpV_do hr hi hw h
end
end Go.Proofs.YtpgjobpmafbigaaGreatDoor

namespace Go.Proofs.YtpgjobpmafbigaaGreatDoor
open Go.ChangeShapes Go.WideShapes Go.ChangeAt Go.RowKit
set_option linter.unusedSimpArgs false
set_option linter.unusedVariables false

structure CoP (w0:World) (g:Nat) (c:List Say×List Say) (L:List Rw) (w:World):Prop where
 ex:∃vk vs,BlkAt g 265 [vk,vs] w∧OwnG w0 (⟨269,2,vk,c.1.length,kyC c.1⟩ :: ⟨192,2,vs,c.2.length,kyC c.2⟩ :: L) w
 ge:w0.heap.size≤g
 far:∀q∈L,q.ty≠265
theorem CoP.kept {w0 w w':World} {g:Nat} {c:List Say×List Say} {L:List Rw} (h:CoP w0 g c L w) (hb:Below w.heap.size w w'):CoP w0 g c L w':=by
 obtain⟨vk,vs,h1,h2⟩:=h.ex
 exact⟨⟨vk,vs,h1.kept hb,h2.kept hb⟩,h.ge,h.far⟩
theorem CoP.cor {w0 w:World} {g:Nat} {c:List Say×List Say} {L:List Rw} (h:CoP w0 g c L w):CoR w g c.1 c.2:=by
 obtain⟨vk,vs,h1,h2⟩:=h.ex
 exact⟨vk,vs,h1,h2.ky rfl,h2.tail.ky rfl⟩
theorem CoP.below {w0 w:World} {g:Nat} {c:List Say×List Say} {L:List Rw} (h:CoP w0 g c L w):Below w0.heap.size w0 w:=by
 obtain⟨vk,vs,h1,h2⟩:=h.ex
 exact h2.below
theorem CoP.from {w0 w1 w:World} {g:Nat} {c:List Say×List Say} {L:List Rw} (h:CoP w1 g c L w) (hb:Below w0.heap.size w0 w1):CoP w0 g c L w:=by
 obtain⟨vk,vs,h1,h2⟩:=h.ex
 exact⟨⟨vk,vs,h1,h2.from hb⟩,Nat.le_trans hb.size h.ge,h.far⟩
structure Cw (g o:Nat) (v:Value) (gs:Nat) (b:Bool) (t:Int) (W:World):Prop where
 out:W.cell? ⟨g,o,none⟩=some v
 say0:W.cell? ⟨gs,0,none⟩=some (.bool b)
 say1:W.cell? ⟨gs,1,none⟩=some (.int .i64 t)
theorem Cw.kept {g o:Nat} {v:Value} {gs:Nat} {b:Bool} {t:Int} {W W':World} (h:Cw g o v gs b t W) (hb:Below W.heap.size W W'):Cw g o v gs b t W':=
 ⟨cellKP h.out hb,cellKP h.say0 hb,cellKP h.say1 hb⟩
theorem Cw.chg {S:Nat→Prop} {g o:Nat} {v:Value} {gs:Nat} {b:Bool} {t:Int} {W W':World} (h:Cw g o v gs b t W) (c:Chg S W W') (h1:¬S g) (h2:¬S gs):Cw g o v gs b t W':=
 ⟨cell_chg c h.out h1,cell_chg c h.say0 h2,cell_chg c h.say1 h2⟩

set_option maxRecDepth 100000 in
set_option maxHeartbeats 8000000 in
theorem add15_any (s:Say) (g:Nat) (c:List Say×List Say) (L:List Rw) (A:Array Value) (hA:A=#[.bool s.1,.int .i64 s.2]) (w0 w:World) (h:CoP w0 g c L w) (hl:c.1.length+c.2.length≤1000):
  Calls Tryz.prog 147 #[.pointer (some ⟨g,0,none⟩),.agg A] w fun e w'=>e=.returned (.tuple #[])∧CoP w0 g (adC c s) L w':=by
 obtain⟨ti,hti,hz0,hz1,hz2⟩:=info_parts infoSay
 obtain⟨tk,htk,hk0,hk1,hk2⟩:=info_parts infoKey
 obtain⟨b,t⟩:=s
 obtain⟨ks,ss⟩:=c
 replace hl:ks.length+ss.length≤1000:=hl
 obtain⟨vk,vs,hb,hO⟩:=h.ex
 have hge:=h.ge
 have hfar:=h.far
 replace hO:OwnG w0 (⟨269,2,vk,ks.length,kyC ks⟩ :: ⟨192,2,vs,ss.length,kyC ss⟩ :: L) w:=hO
 obtain⟨ak,ck,rfl, -, -⟩:=ky_len15 (hO.ky rfl)
 obtain⟨sa,sc,rfl, -, -⟩:=ky_len15 (hO.tail.ky rfl)
 have HSz:Hid (w0.heap.size≤w.heap.size):=hO.below.size
 have HLt:Hid (g<w.heap.size):=hb.lt
 have HFk:Hid (¬some g=(Value.slice ak ks.length ck).ownBlock∧¬some w.heap.size=(Value.slice ak ks.length ck).ownBlock):=⟨fun e=>row_not_blk (hO.rows _ (List.mem_cons_self ..)) hb (show(269:TypeId)≠265 by decide) e.symm,fun e=>by have:=((hO.rows _ (List.mem_cons_self ..)).lt _ e.symm).2;omega⟩
 have HFs:Hid (¬some g=(Value.slice sa ss.length sc).ownBlock∧¬some w.heap.size=(Value.slice sa ss.length sc).ownBlock):=⟨fun e=>row_not_blk (hO.tail.rows _ (List.mem_cons_self ..)) hb (show(192:TypeId)≠265 by decide) e.symm,fun e=>by have:=((hO.tail.rows _ (List.mem_cons_self ..)).lt _ e.symm).2;omega⟩
 have HFar:Hid (∀q∈L,q.ty≠265):=hfar
 have HGe:Hid (w0.heap.size≤g):=hge
 clear h hge hfar
 go_enter Tryz.func147,Tryz.ntmps147
 go_wp2_with (refine wpList_box_blk rfl 192 _ rfl [.bool b,.int .i64 t] (by rw[←hA];rfl) ?_)
 intro w1 q1 b1 s1
 replace hb:=hb.kept b1
 replace hO:=hO.kept b1
 clear s1 hA b1
 go_wp2_with (refine wpList_load_part rfl 192 _ rfl rfl [] [.bool b,.int .i64 t] [] q1 rfl rfl Tryz.underlying192 rfl infoSay2 ?_)
 refine(isSecret_any b t _ rfl _).mono ?_
 rintro e w2 ⟨rfl,b2⟩
 replace q1:=q1.kept b2
 replace hb:=hb.kept b2
 replace hO:=hO.kept b2
 obtain⟨z,hz⟩:∃z:Bool,z=scB t:=⟨_,rfl⟩
 rw[←hz]
 have HZ:Hid (z=scB t):=hz
 clear hz b2
 cases z with
 |true=>
  have HA:Hid (adC (ks,ss) (b,t)=(ks,ss++[(b,t)])):=by show _=_;unfold adC;rw[if_pos HZ.out.symm]
  have hOd:OwnG w0 (⟨192,2,.slice sa ss.length sc,ss.length,kyC ss⟩ :: ⟨269,2,.slice ak ks.length ck,ks.length,kyC ks⟩ :: L) w2.drew:=hO.swap.drew
  have hS:Cw g 1 (.slice sa ss.length sc) w.heap.size b t w2.drew:=⟨hb.cell 1,q1.cell 0,q1.cell 1⟩
  obtain⟨M,hM⟩:∃M:List Say,M=ss++[(b,t)]:=⟨_,rfl⟩
  have HM:Hid (M=ss++[(b,t)]):=hM
  have HLn:Hid (ss.length+1=M.length):=by show _=_;rw[hM];simp
  have HKc:Hid (kyC ss++[.bool b,.int .i64 t]=kyC M):=by show _=_;rw[hM];exact kyC_next ss b t
  rw[←hM] at HA
  have hbd:=hb.drew
  clear hM q1 hb hO
  go_wp2_with fail
  refine wpV_begin 10 (Cw g 1 (.slice sa ss.length sc) w.heap.size b t) (by kernel_rfl) ?_
  refine vP_ (.inr hS) 0 rfl ⟨_,by intro W;go_simp<;>with_reducible rfl,?_⟩
  try simp only[Act.put,pA_,pB_,pC_]
  refine vP_ (.inr hS) 1 rfl ⟨_,by intro W;go_simp<;>with_reducible rfl,?_⟩
  try simp only[Act.put,pA_,pB_,pC_]
  refine vP_ (.inr hS) 2 rfl ⟨_,by intro W;go_simp<;>with_reducible rfl,?_⟩
  try simp only[Act.put,pA_,pB_,pC_]
  refine vP_ (.inr hS) 3 rfl ⟨_,by intro W;go_simp<;>with_reducible rfl,?_⟩
  try simp only[Act.put,pA_,pB_,pC_]
  refine vU_ hS 4 rfl ⟨_,by intro W hW;have cW:=hW.out;go_simp<;>with_reducible rfl,?_⟩
  try simp only[Act.put,pA_,pB_,pC_]
  refine vU_ hS 5 rfl ⟨_,by intro W hW;have cW:=hW.say0;have cX:=hW.say1;go_simp<;>with_reducible rfl,?_⟩
  try simp only[Act.put,pA_,pB_,pC_]
  refine vD_ 6 fun K hK=>?_
  go_simp
  refine hK.out _ _ (.inr (hS.kept (growB _))) ?_
  clear hK K
  replace hS:=hS.kept (growB (.cells #[.bool b,.int .i64 t] 192))
  try simp only[Act.put,pA_,pB_,pC_]
  refine vD_ 7 fun K hK=>?_
  refine wp_append_E _ _ 189 rfl 192 ti _ 2 16 Tryz.underlying189 hti hz0 hz1 hz2 rfl (by decide) _ ss.length (kyC ss) rfl (hOd.kept (growB _)) ⟨w2.heap.size,0,none⟩ 1 1 [.bool b,.int .i64 t] rfl rfl (news2 _ _ rfl) (oneSay b t) (by unfold maxLen;omega) (by omega) ?_
  intro v6 w6 hO6 hC6
  rw[HKc.out,HLn.out] at hO6
  obtain⟨a6,c6,rfl, -, -⟩:=ky_len15 (hO6.ky rfl)
  have rb6:=(hbd.kept (growB (.cells #[.bool b,.int .i64 t] 192))).chg hC6 HFs.out.1
  have c1b:w6.cell? ⟨g,1,none⟩=some (.slice sa ss.length sc):=rb6.cell 1
  have f1b:=rb6.free 1
  refine hK.out _ _ (.inr (hS.chg hC6 HFs.out.1 HFs.out.2)) ?_
  clear hK K
  replace hS:=hS.chg hC6 HFs.out.1 HFs.out.2
  try simp only[Act.put,pA_,pB_,pC_]
  refine vP_ (.inr hS) 8 rfl ⟨_,by intro W;go_simp<;>with_reducible rfl,?_⟩
  try simp only[Act.put,pA_,pB_,pC_]
  refine vP_ (.inr hS) 9 rfl ⟨_,by intro W;go_simp<;>with_reducible rfl,?_⟩
  try simp only[Act.put,pA_,pB_,pC_]
  refine vD_ 10 fun K hK=>?_
  go_simp
  refine hK.out _ _ (.inl rfl) ?_
  clear hK K
  try simp only[Act.put,pA_,pB_,pC_]
  refine wpV_done (by kernel_rfl) ?_
  have r7:BlkAt g 265 [.slice ak ks.length ck,.slice a6 M.length c6] (w6.setCell ⟨g,1,none⟩ (.slice a6 M.length c6)):=rb6.set 1 (.slice a6 M.length c6)
  have hw7:=Wrote.set g 1 w6 (.slice a6 M.length c6)
  have hO7:=hO6.wrote hw7 HGe.out (rows_far hO6 rb6 (by
   intro q hq
   rcases List.mem_cons.1 hq with rfl|hq
   ·exact(show(192:TypeId)≠265 by decide)
   ·rcases List.mem_cons.1 hq with rfl|hq
    ·exact(show(269:TypeId)≠265 by decide)
    ·exact HFar.out q hq))
  have HF:Hid (CoP w0 g (adC (ks,ss) (b,t)) L (w6.setCell ⟨g,1,none⟩ (.slice a6 M.length c6))):=by
   show CoP _ _ _ _ _
   rw[HA.out]
   exact⟨⟨_,_,r7,hO7.swap⟩,HGe.out,HFar.out⟩
  clear r7 hw7 hO7 rb6 hO6 hC6 hS c1b f1b hOd hbd
  go_wp2
  refine bodyPost_ret (v:=.tuple #[]) (by simp[results,Tryz.results147,go_sem]) rfl ?_
  exact⟨rfl,HF.out⟩
 |false=>
  have HA:Hid (adC (ks,ss) (b,t)=(ks++[(b,t)],ss)):=by show _=_;unfold adC;rw[if_neg (by rw[←HZ.out];simp)]
  have hOd:OwnG w0 (⟨269,2,.slice ak ks.length ck,ks.length,kyC ks⟩ :: ⟨192,2,.slice sa ss.length sc,ss.length,kyC ss⟩ :: L) w2.drew:=hO.drew
  have hS:Cw g 0 (.slice ak ks.length ck) w.heap.size b t w2.drew:=⟨hb.cell 0,q1.cell 0,q1.cell 1⟩
  obtain⟨M,hM⟩:∃M:List Say,M=ks++[(b,t)]:=⟨_,rfl⟩
  have HM:Hid (M=ks++[(b,t)]):=hM
  have HLn:Hid (ks.length+1=M.length):=by show _=_;rw[hM];simp
  have HKc:Hid (kyC ks++[.bool b,.int .i64 t]=kyC M):=by show _=_;rw[hM];exact kyC_next ks b t
  rw[←hM] at HA
  have hbd:=hb.drew
  clear hM q1 hb hO
  go_wp2_with fail
  refine wpV_begin 11 (Cw g 0 (.slice ak ks.length ck) w.heap.size b t) (by kernel_rfl) ?_
  refine vP_ (.inr hS) 0 rfl ⟨_,by intro W;go_simp<;>with_reducible rfl,?_⟩
  try simp only[Act.put,pA_,pB_,pC_]
  refine vP_ (.inr hS) 1 rfl ⟨_,by intro W;go_simp<;>with_reducible rfl,?_⟩
  try simp only[Act.put,pA_,pB_,pC_]
  refine vP_ (.inr hS) 2 rfl ⟨_,by intro W;go_simp<;>with_reducible rfl,?_⟩
  try simp only[Act.put,pA_,pB_,pC_]
  refine vP_ (.inr hS) 3 rfl ⟨_,by intro W;go_simp<;>with_reducible rfl,?_⟩
  try simp only[Act.put,pA_,pB_,pC_]
  refine vU_ hS 4 rfl ⟨_,by intro W hW;have cW:=hW.out;go_simp<;>with_reducible rfl,?_⟩
  try simp only[Act.put,pA_,pB_,pC_]
  refine vU_ hS 5 rfl ⟨_,by intro W hW;have cW:=hW.say0;have cX:=hW.say1;go_simp<;>with_reducible rfl,?_⟩
  try simp only[Act.put,pA_,pB_,pC_]
  refine vD_ 6 fun K hK=>?_
  go_simp
  refine(key_any b t _ rfl _).mono ?_
  rintro e w3 ⟨rfl,b3⟩
  refine hK.out _ _ (.inr (hS.kept b3)) ?_
  clear hK K
  replace hS:=hS.kept b3
  replace hOd:=hOd.kept b3
  replace hbd:=hbd.kept b3
  try simp only[Act.put,pA_,pB_,pC_]
  refine vD_ 7 fun K hK=>?_
  go_simp
  refine hK.out _ _ (.inr (hS.kept (growB _))) ?_
  clear hK K
  replace hS:=hS.kept (growB (.cells #[.bool b,.int .i64 t] 269))
  try simp only[Act.put,pA_,pB_,pC_]
  refine vD_ 8 fun K hK=>?_
  refine wp_append_E _ _ 263 rfl 269 tk _ 2 16 Tryz.underlying263 htk hk0 hk1 hk2 rfl (by decide) _ ks.length (kyC ks) rfl (hOd.kept (growB _)) ⟨w3.heap.size,0,none⟩ 1 1 [.bool b,.int .i64 t] rfl rfl (news2 _ _ rfl) (oneSay b t) (by unfold maxLen;omega) (by omega) ?_
  intro v6 w6 hO6 hC6
  rw[HKc.out,HLn.out] at hO6
  obtain⟨a6,c6,rfl, -, -⟩:=ky_len15 (hO6.ky rfl)
  have rb6:=(hbd.kept (growB (.cells #[.bool b,.int .i64 t] 269))).chg hC6 HFk.out.1
  have c1b:w6.cell? ⟨g,0,none⟩=some (.slice ak ks.length ck):=rb6.cell 0
  have f1b:=rb6.free 0
  refine hK.out _ _ (.inr (hS.chg hC6 HFk.out.1 HFk.out.2)) ?_
  clear hK K
  replace hS:=hS.chg hC6 HFk.out.1 HFk.out.2
  try simp only[Act.put,pA_,pB_,pC_]
  refine vP_ (.inr hS) 9 rfl ⟨_,by intro W;go_simp<;>with_reducible rfl,?_⟩
  try simp only[Act.put,pA_,pB_,pC_]
  refine vP_ (.inr hS) 10 rfl ⟨_,by intro W;go_simp<;>with_reducible rfl,?_⟩
  try simp only[Act.put,pA_,pB_,pC_]
  refine vD_ 11 fun K hK=>?_
  go_simp
  refine hK.out _ _ (.inl rfl) ?_
  clear hK K
  try simp only[Act.put,pA_,pB_,pC_]
  refine wpV_done (by kernel_rfl) ?_
  have r7:BlkAt g 265 [.slice a6 M.length c6,.slice sa ss.length sc] (w6.setCell ⟨g,0,none⟩ (.slice a6 M.length c6)):=rb6.set 0 (.slice a6 M.length c6)
  have hw7:=Wrote.set g 0 w6 (.slice a6 M.length c6)
  have hO7:=hO6.wrote hw7 HGe.out (rows_far hO6 rb6 (by
   intro q hq
   rcases List.mem_cons.1 hq with rfl|hq
   ·exact(show(269:TypeId)≠265 by decide)
   ·rcases List.mem_cons.1 hq with rfl|hq
    ·exact(show(192:TypeId)≠265 by decide)
    ·exact HFar.out q hq))
  have HF:Hid (CoP w0 g (adC (ks,ss) (b,t)) L (w6.setCell ⟨g,0,none⟩ (.slice a6 M.length c6))):=by
   show CoP _ _ _ _ _
   rw[HA.out]
   exact⟨⟨_,_,r7,hO7⟩,HGe.out,HFar.out⟩
  clear r7 hw7 hO7 rb6 hO6 hC6 hS c1b f1b hOd hbd
  go_wp2
  refine bodyPost_end (v:=.tuple #[]) (by simp[results,Tryz.results147,go_sem]) rfl ?_
  exact⟨rfl,HF.out⟩
end Go.Proofs.YtpgjobpmafbigaaGreatDoor

namespace Go.Proofs.YtpgjobpmafbigaaGreatDoor
set_option linter.unusedSimpArgs false
set_option linter.unusedVariables false

def btY (b:List UInt8) (m:Nat):Nat:=(b.getD (m / 8) 0).toNat / 2 ^ (m % 8) % 2
theorem btY_lt (b:List UInt8) (m:Nat):btY b m<2:=Nat.mod_lt _ (by decide)
def bs (f:Nat→Nat):Nat→Nat→Nat
 |_,0=>0
 |o,n+1=>f o+2 * bs f (o+1) n
theorem bs_zero (f:Nat→Nat) (o:Nat):bs f o 0=0:=rfl
theorem bs_succ (f:Nat→Nat) (o n:Nat):bs f o (n+1)=f o+2 * bs f (o+1) n:=rfl
theorem bs_lt (f:Nat→Nat) (hf:∀k,f k<2):∀(n o:Nat),bs f o n<2 ^ n
 |0,_=>Nat.zero_lt_one
 |n+1,o=>by
  have h1:=bs_lt f hf n (o+1)
  have h2:=hf o
  rw[bs_succ,Nat.pow_succ]
  omega
theorem bs_congr {f g:Nat→Nat}:∀(n o p:Nat),(∀s,s<n→f (o+s)=g (p+s))→bs f o n=bs g p n
 |0,_,_,_=>rfl
 |n+1,o,p,h=>by
  have h0:=h 0 (by omega)
  rw[Nat.add_zero,Nat.add_zero] at h0
  rw[bs_succ,bs_succ,h0,bs_congr n (o+1) (p+1) fun s hs=>by
   have:=h (s+1) (by omega)
   rw[show o+1+s=o+(s+1) by omega,show p+1+s=p+(s+1) by omega]
   exact this]
theorem bs_bit (f:Nat→Nat) (hf:∀k,f k<2):∀(n o j:Nat),j<n→bs f o n / 2 ^ j % 2=f (o+j)
 |0,_,_,h=>by omega
 |n+1,o,0,_=>by
  have:=hf o
  show(f o+2 * bs f (o+1) n) / 1 % 2=f o
  omega
 |n+1,o,j+1,h=>by
  have h1:=bs_bit f hf n (o+1) j (by omega)
  have h2:=hf o
  rw[bs_succ,Nat.pow_succ,Nat.mul_comm (2 ^ j) 2,←Nat.div_div_eq_div_mul,show(f o+2 * bs f (o+1) n) / 2=bs f (o+1) n by omega,h1,show o+1+j=o+(j+1) by omega]
theorem bs_of (x:Nat):∀(n o:Nat),bs (fun k=>x / 2 ^ k % 2) o n=x / 2 ^ o % 2 ^ n
 |0,o=>by
  rw[bs_zero,Nat.pow_zero]
  omega
 |n+1,o=>by
  rw[bs_succ,bs_of x n (o+1),Nat.pow_succ 2 o,←Nat.div_div_eq_div_mul]
  generalize x / 2 ^ o=y
  rw[Nat.pow_succ 2 n,Nat.mul_comm (2 ^ n) 2,Nat.mod_mul]
def pkB (d:Nat) (F:Nat→Int) (m:Nat):Nat:=rsZ (F (m / d)) / 2 ^ (m % d) % 2
theorem pkB_lt (d:Nat) (F:Nat→Int) (m:Nat):pkB d F m<2:=Nat.mod_lt _ (by decide)
def pkY (d:Nat) (F:Nat→Int) (i:Nat):UInt8:=UInt8.ofNat (bs (pkB d F) (8 * i) 8)
def pkL (d:Nat) (F:Nat→Int):List UInt8:=(List.range (32 * d)).map (pkY d F)
theorem pkL_length (d:Nat) (F:Nat→Int):(pkL d F).length=32 * d:=by simp[pkL]
theorem pk_btY (d:Nat) (F:Nat→Int) (m:Nat) (h:m<256 * d):btY (pkL d F) m=pkB d F m:=by
 have hm:m / 8<32 * d:=by omega
 unfold btY
 have e1:(pkL d F).getD (m / 8) 0=pkY d F (m / 8):=by simp[pkL,hm]
 have h2:=bs_lt (pkB d F) (pkB_lt d F) 8 (8 * (m / 8))
 rw[e1]
 unfold pkY
 rw[UInt8.toNat_ofNat',Nat.mod_eq_of_lt (a:=bs (pkB d F) (8 * (m / 8)) 8) h2,bs_bit _ (pkB_lt d F) 8 _ _ (by omega),show 8 * (m / 8)+m % 8=m by omega]
def upN (d:Nat) (b:List UInt8) (k:Nat):Nat:=bs (btY b) (d * k) d
theorem up_pk (d:Nat) (hd:0<d) (F:Nat→Int) (k:Nat) (hk:k<256):upN d (pkL d F) k=rsZ (F k) % 2 ^ d:=by
 unfold upN
 have h:=bs_of (rsZ (F k)) d 0
 rw[Nat.pow_zero,Nat.div_one] at h
 rw[←h]
 refine bs_congr d (d * k) 0 fun s hs=>?_
 have hlt:d * k+s<256 * d:=by
  have:d * k+d≤d * 256:=by rw[←Nat.mul_succ];exact Nat.mul_le_mul_left d (by omega)
  rw[Nat.mul_comm d 256] at this
  omega
 rw[pk_btY d F _ hlt]
 unfold pkB
 rw[Nat.mul_add_div hd,Nat.div_eq_of_lt hs,Nat.add_zero,Nat.mul_add_mod,Nat.mod_eq_of_lt hs,Nat.zero_add]
theorem pk_up (d:Nat) (hd:0<d) (b:List UInt8) (hb:b.length=32 * d) (F:Nat→Int) (hF:∀k,k<256→rsZ (F k)=upN d b k):pkL d F=b:=by
 have hbit:∀m,m<256 * d→pkB d F m=btY b m:=fun m hm=>by
  have hk:m / d<256:=by
   rw[Nat.div_lt_iff_lt_mul hd]
   exact hm
  unfold pkB
  rw[hF _ hk]
  unfold upN
  rw[bs_bit _ (btY_lt b) d _ _ (Nat.mod_lt _ hd),Nat.div_add_mod]
 refine List.ext_getElem (by rw[pkL_length,hb]) fun i h1 h2=>?_
 have hi:i<32 * d:=by rw[←hb];exact h2
 have e1:(pkL d F)[i]=pkY d F i:=by simp[pkL]
 rw[e1]
 unfold pkY
 have hx:(b.getD i 0)=b[i]:=by simp[h2]
 have e2:bs (pkB d F) (8 * i) 8=b[i].toNat:=by
  have h3:=bs_of b[i].toNat 8 0
  rw[Nat.pow_zero,Nat.div_one,Nat.mod_eq_of_lt (by have:=b[i].toNat_lt;simpa using this)] at h3
  rw[←h3]
  refine bs_congr 8 (8 * i) 0 fun s hs=>?_
  rw[hbit _ (by omega)]
  unfold btY
  rw[show(8 * i+s) / 8=i by omega,show(8 * i+s) % 8=s by omega,hx,Nat.zero_add]
 rw[e2]
 exact UInt8.ofNat_toNat
def cn (b:List UInt8) (m:Nat):Nat→Nat
 |0=>0
 |e+1=>cn b m e+btY b (m+e)
theorem cn_le (b:List UInt8) (m:Nat):∀e,cn b m e≤e
 |0=>Nat.le_refl _
 |e+1=>by
  have h1:=cn_le b m e
  have h2:=btY_lt b (m+e)
  show cn b m e+btY b (m+e)≤e+1
  omega
def nsN (e:Nat) (b:List UInt8) (k:Nat):Nat:=3329+cn b (2 * k * e) e - cn b (2 * k * e+e) e
def nsF (e:Nat) (b:List UInt8) (k:Nat):FZ:=nz (nsN e b k)
def upF (d:Nat) (b:List UInt8) (k:Nat):FZ:=nz (upN d b k)
def cpA (d x:Int):Nat:=if 1≤d∧d≤11 then cpZ d.toNat x else 0
def dcA (d y:Int):Nat:=if 1≤d∧d≤11 then dcZ d.toNat y else 0
structure Ld where
 x:FF
 z:FF
 s:FF
 t:FF
def ldS (w:FF) (l:Ld):Ld:=
 let a:=(l.x+l.z) * (l.x+l.z)
 let b:=(l.x - l.z) * (l.x - l.z)
 let e:=a - b
 let c:=(l.x+l.z) * (l.s - l.t)
 let f:=(l.x - l.z) * (l.s+l.t)
 ⟨a * b,e * (a+121665 * e),(c+f) * (c+f),w * ((c - f) * (c - f))⟩
def ldT (l:Ld):Ld:=⟨l.s,l.t,l.x,l.z⟩
def ldB (w:FF) (b:Bool) (l:Ld):Ld:=if b then ldT (ldS w (ldT l)) else ldS w l
def ldN (w:FF) (bit:Nat→Bool):Nat→Ld
 |0=>⟨1,0,w,1⟩
 |j+1=>ldB w (bit (254 - j)) (ldN w bit j)
def xv (P:Pt):FF:=(1+P.v) * finv (1 - P.v)
theorem Rp.tell {X Z:FF} {P:Pt} (h:Rp X Z P):X * finv Z=xv P:=by
 unfold xv
 by_cases hz:Z=0
 ·have hx:X≠0:=by
   rcases h.2 with h2|h2
   ·exact h2
   ·exact absurd hz h2
  have h1:=h.1
  rw[hz] at h1
  have h2:X * (1 - P.v)=0:=by
   rw[h1]
   generalize P.v=v
   grind -lia
  have h3:1 - P.v=0:=by
   rcases fmul_zero h2 with h4|h4
   ·exact absurd h4 hx
   ·exact h4
  rw[hz,h3,finv_zero]
  generalize P.v=v
  grind -lia
 ·have hv:1 - P.v≠0:=by
   intro h0
   have h1:=h.1
   rw[h0] at h1
   have h2:Z * (1+P.v)=0:=by
    rw[←h1]
    grind -lia
   rcases fmul_zero h2 with h4|h4
   ·exact hz h4
   ·apply two_ne
    generalize P.v=v at *
    grind -lia
  exact frac_eq hz hv (by rw[h.1];generalize P.v=v;grind -lia)
def ldX (w:FF) (bit:Nat→Bool):FF:=(ldN w bit 255).x * finv (ldN w bit 255).z
def fv (x:Nat):FF:=⟨x % 57896044618658097711785492504343953926634992332820282019728792003956564819949,Nat.mod_lt _ (by decide)⟩
theorem fv_eq {x y:Nat}:fv x=fv y↔x % pN=y % pN:=by
 constructor
 ·intro h
  have:=congrArg Fin.val h
  exact this
 ·intro h
  exact Fin.ext h
theorem fv_add (x y:Nat):fv (x+y)=fv x+fv y:=by
 apply Fin.ext
 rw[Fin.val_add]
 exact Nat.add_mod x y _
theorem fv_mul (x y:Nat):fv (x * y)=fv x * fv y:=by
 apply Fin.ext
 rw[fmul_val]
 exact Nat.mul_mod x y _
theorem fv_sub (x y:Nat):fv (x+(pN - y % pN))=fv x - fv y:=by
 have h:fv (x+(pN - y % pN))+fv y=fv x:=by
  rw[←fv_add,fv_eq]
  have h1:y % pN<pN:=Nat.mod_lt _ pN_pos
  have h2:x+(pN - y % pN)+y=x+pN * (y / pN+1):=by
   have:=Nat.div_add_mod y pN
   rw[Nat.mul_add,Nat.mul_one]
   generalize pN * (y / pN)=t at this ⊢
   omega
  rw[h2,Nat.add_mul_mod_self_left]
 rw[←h]
 generalize fv (x+(pN - y % pN))=a
 generalize fv y=b
 grind -lia
theorem fv_c:fv 121665=121665:=rfl
theorem pTwo_ex:pTwo=exN:=rfl
theorem fv_pow (x:Nat):fv (x ^ exN)=finv (fv x):=by
 apply Fin.ext
 show x ^ exN % pN=(x % pN) ^ pTwo % pN
 rw[pTwo_ex]
 exact Nat.pow_mod x exN pN

def Lq (X Z S T:Nat) (l:Ld):Prop:=fv X=l.x∧fv Z=l.z∧fv S=l.s∧fv T=l.t
theorem Lq.turn {X Z S T:Nat} {l:Ld} (h:Lq X Z S T l):Lq S T X Z (ldT l):=⟨h.2.2.1,h.2.2.2,h.1,h.2.1⟩
theorem Lq.step {X Z S T W:Nat} {l:Ld} (h:Lq X Z S T l) {sum diff a b e c f x z g k s t st dt m1 m2 hh:Nat} (h1:sum=X+Z) (h2:diff=X+(pN - Z % pN)) (h3:a=sum * sum) (h4:b=diff * diff) (h5:e=a+(pN - b % pN))
  (h6:st=S+(pN - T % pN)) (h7:c=sum * st) (h8:dt=S+T) (h9:f=diff * dt) (h10:x=a * b) (h11:m1=121665 * e) (h12:m2=a+m1) (h13:z=e * m2) (h14:g=c+f) (h15:k=c+(pN - f % pN)) (h16:s=g * g) (h17:hh=k * k) (h18:t=W * hh):Lq x z s t (ldS (fv W) l):=by
 obtain⟨e1,e2,e3,e4⟩:=h
 have k1:fv sum=l.x+l.z:=by rw[h1,fv_add,e1,e2]
 have k2:fv diff=l.x - l.z:=by rw[h2,fv_sub,e1,e2]
 have k3:fv a=(l.x+l.z) * (l.x+l.z):=by rw[h3,fv_mul,k1]
 have k4:fv b=(l.x - l.z) * (l.x - l.z):=by rw[h4,fv_mul,k2]
 have k5:fv e=(l.x+l.z) * (l.x+l.z) - (l.x - l.z) * (l.x - l.z):=by rw[h5,fv_sub,k3,k4]
 have k7:fv c=(l.x+l.z) * (l.s - l.t):=by rw[h7,fv_mul,k1,h6,fv_sub,e3,e4]
 have k9:fv f=(l.x - l.z) * (l.s+l.t):=by rw[h9,fv_mul,k2,h8,fv_add,e3,e4]
 refine⟨?_,?_,?_,?_⟩
 ·rw[h10,fv_mul,k3,k4]
  rfl
 ·rw[h13,fv_mul,k5,h12,fv_add,k3,h11,fv_mul,k5,fv_c]
  rfl
 ·rw[h16,fv_mul,h14,fv_add,k7,k9]
  rfl
 ·rw[h18,fv_mul,h17,fv_mul,h15,fv_sub,k7,k9]
  rfl
def bitB (n:List UInt8) (i:Nat):Bool:=(n.getD (i / 8) 0).toNat / 2 ^ (i % 8) % 2==1
def clL (k:List UInt8):List UInt8:=(k.set 0 (UInt8.ofNat ((k.getD 0 0).toNat / 8 * 8))).set 31 (UInt8.ofNat ((k.getD 31 0).toNat % 64+64))
theorem clL_length (k:List UInt8):(clL k).length=k.length:=by simp[clL]
theorem Lq.first (W:Nat) (bit:Nat→Bool):Lq 1 0 W 1 (ldN (fv W) bit 0):=⟨rfl,rfl,rfl,rfl⟩
theorem Lq.next {X Z S T X' Z' S' T' W:Nat} {bit:Nat→Bool} {j:Nat} (h:Lq X Z S T (ldN (fv W) bit j)) (hb:bit (254 - j)=false) (hs:Lq X Z S T (ldN (fv W) bit j)→Lq X' Z' S' T' (ldS (fv W) (ldN (fv W) bit j))):Lq X' Z' S' T' (ldN (fv W) bit (j+1)):=by
 have e:ldN (fv W) bit (j+1)=ldS (fv W) (ldN (fv W) bit j):=by
  show ldB (fv W) (bit (254 - j)) _=_
  rw[hb]
  rfl
 rw[e]
 exact hs h
def scN (k u:List UInt8):Nat:=(ldX (fv (decN u)) (bitB (clL k))).val
end Go.Proofs.YtpgjobpmafbigaaGreatDoor

namespace Go.Proofs.YtpgjobpmafbigaaGreatDoor
set_option linter.unusedSimpArgs false
def key9:List UInt8:=9 :: List.replicate 31 0
theorem key9_length:key9.length=32:=by decide
end Go.Proofs.YtpgjobpmafbigaaGreatDoor

namespace Go.Proofs.YtpgjobpmafbigaaGreatDoor
open Go.ChangeShapes Go.WideShapes Go.ChangeAt Go.RowKit
set_option linter.unusedSimpArgs false
set_option linter.unusedVariables false

def knT (p:Ptn):Nat→List Say
 |0=>[]
 |1=>if p.ki then [(true,2)] else []
 |_=>knL p
theorem knL_len (p:Ptn):(knL p).length≤2:=by
 unfold knL
 cases p.ki<;>cases p.kr<;>simp
theorem knT_len (p:Ptn):∀k,(knT p k,([]:List Say)).1.length+(knT p k,([]:List Say)).2.length≤1000
 |0=>by simp[knT]
 |1=>by show(if p.ki then _ else _:List Say).length+0≤1000;cases p.ki<;>simp
 |k+2=>by have:=knL_len p;show(knL p).length+0≤1000;omega
theorem build_co (w:World):(Instr.build 265 #[]).run Tryz.prog w=.ok (.agg #[.slice none 0 0,.slice none 0 0]) w:=by kernel_rfl
theorem build_two (w:World):(Instr.build 266 #[(0,.agg #[.bool true,.int .i64 2]),(1,.agg #[.bool false,.int .i64 2])]).run Tryz.prog w=.ok (.agg #[.bool true,.int .i64 2,.bool false,.int .i64 2]) w:=by kernel_rfl
theorem idx_two0 (w:World):(Instr.index 266 (.agg #[.bool true,.int .i64 2,.bool false,.int .i64 2]) (.int .i64 0)).run Tryz.prog w=.ok (.agg #[.bool true,.int .i64 2]) w:=by kernel_rfl
theorem idx_two1 (w:World):(Instr.index 266 (.agg #[.bool true,.int .i64 2,.bool false,.int .i64 2]) (.int .i64 1)).run Tryz.prog w=.ok (.agg #[.bool false,.int .i64 2]) w:=by kernel_rfl
theorem paC_at {w:World} {g:Nat} {p:Ptn} {vm:Value} (h:BlkAt g 25 (paC p vm) w):w.cell? ⟨g,1,none⟩=some (.bool p.ki)∧w.cell? ⟨g,2,none⟩=some (.bool p.kr):=⟨h.cell 1,h.cell 2⟩

set_option maxRecDepth 100000 in
set_option maxHeartbeats 8000000 in
theorem begun_any (p:Ptn) (vm:Value) (A:Array Value) (hA:A=(paC p vm).toArray) (w:World):
  Calls Tryz.prog 144 #[.agg A] w fun e w'=>∃g,e=.returned (.pointer (some ⟨g,0,none⟩))∧CoP w g (knL p,[]) [] w':=by
 go_enter Tryz.func144,Tryz.ntmps144
 go_wp2_with (refine wpList_box_blk rfl 25 _ rfl (paC p vm) (by rw[←hA];rfl) ?_)
 intro w1 r1 b1 s1
 have HP:Hid (w1.cell? ⟨w.heap.size,1,none⟩=some (.bool p.ki)∧w1.cell? ⟨w.heap.size,2,none⟩=some (.bool p.kr)):=paC_at r1
 have HB1:Hid (Below w.heap.size w w1):=b1
 clear r1 b1 s1 hA
 have bc:=build_co w1
 have b2:=fun w=>build_two w
 have hC0:CoP w1 w1.heap.size (knT p 0,[]) [] (w1.alloc (.cells #[.slice none 0 0,.slice none 0 0] 265)):=by
  refine⟨⟨.slice none 0 0,.slice none 0 0,BlkAt.fresh rfl rfl,?_⟩,Nat.le_refl _,by intro q hq;cases hq⟩
  exact((((OwnG.start w1).nil 192 2).nil 269 2).kept (growB _))
 obtain⟨g,hg⟩:∃g:Nat,g=w1.heap.size:=⟨_,rfl⟩
 rw[←hg] at hC0
 have HG:Hid (g=w1.heap.size):=hg
 go_wp2
 rw[←hg]
 clear hg bc b2
 go_loopw [11] (fun iv wx=>∃i:Nat,i≤2∧iv=.int .i64 (i:Int)∧CoP w1 g (knT p i,[]) [] wx) (fun iv _=>2 - (intOf iv).toNat)
 case atStart=>exact⟨0,by omega,rfl,hC0⟩
 case round=>
  obtain⟨i,hi,rfl,hC⟩:=hrel
  clear hC0
  have k1:=cellKP HP.out.1 hC.below
  have k2:=cellKP HP.out.2 hC.below
  have HC:Hid (CoP w1 g (knT p i,[]) [] wr):=hC
  clear hC
  have hi3:i=0∨i=1∨i=2:=by omega
  rcases hi3 with rfl|rfl|rfl
  ·have ix:=fun w=>idx_two0 w
   obtain⟨kb,hkb⟩:∃b:Bool,b=p.ki:=⟨_,rfl⟩
   rw[←hkb] at k1
   have HK:Hid (kb=p.ki):=hkb
   clear hkb
   go_wp2_with (refine wpList_alloc_blk rfl 192 rfl [.bool false,.int .i64 0] (allocSay _) ?_)
   intro w2 r2 b2 s2
   have HC2:Hid (CoP w1 g (knT p 0,[]) [] w2):=HC.out.kept b2
   have l2:=cellKP k1 b2
   have hwl:w.heap.size<w2.heap.size:=World.block_lt_of_cell? _ _ l2
   have HNe:Hid (g<wr.heap.size∧w.heap.size<wr.heap.size):=⟨by obtain⟨_,_,h1,_⟩:=HC.out.ex;exact h1.lt,World.block_lt_of_cell? _ _ k1⟩
   have HOw:Hid (∀vk vs:Value,OwnG w1 [⟨269,2,vk,(knT p 0).length,kyC (knT p 0)⟩,⟨192,2,vs,0,kyC []⟩] wr→∀q∈([⟨269,2,vk,(knT p 0).length,kyC (knT p 0)⟩,⟨192,2,vs,0,kyC []⟩]:List Rw),∀b,q.v.ownBlock=some b→b≠wr.heap.size):=fun vk vs h q hq b hb=>by have:=h.lt q hq b hb;omega
   clear s2 k1 k2
   go_wp2_with (refine wpList_store_part rfl 192 _ _ rfl rfl [.bool true,.int .i64 2] rfl [] [.bool false,.int .i64 0] [] [.bool true,.int .i64 2] r2 rfl rfl rfl rfl infoSay2 (oneSayA true 2) ?_)
   intro w3 r3 hw3
   have HC3:Hid (CoP w1 g (knT p 0,[]) [] w3):=by
    obtain⟨vk,vs,h1,h2⟩:=HC.out.ex
    refine⟨⟨vk,vs,(h1.kept b2).wrote hw3 (by have:=HNe.out.1;omega),(h2.kept b2).wrote hw3 h2.below.size (HOw.out vk vs h2)⟩,HC.out.ge,HC.out.far⟩
   have l3:w3.cell? ⟨w.heap.size,1,none⟩=some (.bool kb):=by
    have:=hw3.other w.heap.size (by have:=HNe.out.2;omega)
    unfold World.cell? at l2 ⊢
    rw[this]
    exact l2
   have c0:w3.cell? ⟨wr.heap.size,0,none⟩=some (.bool true):=r3.cell 0
   clear r2 b2 hw3 l2 HC HC2 HOw hwl
   go_wp2_with fail
   refine(sideOf_any true _).mono ?_
   rintro e w3 ⟨rfl,rfl⟩
   cases kb with
   |true=>
    go_wp2_with (refine wpList_load_part rfl 192 _ rfl rfl [] [.bool true,.int .i64 2] [] r3 rfl rfl Tryz.underlying192 rfl infoSay2 ?_)
    refine(add15_any (true,2) g _ [] _ rfl w1 _ HC3.out (knT_len p 0)).mono ?_
    rintro e w4 ⟨rfl,hC4⟩
    have hC5:CoP w1 g (knT p 1,[]) [] w4:=by
     have e:adC (knT p 0,[]) (true,2)=(knT p 1,[]):=by
      have:=HK.out
      unfold adC
      rw[if_neg (by decide)]
      simp[knT,knL,←this]
     rw[←e]
     exact hC4
    clear hC4 HC3 r3 c0 l3
    go_wp2
    go_roundw
    case rel=>exact⟨1,by omega,by go_num,hC5⟩
    case measure=>simp[intOf]
   |false=>
    have hC5:CoP w1 g (knT p 1,[]) [] w3:=by
     have e:knT p 1=knT p 0:=by
      have:=HK.out
      simp[knT,knL,←this]
     rw[e]
     exact HC3.out
    clear HC3 r3 c0
    go_wp2
    go_roundw
    case rel=>exact⟨1,by omega,by go_num,hC5⟩
    case measure=>simp[intOf]
  ·have ix:=fun w=>idx_two1 w
   obtain⟨kb,hkb⟩:∃b:Bool,b=p.kr:=⟨_,rfl⟩
   rw[←hkb] at k2
   have HK:Hid (kb=p.kr):=hkb
   clear hkb
   go_wp2_with (refine wpList_alloc_blk rfl 192 rfl [.bool false,.int .i64 0] (allocSay _) ?_)
   intro w2 r2 b2 s2
   have HC2:Hid (CoP w1 g (knT p 1,[]) [] w2):=HC.out.kept b2
   have l2:=cellKP k2 b2
   have hwl:w.heap.size<w2.heap.size:=World.block_lt_of_cell? _ _ l2
   have HNe:Hid (g<wr.heap.size∧w.heap.size<wr.heap.size):=⟨by obtain⟨_,_,h1,_⟩:=HC.out.ex;exact h1.lt,World.block_lt_of_cell? _ _ k2⟩
   have HOw:Hid (∀vk vs:Value,OwnG w1 [⟨269,2,vk,(knT p 1).length,kyC (knT p 1)⟩,⟨192,2,vs,0,kyC []⟩] wr→∀q∈([⟨269,2,vk,(knT p 1).length,kyC (knT p 1)⟩,⟨192,2,vs,0,kyC []⟩]:List Rw),∀b,q.v.ownBlock=some b→b≠wr.heap.size):=fun vk vs h q hq b hb=>by have:=h.lt q hq b hb;omega
   clear s2 k1 k2
   go_wp2_with (refine wpList_store_part rfl 192 _ _ rfl rfl [.bool false,.int .i64 2] rfl [] [.bool false,.int .i64 0] [] [.bool false,.int .i64 2] r2 rfl rfl rfl rfl infoSay2 (oneSayA false 2) ?_)
   intro w3 r3 hw3
   have HC3:Hid (CoP w1 g (knT p 1,[]) [] w3):=by
    obtain⟨vk,vs,h1,h2⟩:=HC.out.ex
    refine⟨⟨vk,vs,(h1.kept b2).wrote hw3 (by have:=HNe.out.1;omega),(h2.kept b2).wrote hw3 h2.below.size (HOw.out vk vs h2)⟩,HC.out.ge,HC.out.far⟩
   have l3:w3.cell? ⟨w.heap.size,2,none⟩=some (.bool kb):=by
    have:=hw3.other w.heap.size (by have:=HNe.out.2;omega)
    unfold World.cell? at l2 ⊢
    rw[this]
    exact l2
   have c0:w3.cell? ⟨wr.heap.size,0,none⟩=some (.bool false):=r3.cell 0
   clear r2 b2 hw3 l2 HC HC2 HOw hwl
   go_wp2_with fail
   refine(sideOf_any false _).mono ?_
   rintro e w3 ⟨rfl,rfl⟩
   cases kb with
   |true=>
    go_wp2_with (refine wpList_load_part rfl 192 _ rfl rfl [] [.bool false,.int .i64 2] [] r3 rfl rfl Tryz.underlying192 rfl infoSay2 ?_)
    refine(add15_any (false,2) g _ [] _ rfl w1 _ HC3.out (knT_len p 1)).mono ?_
    rintro e w4 ⟨rfl,hC4⟩
    have hC5:CoP w1 g (knT p 2,[]) [] w4:=by
     have e:adC (knT p 1,[]) (false,2)=(knT p 2,[]):=by
      have:=HK.out
      unfold adC
      rw[if_neg (by decide)]
      simp[knT,knL,←this]
     rw[←e]
     exact hC4
    clear hC4 HC3 r3 c0 l3
    go_wp2
    go_roundw
    case rel=>exact⟨2,by omega,by go_num,hC5⟩
    case measure=>simp[intOf]
   |false=>
    have hC5:CoP w1 g (knT p 2,[]) [] w3:=by
     have e:knT p 2=knT p 1:=by
      have:=HK.out
      simp[knT,knL,←this]
     rw[e]
     exact HC3.out
    clear HC3 r3 c0
    go_wp2
    go_roundw
    case rel=>exact⟨2,by omega,by go_num,hC5⟩
    case measure=>simp[intOf]
  ·have hC9:CoP w g (knL p,[]) [] wr:=HC.out.from HB1.out
   go_wp2
   go_ret
   exact⟨_,rfl,hC9⟩
theorem CoP.var {w0 w w2 w3:World} {g:Nat} {c:List Say×List Say} {L:List Rw} (h:CoP w0 g c L w) (b:Below w.heap.size w w2) (hw:Wrote w.heap.size w2 w3):CoP w0 g c L w3:=by
 obtain⟨vk,vs,h1,h2⟩:=h.ex
 exact⟨⟨vk,vs,(h1.kept b).wrote hw (by have:=h1.lt;omega),(h2.kept b).wrote hw h2.below.size (fun q hq b hb=>by have:=h2.lt q hq b hb;omega)⟩,h.ge,h.far⟩
theorem perm3 (x y r:Rw):[x,y,r].Perm [r,x,y]:=List.perm_append_comm (l₁:=[x,y]) (l₂:=[r])
theorem CoP.row {w0 w w':World} {g:Nat} {c:List Say×List Say} {r:Rw} (h:CoP w0 g c [] w) (hO:OwnG w [r] w') (hr:r.ty≠265):CoP w0 g c [r] w':=by
 obtain⟨vk,vs,h1,h2⟩:=h.ex
 refine⟨⟨vk,vs,h1.kept hO.below,?_⟩,h.ge,by intro q hq;rcases List.mem_cons.1 hq with rfl|hq;exact hr;cases hq⟩
 have h3:=h2.fresh (p:=r) (hO.rows r (List.mem_cons_self ..)) hO.below
 exact h3.perm (perm3 _ _ _)
theorem CoP.ky {w0 w:World} {g:Nat} {c:List Say×List Say} {ty:TypeId} {v:Value} {l:List Say} (h:CoP w0 g c [⟨ty,2,v,l.length,kyC l⟩] w):KyR w v l:=by
 obtain⟨vk,vs,h1,h2⟩:=h.ex
 exact h2.tail.tail.ky rfl
theorem io_false {p:Ptn} {j:Nat} (hj:j<(syL p).length) (h:tkS (crS (knL p,[]) ((syL p).take j)) ((syL p).getD j (false,0))=false):ioB p=false:=by
 unfold ioB
 rw[List.all_eq_false]
 exact⟨j,List.mem_range.2 hj,by rw[h];simp⟩
theorem io_true {p:Ptn} (h:∀j,j<(syL p).length→tkS (crS (knL p,[]) ((syL p).take j)) ((syL p).getD j (false,0))=true):ioB p=true:=by
 unfold ioB
 rw[List.all_eq_true]
 intro j hj
 exact h j (List.mem_range.1 hj)

set_option maxRecDepth 100000 in
set_option maxHeartbeats 8000000 in
theorem inOrder_any (p:Ptn) (vm:Value) (A:Array Value) (hA:A=(paC p vm).toArray) (hS:PtS p) (w:World) (h:MsR w vm p):
  Calls Tryz.prog 90 #[.agg A] w fun e w'=>e=.returned (.bool (ioB p))∧Below w.heap.size w w':=by
 have HM:Hid (MsR w vm p):=h
 have HS:Hid (PtS p):=hS
 clear h hS
 go_enter Tryz.func90,Tryz.ntmps90
 go_wp2_with (refine wpList_box_blk rfl 25 _ rfl (paC p vm) (by rw[←hA];rfl) ?_)
 intro w1 r1 b1 s1
 have HM1:Hid (MsR w1 vm p):=HM.out.kept b1
 have HB1:Hid (Below w.heap.size w w1):=b1
 clear b1 s1 hA HM
 go_wp2_with (refine wpList_load_part rfl 25 _ rfl rfl [] (paC p vm) [] r1 (whole15 _) rfl Tryz.underlying25 rfl (paInfo p vm) ?_)
 refine(begun_any p vm _ rfl _).mono ?_
 rintro e w2 ⟨g,rfl,hC⟩
 replace r1:=r1.kept hC.below
 have HM2:Hid (MsR w2 vm p):=HM1.out.kept hC.below
 have HC2:Hid (CoP w1 g (knL p,[]) [] w2):=hC
 clear hC HM1
 go_wp2_with (refine wpList_load_part rfl 25 _ rfl rfl [] (paC p vm) [] r1 (whole15 _) rfl Tryz.underlying25 rfl (paInfo p vm) ?_)
 refine(sayings_any p vm _ rfl HS.out _ HM2.out).mono ?_
 rintro e w3 ⟨v,rfl,hO⟩
 have hC3:CoP w1 g (knL p,[]) [⟨192,2,v,(syL p).length,kyC (syL p)⟩] w3:=HC2.out.row hO (show(192:TypeId)≠265 by decide)
 obtain⟨a,cap,rfl,hl1,hl2⟩:=ky_len15 (hO.ky rfl)
 obtain⟨N,hN⟩:∃N:Nat,N=(syL p).length:=⟨_,rfl⟩
 have HN:Hid (N=(syL p).length):=hN
 have hNb:N≤96:=by rw[hN];exact syL_len HS.out
 rw[←hN] at hl1 ⊢
 have hC4:CoP w1 g (crS (knL p,[]) ((syL p).take 0)) [⟨192,2,.slice a N cap,(syL p).length,kyC (syL p)⟩] w3:=by rw[←hN] at hC3;rw[←hN];exact hC3
 unfold maxLen at hl2
 clear hO hC3 HC2 HM2 r1 hN
 go_wp2
 go_loopw [11] (fun iv wx=>∃i:Nat,i≤N∧iv=.int .i64 (i:Int)∧Hid (∀j,j<i→tkS (crS (knL p,[]) ((syL p).take j)) ((syL p).getD j (false,0))=true)∧CoP w1 g (crS (knL p,[]) ((syL p).take i)) [⟨192,2,.slice a N cap,(syL p).length,kyC (syL p)⟩] wx) (fun iv _=>N - (intOf iv).toNat)
 case atStart=>exact⟨0,by omega,rfl,(by show ∀j,_;intro j hj;omega),hC4⟩
 case round=>
  obtain⟨i,hi,rfl,HI,hC⟩:=hrel
  clear hC4
  by_cases hlt:i<N
  ·have hd:decide ((i:Int)<(N:Int))=true:=decide_eq_true (by omega)
   have hiI:(i:Int)<(N:Int):=by omega
   have HIn:Hid (i<(syL p).length):=by show _<_;rw[←HN.out];exact hlt
   obtain⟨b,off,rfl,g1,g2⟩:=hC.ky.at HIn.out
   obtain⟨x,hx⟩:∃x:Say,x=(syL p).getD i (false,0):=⟨_,rfl⟩
   rw[←hx] at g1 g2
   have HX:Hid (x=(syL p).getD i (false,0)):=hx
   obtain⟨c,hc⟩:∃c,c=crS (knL p,[]) ((syL p).take i):=⟨_,rfl⟩
   rw[←hc] at hC
   have HCe:Hid (c=crS (knL p,[]) ((syL p).take i)):=hc
   obtain⟨xb,xt⟩:=x
   have hrg:=range_two g1 g2
   have HC:Hid _:=hC
   clear hx g1 g2 hc hC
   go_wp2_with (first
    |refine wpList_load_mid rfl 192 _ rfl b (off+i * 2) rfl [.bool xb,.int .i64 xt] _ hrg Tryz.underlying192 rfl infoSay2 ?_
    |refine wpList_alloc_blk rfl 192 rfl [.bool false,.int .i64 0] (allocSay _) ?_)
   intro w4 r4 b4 s4
   go_wp2_with (refine wpList_store_part rfl 192 _ _ rfl rfl [.bool xb,.int .i64 xt] rfl [] [.bool false,.int .i64 0] [] [.bool xb,.int .i64 xt] r4 rfl rfl rfl rfl infoSay2 (oneSayA xb xt) ?_)
   intro w5 r5 hw5
   have hC5:=CoP.var HC.out b4 hw5
   clear r4 b4 s4 hw5 HC hrg
   go_wp2_with (refine wpList_load_part rfl 192 _ rfl rfl [] [.bool xb,.int .i64 xt] [] r5 rfl rfl Tryz.underlying192 rfl infoSay2 ?_)
   refine(takes_any (xb,xt) g c.1 c.2 _ rfl _ hC5.cor).mono ?_
   rintro e w6 ⟨rfl,b6⟩
   replace r5:=r5.kept b6
   have hC6:=hC5.kept b6
   obtain⟨y,hy⟩:∃y:Bool,y=tkS (c.1,c.2) (xb,xt):=⟨_,rfl⟩
   rw[←hy]
   have HY:Hid (y=tkS (crS (knL p,[]) ((syL p).take i)) ((syL p).getD i (false,0))):=by show _=_;rw[←HX.out,←HCe.out];exact hy
   clear hy b6 hC5
   cases y with
   |false=>
    have HF:Hid (ioB p=false):=io_false HIn.out HY.out.symm
    have HB6:Hid (Below w.heap.size w w6):=stepB HB1.out hC6.below
    clear hC6
    go_wp2
    go_ret
    exact⟨by rw[HF.out];rfl,HB6.out⟩
   |true=>
    have HLn:Hid (c.1.length+c.2.length≤1000):=by
     show _≤_
     rw[HCe.out,crS_len,List.length_take]
     have:=knL_len p
     omega
    have HC6:Hid (CoP w1 g c [⟨192,2,.slice (some ⟨b,off,none⟩) N cap,(syL p).length,kyC (syL p)⟩] w6):=hC6
    clear hC6
    go_wp2_with (refine wpList_load_part rfl 192 _ rfl rfl [] [.bool xb,.int .i64 xt] [] r5 rfl rfl Tryz.underlying192 rfl infoSay2 ?_)
    refine(add15_any (xb,xt) g c _ _ rfl w1 _ HC6.out HLn.out).mono ?_
    rintro e w7 ⟨rfl,hC7⟩
    have hC8:CoP w1 g (crS (knL p,[]) ((syL p).take (i+1))) [⟨192,2,.slice (some ⟨b,off,none⟩) N cap,(syL p).length,kyC (syL p)⟩] w7:=by
     rw[crS_next _ _ _ HIn.out,←HCe.out,←HX.out]
     exact hC7
    have HI2:Hid (∀j,j<i+1→tkS (crS (knL p,[]) ((syL p).take j)) ((syL p).getD j (false,0))=true):=by
     show ∀j,_
     intro j hj
     rcases Nat.lt_or_ge j i with h|h
     ·exact HI.out j h
     ·rw[show j=i by omega];exact HY.out.symm
    clear hC7 HC6 r5
    go_wp2
    go_roundw
    case rel=>exact⟨i+1,by omega,by go_num,HI2,hC8⟩
    case measure=>simp[intOf]<;>omega
  ·have hd:decide ((i:Int)<(N:Int))=false:=decide_eq_false (by omega)
   have hiI:(N:Int)≤(i:Int):=by omega
   have HO:Hid (ioB p=true):=io_true fun j hj=>HI.out j (by rw[←HN.out] at hj;omega)
   have HB6:Hid (Below w.heap.size w wr):=stepB HB1.out hC.below
   clear hC
   go_wp2
   go_ret
   exact⟨by rw[HO.out];rfl,HB6.out⟩

def ckA (p:Ptn):Int:=if wrB p then (if tnB p&&ioB p then 0 else 21) else 1

set_option maxRecDepth 100000 in
set_option maxHeartbeats 4000000 in
theorem check_any (p:Ptn) (vm:Value) (A:Array Value) (hA:A=(paC p vm).toArray) (hnm:p.name.length≤maxLen) (w:World) (h:MsR w vm p):
  Calls Tryz.prog 35 #[.agg A] w fun e w'=>e=.returned (.int .i64 (ckA p))∧Below w.heap.size w w':=by
 obtain⟨R,hR⟩:∃r:Int,r=ckA p:=⟨_,rfl⟩
 have HR:Hid (R=if wrB p then (if tnB p&&ioB p then 0 else 21) else 1):=hR
 rw[←hR]
 have HM:Hid (MsR w vm p):=h
 have HNm:Hid (p.name.length≤maxLen):=hnm
 clear h hR hnm
 go_enter Tryz.func35,Tryz.ntmps35
 go_wp2_with (refine wpList_box_blk rfl 25 _ rfl (paC p vm) (by rw[←hA];rfl) ?_)
 intro w1 r1 b1 s1
 have HM1:Hid (MsR w1 vm p):=HM.out.kept b1
 clear s1 hA HM
 go_wp2_with (refine wpList_load_part rfl 25 _ rfl rfl [] (paC p vm) [] r1 (whole15 _) rfl Tryz.underlying25 rfl (paInfo p vm) ?_)
 refine(writable_any p vm _ rfl HNm.out _ HM1.out).mono ?_
 rintro e w2 ⟨rfl,b2⟩
 replace r1:=r1.kept b2
 have HM2:Hid (MsR w2 vm p):=HM1.out.kept b2
 replace b1:=stepB b1 b2
 obtain⟨y,hy⟩:∃y:Bool,y=wrB p:=⟨_,rfl⟩
 rw[←hy]
 have HY:Hid (y=wrB p):=hy
 clear hy b2 HM1
 cases y with
 |false=>
  have HF:Hid (R=1):=by show _=_;rw[HR.out,if_neg (by rw[←HY.out];simp)]
  go_wp2
  go_ret
  exact⟨by rw[HF.out];rfl,b1⟩
 |true=>
  have HR2:Hid (R=if tnB p&&ioB p then 0 else 21):=by show _=_;rw[HR.out,if_pos HY.out.symm]
  have c3:w2.cell? ⟨w.heap.size,3,none⟩=some vm:=r1.cell 3
  obtain⟨a,cap,rfl,hl,hm, -⟩:=id HM2.out.form
  go_wp2_with fail
  refine(byTurns_any p _ _ HM2.out).mono ?_
  rintro e w3 ⟨rfl,b3⟩
  replace r1:=r1.kept b3
  have HM3:Hid (MsR w3 (.slice a p.n cap) p):=HM2.out.kept b3
  replace b1:=stepB b1 b3
  obtain⟨z,hz⟩:∃z:Bool,z=tnB p:=⟨_,rfl⟩
  rw[←hz]
  rw[←hz] at HR2
  clear hz b3 HM2 c3
  cases z with
  |false=>
   have HF:Hid (R=21):=by show _=_;rw[HR2.out];rfl
   go_wp2
   go_ret
   exact⟨by rw[HF.out];rfl,b1⟩
  |true=>
   go_wp2_with (refine wpList_loadG 25 _ rfl rfl (paC p (.slice a p.n cap)) r1 Tryz.underlying25 rfl (paInfo p _) (by go_simp;done) ?_)
   refine(inOrder_any p _ _ rfl (PtS.of HY.out.symm) _ HM3.out).mono ?_
   rintro e w4 ⟨rfl,b4⟩
   replace b1:=stepB b1 b4
   obtain⟨x,hx⟩:∃x:Bool,x=ioB p:=⟨_,rfl⟩
   rw[←hx]
   rw[←hx] at HR2
   clear hx b4 r1
   cases x with
   |false=>
    have HF:Hid (R=21):=by show _=_;rw[HR2.out];rfl
    go_wp2
    go_ret
    exact⟨by rw[HF.out];rfl,b1⟩
   |true=>
    have HF:Hid (R=0):=by show _=_;rw[HR2.out];rfl
    go_wp2
    go_ret
    exact⟨by rw[HF.out];rfl,b1⟩
end Go.Proofs.YtpgjobpmafbigaaGreatDoor

namespace Go.Proofs.YtpgjobpmafbigaaGreatDoor
set_option linter.unusedSimpArgs false
set_option linter.unusedVariables false

def acF (f:Nat→FZ) (g:Nat→Nat→FZ):Nat→Nat→FZ
 |0=>f
 |j+1=>fun k=>acF f g j k+g j k
def enF (rho:List UInt8) (i j:Nat):Nat→FZ:=unF (smF (abF 168 31 (rho++[UInt8.ofNat j,UInt8.ofNat i])) 168)
def slF (s:List UInt8) (n:Nat):Nat→FZ:=nsF 2 (otL (abF 136 31 (s++[UInt8.ofNat n])) 136 128)
def ptF (d:Nat) (b:List UInt8) (i:Nat):Nat→FZ:=upF d ((b.drop (32 * d * i)).take (32 * d))
def spF (d:Nat) (f:Nat→FZ) (k:Nat):FZ:=nz (dcA d (fzF f k))
def sqI (d:Nat) (f:Nat→FZ) (k:Nat):Int:=((cpA d (fzF f k):Nat):Int)
def gnS (d:List UInt8):List UInt8:=otL (abF 72 6 (d++[3])) 72 64
theorem gnS_length (d:List UInt8):(gnS d).length=64:=by simp[gnS,otL]
def rwF (s:List UInt8) (i:Nat):Nat→FZ:=fwd (slF s i)
def dkP (s:List UInt8):Nat→List UInt8
 |0=>[]
 |i+1=>dkP s i++pkL 12 (fzF (rwF s i))
theorem dkP_length (s:List UInt8):∀i,(dkP s i).length=384 * i
 |0=>rfl
 |i+1=>by
  rw[dkP,List.length_append,dkP_length s i,pkL_length]
  omega
def tF (rho s:List UInt8) (i:Nat):Nat→FZ:=acF (fwd (slF s (3+i))) (fun j=>tm (enF rho i j) (rwF s j)) 3
def ekP (rho s:List UInt8):Nat→List UInt8
 |0=>[]
 |i+1=>ekP rho s i++pkL 12 (fzF (tF rho s i))
theorem ekP_length (rho s:List UInt8):∀i,(ekP rho s i).length=384 * i
 |0=>rfl
 |i+1=>by
  rw[ekP,List.length_append,ekP_length rho s i,pkL_length]
  omega
def dkL (d:List UInt8):List UInt8:=dkP ((gnS d).drop 32) 3
def ekL (d:List UInt8):List UInt8:=ekP ((gnS d).take 32) ((gnS d).drop 32) 3++(gnS d).take 32
theorem dkL_length (d:List UInt8):(dkL d).length=1152:=dkP_length _ 3
theorem ekL_length (d:List UInt8):(ekL d).length=1184:=by
 unfold ekL
 rw[List.length_append,ekP_length,List.length_take,gnS_length]
 rfl
def uF (ek r:List UInt8) (i:Nat):Nat→FZ:=acF (fun _=>0) (fun j=>tm (enF (ek.drop 1152) j i) (rwF r j)) 3
def UF (ek r:List UInt8) (i k:Nat):FZ:=inw (uF ek r i) k+slF r (3+i) k
def cuP (ek r:List UInt8):Nat→List UInt8
 |0=>[]
 |i+1=>cuP ek r i++pkL 10 (sqI 10 (UF ek r i))
def vF (ek r:List UInt8):Nat→FZ:=acF (fun _=>0) (fun i=>tm (ptF 12 ek i) (rwF r i)) 3
def VF (ek m r:List UInt8) (k:Nat):FZ:=inw (vF ek r) k+slF r 6 k+spF 1 (upF 1 m) k
def ciL (ek m r:List UInt8):List UInt8:=cuP ek r 3++pkL 4 (sqI 4 (VF ek m r))
def hsS (l:List UInt8):List UInt8:=otL (abF 136 6 l) 136 32
def hsD (l:List UInt8):List UInt8:=otL (abF 72 6 l) 72 64
theorem hsS_length (l:List UInt8):(hsS l).length=32:=otL_length _ _ _
def kdL (d z:List UInt8):List UInt8:=dkL d++ekL d++hsS (ekL d)++z
def ckB (ek:List UInt8):Bool:=(List.range 768).all fun i=>decide (upN 12 (ek.take 1152) i<3329)
def ckE (ek:List UInt8):Int:=if ek.length=1184 then if ckB ek then 0 else 12 else 1
def seG (ek m:List UInt8):List UInt8:=hsD (m++hsS ek)
structure Par where
 priv:List UInt8
 pub:List UInt8
 dk:List UInt8
 ek:List UInt8
structure Kys where
 priv:List UInt8
 pub:List UInt8
 dk:List UInt8
 ek:List UInt8
 long:Par
structure Hsk where
 p:Ptn
 init:Bool
 next:Nat
 s:Sta
 own:Kys
 other:Kys
 psk:List UInt8
def puK (k:List UInt8):List UInt8×Int:=if k.length=32 then (enL (scN k key9),0) else ([],1)
def shK (k u:List UInt8):List UInt8×Int:=if k.length=32∧u.length=32 then (if (enL (scN k u)).all (fun x=>decide (x=0)) then ([],11) else (enL (scN k u),0)) else ([],1)
def sayB (p:Ptn) (b:Bool) (t:Int):Bool:=(List.range p.n).any fun i=>(p.ini i==b)&&(p.tk i).any fun x=>decide (x=t)
def hdN (p:Ptn):List UInt8:=[80,81,78,111,105,115,101,95]++p.name++[95,88,50,53,53,49,57,77,76,75,69,77,55,54,56,95,67,104,97,67,104,97,80,111,108,121,95,83,72,65,51,45,50,53,54]
def ne1 (t:Int):Nat:=(if t=1∨9≤t then 32 else 0)+(if t=8 then 64 else 0)
def mxK (h:Hsk) (t:Int):Hsk×Int:=
 if t=7 then (⟨h.p,h.init,h.next,mbS h.s h.psk,h.own,h.other,h.psk⟩,0)
 else
  let mine:=decide (t=6)||(decide (t=5)&&h.init)||(decide (t=4)&& !h.init)
  let theirs:=decide (t=6)||(decide (t=5)&& !h.init)||(decide (t=4)&&h.init)
  let q:=shK (if mine then h.own.long.priv else h.own.priv) (if theirs then h.other.long.pub else h.other.pub)
  if q.2=0 then (⟨h.p,h.init,h.next,mkS h.s q.1,h.own,h.other,h.psk⟩,0) else (h,q.2)
def stH (h:Hsk) (s:Sta):Hsk:=⟨h.p,h.init,h.next,s,h.own,h.other,h.psk⟩
def enK (ek m:List UInt8):List UInt8×List UInt8×Int:=if ek.length≠1184∨m.length≠32 then ([],[],1) else if ckE ek≠0 then ([],[],ckE ek) else ((seG ek m).take 32,ciL ek m ((seG ek m).drop 32),0)
def wr1 (h:Hsk) (t:Int) (c:List UInt8):Hsk×List UInt8×List UInt8×Int:=
 if t=1 then
  let b:=(puK (c.take 32)).1
  (⟨h.p,h.init,h.next,mhS h.s b,⟨c.take 32,b,h.own.dk,h.own.ek,h.own.long⟩,h.other,h.psk⟩,c.drop 32,b,0)
 else if t=8 then
  let ek:=ekL (c.take 32)
  (⟨h.p,h.init,h.next,mhS h.s ek,⟨h.own.priv,h.own.pub,kdL (c.take 32) ((c.drop 32).take 32),ek,h.own.long⟩,h.other,h.psk⟩,c.drop 64,ek,0)
 else if t=2 then
  let q:=seS h.s (h.own.long.pub++h.own.long.ek)
  (stH h q.1,c,q.2.1,q.2.2)
 else if t=9∨t=10 then
  let q:=enK (if t=10 then h.other.long.ek else h.other.ek) (c.take 32)
  if q.2.2≠0 then (h,c.drop 32,[],q.2.2)
  else if t=10 then
   let r:=seS h.s q.2.1
   if r.2.2=0 then (stH h (mkS r.1 q.1),c.drop 32,r.2.1,0) else (stH h r.1,c.drop 32,r.2.1,r.2.2)
  else (stH h (mkS (mhS h.s q.2.1) q.1),c.drop 32,q.2.1,0)
 else ((mxK h t).1,c,[],(mxK h t).2)
end Go.Proofs.YtpgjobpmafbigaaGreatDoor
