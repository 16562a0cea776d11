/- What the proofs of this seat stand on and that names no program: memory, rows, arrays, regions, and plain mathematics; several texts in one. -/
import Derived.Test.YtnjdpnhkphfnbaaGreatDoorNum
import Derived.Test.YtnjdpnhkphfnbaaGreatDoorKec
import Derived.Test.YtnjdpnhkphfnbaaGreatDoorBase

namespace Go.Proofs.YtnjdpnhkphfnbaaGreatDoor
set_option linter.unusedSimpArgs false
set_option linter.unusedVariables false

def acF (f : Nat → FZ) (g : Nat → Nat → FZ) : Nat → Nat → FZ
  | 0 => f
  | j + 1 => fun k => acF f g j k + g j k
def enF (rho : List UInt8) (i j : Nat) : Nat → FZ := unF (smF (abF 168 31 (rho ++ [UInt8.ofNat j, UInt8.ofNat i])) 168)
def slF (s : List UInt8) (n : Nat) : Nat → FZ := nsF 2 (otL (abF 136 31 (s ++ [UInt8.ofNat n])) 136 128)
def ptF (d : Nat) (b : List UInt8) (i : Nat) : Nat → FZ := upF d ((b.drop (32 * d * i)).take (32 * d))
def spF (d : Nat) (f : Nat → FZ) (k : Nat) : FZ := nz (dcA d (fzF f k))
def sqI (d : Nat) (f : Nat → FZ) (k : Nat) : Int := ((cpA d (fzF f k) : Nat) : Int)
def gnS (d : List UInt8) : List UInt8 := otL (abF 72 6 (d ++ [3])) 72 64
theorem gnS_length (d : List UInt8) : (gnS d).length = 64 := by simp [gnS, otL]
def rwF (s : List UInt8) (i : Nat) : Nat → FZ := fwd (slF s i)
def dkP (s : List UInt8) : Nat → List UInt8
  | 0 => []
  | i + 1 => dkP s i ++ pkL 12 (fzF (rwF s i))
theorem dkP_length (s : List UInt8) : ∀ i, (dkP s i).length = 384 * i
  | 0 => rfl
  | i + 1 => by
    rw [dkP, List.length_append, dkP_length s i, pkL_length]
    omega
def tF (rho s : List UInt8) (i : Nat) : Nat → FZ := acF (fwd (slF s (3 + i))) (fun j => tm (enF rho i j) (rwF s j)) 3
def ekP (rho s : List UInt8) : Nat → List UInt8
  | 0 => []
  | i + 1 => ekP rho s i ++ pkL 12 (fzF (tF rho s i))
theorem ekP_length (rho s : List UInt8) : ∀ i, (ekP rho s i).length = 384 * i
  | 0 => rfl
  | i + 1 => by
    rw [ekP, List.length_append, ekP_length rho s i, pkL_length]
    omega
def dkL (d : List UInt8) : List UInt8 := dkP ((gnS d).drop 32) 3
def ekL (d : List UInt8) : List UInt8 := ekP ((gnS d).take 32) ((gnS d).drop 32) 3 ++ (gnS d).take 32
theorem dkL_length (d : List UInt8) : (dkL d).length = 1152 := dkP_length _ 3
theorem ekL_length (d : List UInt8) : (ekL d).length = 1184 := by
  unfold ekL
  rw [List.length_append, ekP_length, List.length_take, gnS_length]
  rfl
def uF (ek r : List UInt8) (i : Nat) : Nat → FZ := acF (fun _ => 0) (fun j => tm (enF (ek.drop 1152) j i) (rwF r j)) 3
def UF (ek r : List UInt8) (i k : Nat) : FZ := inw (uF ek r i) k + slF r (3 + i) k
def cuP (ek r : List UInt8) : Nat → List UInt8
  | 0 => []
  | i + 1 => cuP ek r i ++ pkL 10 (sqI 10 (UF ek r i))
theorem cuP_length (ek r : List UInt8) : ∀ i, (cuP ek r i).length = 320 * i
  | 0 => rfl
  | i + 1 => by
    rw [cuP, List.length_append, cuP_length ek r i, pkL_length]
    omega
def vF (ek r : List UInt8) : Nat → FZ := acF (fun _ => 0) (fun i => tm (ptF 12 ek i) (rwF r i)) 3
def VF (ek m r : List UInt8) (k : Nat) : FZ := inw (vF ek r) k + slF r 6 k + spF 1 (upF 1 m) k
def ciL (ek m r : List UInt8) : List UInt8 := cuP ek r 3 ++ pkL 4 (sqI 4 (VF ek m r))
theorem ciL_length (ek m r : List UInt8) : (ciL ek m r).length = 1088 := by
  unfold ciL
  rw [List.length_append, cuP_length, pkL_length]
def wF (dk c : List UInt8) : Nat → FZ := acF (fun _ => 0) (fun i => pd (inw (ptF 12 dk i)) (spF 10 (ptF 10 c i))) 3
def meL (dk c : List UInt8) : List UInt8 := pkL 1 (sqI 1 fun k => spF 4 (upF 4 (c.drop 960)) k - wF dk c k)
end Go.Proofs.YtnjdpnhkphfnbaaGreatDoor

namespace Go.Proofs.YtnjdpnhkphfnbaaGreatDoor
set_option linter.unusedSimpArgs false
set_option linter.unusedVariables false

def rpL (d : Nat) (g : Nat → Nat → FZ) : Nat → List UInt8
  | 0 => []
  | i + 1 => rpL d g i ++ pkL d (fzF (g i))
theorem rpL_length (d : Nat) (g : Nat → Nat → FZ) : ∀ i, (rpL d g i).length = 32 * d * i
  | 0 => rfl
  | i + 1 => by
    rw [rpL, List.length_append, rpL_length d g i, pkL_length, Nat.mul_succ]
theorem dkP_row (s : List UInt8) : ∀ n, dkP s n = rpL 12 (rwF s) n
  | 0 => rfl
  | n + 1 => by rw [dkP, rpL, dkP_row s n]
theorem ekP_row (rho s : List UInt8) : ∀ n, ekP rho s n = rpL 12 (tF rho s) n
  | 0 => rfl
  | n + 1 => by rw [ekP, rpL, ekP_row rho s n]
def sqF (d : Nat) (f : Nat → FZ) (k : Nat) : FZ := nz (cpA d (fzF f k))
theorem sqF_val (d : Nat) (hd : d ≤ 11) (f : Nat → FZ) : fzF (sqF d f) = sqI d f := by
  funext k
  unfold fzF sqF sqI
  have h : cpA d (fzF f k) < 3329 := by
    unfold cpA
    split
    · unfold cpZ
      have h2 : 2 ^ (d : Int).toNat ≤ 2 ^ 11 := Nat.pow_le_pow_right (by decide) (by omega)
      have h3 := Nat.mod_lt ((2 ^ ((d : Int).toNat + 1) * rsZ (fzF f k) + 3329) / 6658) (Nat.two_pow_pos (d : Int).toNat)
      omega
    · omega
  rw [nz_val, Nat.mod_eq_of_lt h]
theorem cuP_row (ek r : List UInt8) : ∀ n, cuP ek r n = rpL 10 (fun i => sqF 10 (UF ek r i)) n
  | 0 => rfl
  | n + 1 => by rw [cuP, rpL, cuP_row ek r n, sqF_val 10 (by decide)]
theorem acF_from (e : Nat → FZ) (g : Nat → Nat → FZ) (k : Nat) : ∀ n, acF (fun _ => 0) g n k + e k = acF e g n k
  | 0 => by
    show (0 : FZ) + e k = e k
    generalize e k = x
    grind -lia
  | n + 1 => by
    show acF (fun _ => 0) g n k + g n k + e k = acF e g n k + g n k
    rw [← acF_from e g k n]
    generalize acF (fun _ => 0) g n k = x
    generalize g n k = y
    generalize e k = z
    grind -lia
theorem acF_eq (e : Nat → FZ) (g : Nat → Nat → FZ) (n : Nat) : (fun k => acF (fun _ => 0) g n k + e k) = acF e g n := funext fun k => acF_from e g k n
theorem inw_zero (p : Nat) : inw (fun _ => 0) p = 0 := by
  unfold inw
  have : (fun i => (0 : FZ) * (3303 * pz (zi i) (p / 2))) = fun _ => 0 := by
    funext i
    generalize pz (zi i) (p / 2) = y
    grind -lia
  rw [this, sm_zeros]
theorem inw_add (a b : Nat → FZ) (p : Nat) (hp : p < 256) : inw (fun k => a k + b k) p = inw a p + inw b p := by
  refine fwd_inj (inw fun k => a k + b k) (fun k => inw a k + inw b k) (fun q hq => ?_) p hp
  rw [fwd_inw _ q hq, fwd_add, fwd_inw _ q hq, fwd_inw _ q hq]
theorem pd_by (s u : Nat → FZ) (p : Nat) : inw (tm s (fwd u)) p = pd (inw s) u p := by
  unfold pd
  exact inw_congr _ _ (fun q hq => tm_congr (fun r hr => (fwd_inw s r hr).symm) (fun _ _ => rfl) q hq) p
theorem dec_sum (s u : Nat → Nat → FZ) (p : Nat) (hp : p < 256) : ∀ n, inw (acF (fun _ => 0) (fun i => tm (s i) (fwd (u i))) n) p = acF (fun _ => 0) (fun i => pd (inw (s i)) (u i)) n p
  | 0 => inw_zero p
  | n + 1 => by
    show inw (fun k => acF (fun _ => 0) (fun i => tm (s i) (fwd (u i))) n k + tm (s n) (fwd (u n)) k) p = acF (fun _ => 0) (fun i => pd (inw (s i)) (u i)) n p + pd (inw (s n)) (u n) p
    rw [inw_add _ _ p hp, dec_sum s u p hp n, pd_by (s n) (u n) p]
theorem wF_by (dk c : List UInt8) (k : Nat) (hk : k < 256) : inw (acF (fun _ => 0) (fun i => tm (ptF 12 dk i) (fwd (spF 10 (ptF 10 c i)))) 3) k = wF dk c k := dec_sum _ _ k hk 3
end Go.Proofs.YtnjdpnhkphfnbaaGreatDoor

namespace Go.Proofs.YtnjdpnhkphfnbaaGreatDoor
open Go.ChangeShapes Go.WideShapes Go.ChangeAt Go.RowKit
set_option linter.unusedSimpArgs false
set_option linter.unusedVariables false

theorem own_chgG {S : Nat → Prop} {w w' : World} {base sz : Nat} {e : TypeId} {v : Value} {n : Nat} {xs : List Value} (h : w.ownsRow base e sz v n xs) (c : Chg S w w') (hS : ∀ g, v.ownBlock = some g → ¬ S g) : w'.ownsRow base e sz v n xs := by
  refine ⟨h.1, h.2.imp id ?_⟩
  rintro ⟨g, cap, cur, rfl, h2, h3, h4⟩
  refine ⟨g, cap, cur, rfl, h2, ?_, h4⟩
  rw [c.block g (Array.getElem?_eq_some_iff.1 h3).1 (hS g rfl), h3]
theorem own_monoG {w : World} {base base' sz : Nat} {e : TypeId} {v : Value} {n : Nat} {xs : List Value} (h : w.ownsRow base e sz v n xs) (hb : base' ≤ base) : w.ownsRow base' e sz v n xs := by
  refine ⟨h.1, h.2.imp id ?_⟩
  rintro ⟨g, cap, cur, rfl, h2, h3⟩
  exact ⟨g, cap, cur, rfl, Nat.le_trans hb h2, h3⟩
theorem own_keptG {w w' : World} {base sz : Nat} {e : TypeId} {v : Value} {n : Nat} {xs : List Value} (h : w.ownsRow base e sz v n xs) (hb : Below w.heap.size w w') : w'.ownsRow base e sz v n xs :=
  own_chgG h (Chg.of_below (S := fun _ => False) hb) fun _ _ => id
theorem append_nearG {P : Program} (wr : World) (base : Nat) (t ty e : TypeId) (i : TypeInfo) (z : Value) (size bytes : Nat) (ht : P.underlying t = some (.slice e)) (hi : P.info? e = some i) (hz : i.zero = some z) (hsize : i.size = size) (hby : i.bytes = bytes)
    (v : Value) (n : Nat) (xs : List Value) (hown : wr.ownsRow base e size v n xs) (ad : Addr) (m c : Nat) (news : List Value) (hl : news.length = m * size) (hnews : ∀ j u, news[j]? = some u → wr.cell? (ad.add j) = some u) (h1 : ∀ u ∈ news, u.oneCell' = true)
    (h63 : n + m ≤ maxLen) (hbytes : (n + m) * bytes ≤ 140737488355328) (v' : Value) (w' : World) (hr : (Builtin.append_ #[t, t] ty #[v, .slice (some ad) m c]).run P wr = .ok v' w') (hnil : v' = .slice none 0 0 ↔ v = .slice none 0 0 ∧ m = 0) : Near wr v v' := by
  subst hsize hby
  have hsmall : n + m ≤ 9223372036854775807 := by simp only [maxLen] at h63; omega
  rcases hown.2 with ⟨rfl, h0⟩ | ⟨g, cap, cur, rfl, hb, hg, hn, hm, hss, htk⟩
  · subst h0
    by_cases hm0 : m = 0
    · left
      rw [hnil.2 ⟨rfl, hm0⟩]
    · right
      have := run_append_nil (P := P) wr t ty e i _ ht hi hz ad m c news hl hnews (by omega) (by omega) (by rw [Nat.zero_add] at hbytes; omega)
      rw [this] at hr
      simp only [Result.ok.injEq] at hr
      intro g hg
      rw [← hr.1] at hg
      simp only [Value.ownBlock, Option.some.injEq] at hg
      omega
  · by_cases hroom : n + m ≤ cap
    · left
      have hfit : n * i.size + news.length ≤ cur.size := by rw [hl, hss, ← Nat.add_mul]; exact Nat.mul_le_mul_right _ hroom
      have := run_append_room (P := P) wr t ty e i ht hi g n cap cur hg ad m c news hl hnews h1 hroom hfit
      rw [this] at hr
      simp only [Result.ok.injEq] at hr
      rw [← hr.1]
      rfl
    · right
      have := run_append_grow (P := P) wr t ty e i _ ht hi hz ⟨g, 0, none⟩ n cap xs hown.1 (fun j u hj => hown.cells rfl j u hj) ad m c news hl hnews (by omega) (by omega) (growslice_fits (by omega) hbytes)
      rw [this] at hr
      simp only [Result.ok.injEq] at hr
      intro g' hg'
      rw [← hr.1] at hg'
      simp only [Value.ownBlock, Option.some.injEq] at hg'
      omega
structure Rw where
  ty : TypeId
  sz : Nat
  v : Value
  n : Nat
  xs : List Value
def Rw.by (e : TypeId) (v : Value) (l : List UInt8) : Rw := ⟨e, 1, v, l.length, l.map bv⟩
structure OwnG (w0 : World) (L : List Rw) (w : World) : Prop where
  rows : ∀ p ∈ L, w.ownsRow w0.heap.size p.ty p.sz p.v p.n p.xs
  apart : L.Pairwise fun p q => Apart p.v q.v
  below : Below w0.heap.size w0 w
theorem OwnG.start (w0 : World) : OwnG w0 [] w0 := ⟨(fun p hp => by cases hp), .nil, Below.refl _ _⟩
theorem OwnG.since {w0 w : World} (h : Below w0.heap.size w0 w) : OwnG w0 [] w := ⟨(fun p hp => by cases hp), .nil, h⟩
theorem OwnG.kept {w0 w w' : World} {L : List Rw} (h : OwnG w0 L w) (hb : Below w.heap.size w w') : OwnG w0 L w' :=
  ⟨fun p hp => own_keptG (h.rows p hp) hb, h.apart, stepB h.below hb⟩
theorem OwnG.drew {w0 w : World} {L : List Rw} (h : OwnG w0 L w) : OwnG w0 L w.drew := h.kept (Below.refl _ _).drew
theorem OwnG.perm {w0 w : World} {L L' : List Rw} (h : OwnG w0 L w) (hp : L'.Perm L) : OwnG w0 L' w :=
  ⟨fun p hp' => h.rows p (hp.subset hp'), (hp.pairwise_iff (fun h => h.symm)).2 h.apart, h.below⟩
theorem OwnG.tail {w0 w : World} {p : Rw} {L : List Rw} (h : OwnG w0 (p :: L) w) : OwnG w0 L w :=
  ⟨fun q hq => h.rows q (List.mem_cons_of_mem _ hq), (List.pairwise_cons.1 h.apart).2, h.below⟩
theorem OwnG.swap {w0 w : World} {p q : Rw} {L : List Rw} (h : OwnG w0 (p :: q :: L) w) : OwnG w0 (q :: p :: L) w := h.perm (List.Perm.swap ..)
theorem OwnG.rd {w0 w : World} {e : TypeId} {v : Value} {l : List UInt8} {L : List Rw} (h : OwnG w0 L w) (hp : Rw.by e v l ∈ L) : Rd w v l := Rd.of_row (h.rows _ hp)
theorem OwnG.rd0 {w0 w : World} {e : TypeId} {v : Value} {l : List UInt8} {L : List Rw} (h : OwnG w0 (Rw.by e v l :: L) w) : Rd w v l := h.rd (List.mem_cons_self ..)
theorem OwnG.nil {w0 w : World} (ty : TypeId) (sz : Nat) {L : List Rw} (h : OwnG w0 L w) : OwnG w0 (⟨ty, sz, .slice none 0 0, 0, []⟩ :: L) w :=
  ⟨fun p hp => by
    rcases List.mem_cons.1 hp with rfl | hp
    · exact World.ownsRow_nil _ _ _ _
    · exact h.rows p hp, List.pairwise_cons.2 ⟨fun q _ => Apart.nil _, h.apart⟩, h.below⟩
theorem OwnG.nilB {w0 w : World} (ty : TypeId) {L : List Rw} (h : OwnG w0 L w) : OwnG w0 (Rw.by ty (.slice none 0 0) [] :: L) w := h.nil ty 1
theorem OwnG.fresh {w0 w w' : World} {p : Rw} {L : List Rw} (h : OwnG w0 L w) (hN : w'.ownsRow w.heap.size p.ty p.sz p.v p.n p.xs) (hb : Below w.heap.size w w') : OwnG w0 (p :: L) w' := by
  have hk := h.kept hb
  refine ⟨fun q hq => ?_, List.pairwise_cons.2 ⟨fun q hq => ?_, h.apart⟩, hk.below⟩
  · rcases List.mem_cons.1 hq with rfl | hq
    · exact own_monoG hN h.below.size
    · exact hk.rows q hq
  · refine Apart.symm (Apart.lt (B := w.heap.size) (fun g hg => ((h.rows q hq).lt g hg).2) fun g hg => (hN.lt g hg).1)
theorem OwnG.new {w0 w w' : World} {e : TypeId} {v : Value} {l : List UInt8} {L : List Rw} (h : OwnG w0 L w) (hN : New e w v l w') : OwnG w0 (Rw.by e v l :: L) w' := h.fresh hN.1 hN.2
theorem OwnG.toNew {w0 w : World} {e : TypeId} {v : Value} {l : List UInt8} {L : List Rw} (h : OwnG w0 (Rw.by e v l :: L) w) : New e w0 v l w := ⟨h.rows _ (List.mem_cons_self ..), h.below⟩
theorem OwnG.wrote {w0 w w' : World} {g : Nat} {L : List Rw} (h : OwnG w0 L w) (hw : Wrote g w w') (hg : w0.heap.size ≤ g) (hn : ∀ p ∈ L, ∀ b, p.v.ownBlock = some b → b ≠ g) : OwnG w0 L w' :=
  ⟨fun p hp => own_chgG (h.rows p hp) (Chg.of_wrote hw) fun b hb e => hn p hp b hb e, h.apart, hw.below _ _ hg h.below⟩
theorem OwnG.lt {w0 w : World} {L : List Rw} (h : OwnG w0 L w) : ∀ p ∈ L, ∀ b, p.v.ownBlock = some b → b < w.heap.size := fun p hp b hb => ((h.rows p hp).lt b hb).2
theorem OwnG.from {w0 w1 w : World} {L : List Rw} (h : OwnG w1 L w) (hb : Below w0.heap.size w0 w1) : OwnG w0 L w :=
  ⟨fun p hp => own_monoG (h.rows p hp) hb.size, h.apart, hb.trans (h.below.mono hb.size)⟩
theorem OwnG.grown {w0 wr w' : World} {p p' : Rw} {L : List Rw} (h : OwnG w0 (p :: L) wr) (h1 : w'.ownsRow w0.heap.size p'.ty p'.sz p'.v p'.n p'.xs) (hg : wr.grownBy w' p.v.ownBlock) (hn : Near wr p.v p'.v) : OwnG w0 (p' :: L) w' := by
  have hp := List.pairwise_cons.1 h.apart
  have hv := h.rows p (List.mem_cons_self ..)
  refine ⟨fun q hq => ?_, List.pairwise_cons.2 ⟨fun q hq => ?_, hp.2⟩, h.below.grown hg h.below.size fun k hk => (hv.lt k hk).1⟩
  · rcases List.mem_cons.1 hq with rfl | hq
    · exact h1
    · exact own_chgG (h.rows q (List.mem_cons_of_mem _ hq)) (Chg.of_grown hg) fun g hg' e => hp.1 q hq g e.symm hg'
  · exact Apart.near hn (hp.1 q hq) fun g hg' => ((h.rows q (List.mem_cons_of_mem _ hq)).lt g hg').2
theorem wp_append_G {P : Program} {e : TypeId} {w0 wr : World} {L : List Rw} {o : Oper} {a : Act} {K : Act → World → Prop} {Q : Exit → Act → World → Prop} (s x : Operand) (t : TypeId)
    (ho : o.op = .call { callee := .builtin .append, args := #[s, x], argTypes := #[t, t] }) (ht : P.underlying t = some (.slice e))
    (hinfo : (P.info? e).map (fun i => (i.zero, i.size, i.bytes)) = some (some (.int .u8 0), 1, 1)) (v : Value) (l : List UInt8) (hs : a.eval s = v) (hO : OwnG w0 (Rw.by e v l :: L) wr)
    (vx : Value) (l2 : List UInt8) (hx : a.eval x = vx) (hR : Rd wr vx l2) (hlen : l.length + l2.length ≤ 140737488355328)
    (h : ∀ v' w', OwnG w0 (Rw.by e v' (l ++ l2) :: L) w' → Chg (fun b => some b = v.ownBlock) wr w' → K (a.put o.dst v') w') : o.wp P a wr K Q :=
  wp_append_base s x t ho e ht hinfo v l hs (hO.rows _ (List.mem_cons_self ..)) hO.below.size vx l2 hx hR hlen fun v' w' h1 h2 h3 => h v' w' (hO.grown (p' := Rw.by e v' (l ++ l2)) h1 h2 h3) (Chg.of_grown h2)
theorem wpList_append_G {P : Program} {e : TypeId} {w0 wr : World} {L : List Rw} {ops : Array Oper} {rest : List Oper} {o : Oper} {a : Act} {Q : Exit → Act → World → Prop} (hg : o.guard = none) (s x : Operand) (t : TypeId)
    (ho : o.op = .call { callee := .builtin .append, args := #[s, x], argTypes := #[t, t] }) (ht : P.underlying t = some (.slice e))
    (hinfo : (P.info? e).map (fun i => (i.zero, i.size, i.bytes)) = some (some (.int .u8 0), 1, 1)) (v : Value) (l : List UInt8) (hs : a.eval s = v) (hO : OwnG w0 (Rw.by e v l :: L) wr)
    (vx : Value) (l2 : List UInt8) (hx : a.eval x = vx) (hR : Rd wr vx l2) (hlen : l.length + l2.length ≤ 140737488355328)
    (h : ∀ v' w', OwnG w0 (Rw.by e v' (l ++ l2) :: L) w' → Chg (fun b => some b = v.ownBlock) wr w' → wpList P ops Q rest (a.put o.dst v') w') : wpList P ops Q (o :: rest) a wr :=
  wpList_plain hg fun _ hK => wp_append_G s x t ho ht hinfo v l hs hO vx l2 hx hR hlen fun v' w' h1 h2 => hK _ _ (h v' w' h1 h2)
theorem wp_append_E {P : Program} {w0 wr : World} {L : List Rw} {o : Oper} {a : Act} {K : Act → World → Prop} {Q : Exit → Act → World → Prop} (s x : Operand) (t : TypeId)
    (ho : o.op = .call { callee := .builtin .append, args := #[s, x], argTypes := #[t, t] }) (e : TypeId) (i : TypeInfo) (z : Value) (size bytes : Nat) (ht : P.underlying t = some (.slice e)) (hi : P.info? e = some i) (hz : i.zero = some z)
    (hsize : i.size = size) (hby : i.bytes = bytes) (hzs : z.cells.size = size) (hsz : 0 < size) (v : Value) (n : Nat) (xs : List Value) (hs : a.eval s = v) (hO : OwnG w0 (⟨e, size, v, n, xs⟩ :: L) wr)
    (ad : Addr) (m c : Nat) (news : List Value) (hx : a.eval x = .slice (some ad) m c) (hl : news.length = m * size) (hnews : ∀ j u, news[j]? = some u → wr.cell? (ad.add j) = some u) (h1 : ∀ u ∈ news, u.oneCell' = true)
    (h63 : n + m ≤ maxLen) (hbytes : (n + m) * bytes ≤ 140737488355328)
    (h : ∀ v' w', OwnG w0 (⟨e, size, v', n + m, xs ++ news⟩ :: L) w' → Chg (fun b => some b = v.ownBlock) wr w' → K (a.put o.dst v') w') : o.wp P a wr K Q := by
  have hown := hO.rows _ (List.mem_cons_self ..)
  obtain ⟨v', w', hr, r2, r3, r4⟩ := run_append_own (P := P) wr w0.heap.size t o.type e i z size bytes ht hi hz hsize hby hzs hsz v n xs hown ad m c news hl hnews h1 h63 hbytes hO.below.size
  have hnear := append_nearG wr w0.heap.size t o.type e i z size bytes ht hi hz hsize hby v n xs hown ad m c news hl hnews h1 h63 hbytes v' w' hr r4
  unfold Oper.wp execOp
  simp only [ho, resolve, invoke, builtin, Sem.run_bind, Sem.run_pure, Result.andThen_ok, List.map_toArray, List.map_cons, List.map_nil, hs, hx, hr]
  exact h v' w' (hO.grown (p' := ⟨e, size, v', n + m, xs ++ news⟩) r2 r3 hnear) (Chg.of_grown r3)
theorem wpList_append_E {P : Program} {w0 wr : World} {L : List Rw} {ops : Array Oper} {rest : List Oper} {o : Oper} {a : Act} {Q : Exit → Act → World → Prop} (hg : o.guard = none) (s x : Operand) (t : TypeId)
    (ho : o.op = .call { callee := .builtin .append, args := #[s, x], argTypes := #[t, t] }) (e : TypeId) (i : TypeInfo) (z : Value) (size bytes : Nat) (ht : P.underlying t = some (.slice e)) (hi : P.info? e = some i) (hz : i.zero = some z)
    (hsize : i.size = size) (hby : i.bytes = bytes) (hzs : z.cells.size = size) (hsz : 0 < size) (v : Value) (n : Nat) (xs : List Value) (hs : a.eval s = v) (hO : OwnG w0 (⟨e, size, v, n, xs⟩ :: L) wr)
    (ad : Addr) (m c : Nat) (news : List Value) (hx : a.eval x = .slice (some ad) m c) (hl : news.length = m * size) (hnews : ∀ j u, news[j]? = some u → wr.cell? (ad.add j) = some u) (h1 : ∀ u ∈ news, u.oneCell' = true)
    (h63 : n + m ≤ maxLen) (hbytes : (n + m) * bytes ≤ 140737488355328)
    (h : ∀ v' w', OwnG w0 (⟨e, size, v', n + m, xs ++ news⟩ :: L) w' → Chg (fun b => some b = v.ownBlock) wr w' → wpList P ops Q rest (a.put o.dst v') w') : wpList P ops Q (o :: rest) a wr :=
  wpList_plain hg fun _ hK => wp_append_E s x t ho e i z size bytes ht hi hz hsize hby hzs hsz v n xs hs hO ad m c news hx hl hnews h1 h63 hbytes fun v' w' h1 h2 => hK _ _ (h v' w' h1 h2)
theorem own_elem {w : World} {base sz : Nat} {e : TypeId} {v : Value} {n : Nat} {xs : List Value} (h : w.ownsRow base e sz v n xs) {j : Nat} (hj : j < n) (pre mid post : List Value) (hx : xs = pre ++ mid ++ post) :
    ∃ g cap more, v = .slice (some ⟨g, 0, none⟩) n cap ∧ n ≤ cap ∧ cap ≤ maxLen ∧ base ≤ g ∧ BlkAt g e (pre ++ mid ++ more) w := by
  rcases h.2 with ⟨_, h0⟩ | ⟨g, cap, cur, hv, hb, hg, hn, hm, hss, htk⟩
  · omega
  · refine ⟨g, cap, post ++ cur.toList.drop (n * sz), hv, hn, hm, hb, ?_⟩
    have e1 : pre ++ mid ++ (post ++ cur.toList.drop (n * sz)) = cur.toList := by
      rw [← List.append_assoc, ← hx, ← htk, List.take_append_drop]
    unfold BlkAt
    rw [e1, hg]
end Go.Proofs.YtnjdpnhkphfnbaaGreatDoor

namespace Go.Proofs.YtnjdpnhkphfnbaaGreatDoor
set_option linter.unusedSimpArgs false
set_option linter.unusedVariables false

end Go.Proofs.YtnjdpnhkphfnbaaGreatDoor

namespace Go.Proofs.YtnjdpnhkphfnbaaGreatDoor
set_option linter.unusedSimpArgs false
set_option linter.unusedVariables false

def Hf (h : Nat) : Prop := h = 128 ∨ h = 64 ∨ h = 32 ∨ h = 16 ∨ h = 8 ∨ h = 4 ∨ h = 2
def xg (h : Nat) (Z : Nat → FZ) (C1 C2 : FZ → FZ → FZ → FZ) (F : Nat → FZ) (p : Nat) : FZ :=
  if p % (2 * h) < h then C1 (Z (p / (2 * h))) (F p) (F (p + h)) else C2 (Z (p / (2 * h))) (F (p - h)) (F p)
abbrev xd (h b j p : Nat) : Prop := p / (2 * h) < b ∨ p / (2 * h) = b ∧ p % (2 * h) % h < j
theorem xd_none (h p : Nat) : ¬ xd h 0 0 p := by
  unfold xd
  generalize p / (2 * h) = a
  generalize p % (2 * h) % h = b
  omega
theorem xd_next {h b p : Nat} (hh : Hf h) : xd h b h p ↔ xd h (b + 1) 0 p := by
  unfold xd
  have h1 : p % (2 * h) % h < h := Nat.mod_lt _ (by unfold Hf at hh; omega)
  omega
theorem xd_all {h p : Nat} (hh : Hf h) (hp : p < 256) : xd h (256 / (2 * h)) 0 p := by
  unfold xd
  rcases hh with rfl | rfl | rfl | rfl | rfl | rfl | rfl <;> omega
theorem xd_pair {h b j : Nat} (hh : Hf h) (hb : b < 256 / (2 * h)) (hj : j < h) :
    2 * h * b + j + h < 256 ∧ 2 * h * b < 256 ∧ ¬ xd h b j (2 * h * b + j) ∧ ¬ xd h b j (2 * h * b + j + h) ∧ (2 * h * b + j) / (2 * h) = b ∧ (2 * h * b + j) % (2 * h) = j ∧ (2 * h * b + j + h) / (2 * h) = b ∧ (2 * h * b + j + h) % (2 * h) = j + h := by
  unfold xd
  rcases hh with rfl | rfl | rfl | rfl | rfl | rfl | rfl <;> omega
theorem xd_step {h b j p : Nat} (hh : Hf h) (hb : b < 256 / (2 * h)) (hj : j < h) (h1 : p ≠ 2 * h * b + j) (h2 : p ≠ 2 * h * b + j + h) : xd h b (j + 1) p ↔ xd h b j p := by
  unfold xd
  rcases hh with rfl | rfl | rfl | rfl | rfl | rfl | rfl <;> omega
theorem xd_first {h b j : Nat} (hh : Hf h) (hb : b < 256 / (2 * h)) (hj : j < h) : xd h b (j + 1) (2 * h * b + j) ∧ xd h b (j + 1) (2 * h * b + j + h) := by
  unfold xd
  rcases hh with rfl | rfl | rfl | rfl | rfl | rfl | rfl <;> omega
def Xs (h : Nat) (Z : Nat → FZ) (C1 C2 : FZ → FZ → FZ → FZ) (F : Nat → FZ) (b j : Nat) (G : Nat → Int) : Prop :=
  ∀ p, p < 256 → G p = if xd h b j p then fzF (xg h Z C1 C2 F) p else fzF F p
theorem Xs.start (h : Nat) (Z : Nat → FZ) (C1 C2 : FZ → FZ → FZ → FZ) (F : Nat → FZ) : Xs h Z C1 C2 F 0 0 (fzF F) := fun p _ => by rw [if_neg (xd_none h p)]
theorem Xs.next {h : Nat} {Z : Nat → FZ} {C1 C2 : FZ → FZ → FZ → FZ} {F : Nat → FZ} {b : Nat} {G : Nat → Int} (hh : Hf h) (hx : Xs h Z C1 C2 F b h G) : Xs h Z C1 C2 F (b + 1) 0 G := fun p hp => by
  rw [hx p hp]
  by_cases hd : xd h b h p
  · rw [if_pos hd, if_pos ((xd_next hh).1 hd)]
  · rw [if_neg hd, if_neg fun e => hd ((xd_next hh).2 e)]
theorem Xs.done {h : Nat} {Z : Nat → FZ} {C1 C2 : FZ → FZ → FZ → FZ} {F : Nat → FZ} {G : Nat → Int} (hh : Hf h) (hx : Xs h Z C1 C2 F (256 / (2 * h)) 0 G) : gI G = gI (fzF (xg h Z C1 C2 F)) :=
  gI_congr fun p hp => by rw [hx p hp, if_pos (xd_all hh hp)]
theorem Xs.low {h : Nat} {Z : Nat → FZ} {C1 C2 : FZ → FZ → FZ → FZ} {F : Nat → FZ} {b j : Nat} {G : Nat → Int} (hh : Hf h) (hx : Xs h Z C1 C2 F b j G) (hb : b < 256 / (2 * h)) (hj : j < h) : G (2 * h * b + j) = fzF F (2 * h * b + j) := by
  have a := xd_pair hh hb hj
  rw [hx _ (by omega), if_neg a.2.2.1]
theorem Xs.high {h : Nat} {Z : Nat → FZ} {C1 C2 : FZ → FZ → FZ → FZ} {F : Nat → FZ} {b j : Nat} {G : Nat → Int} (hh : Hf h) (hx : Xs h Z C1 C2 F b j G) (hb : b < 256 / (2 * h)) (hj : j < h) : G (2 * h * b + j + h) = fzF F (2 * h * b + j + h) := by
  have a := xd_pair hh hb hj
  rw [hx _ (by omega), if_neg a.2.2.2.1]
theorem Xs.put {h : Nat} {Z : Nat → FZ} {C1 C2 : FZ → FZ → FZ → FZ} {F : Nat → FZ} {b j : Nat} {G : Nat → Int} (hh : Hf h) (hx : Xs h Z C1 C2 F b j G) (hb : b < 256 / (2 * h)) (hj : j < h) {i k : Nat} (hi : i = 2 * h * b + j) (hk : k = i + h) {x y : Int}
    (h1 : x = (((C1 (Z b) (F i) (F k)).val : Nat) : Int)) (h2 : y = (((C2 (Z b) (F i) (F k)).val : Nat) : Int)) : Xs h Z C1 C2 F b (j + 1) (fun p => if p = k then y else if p = i then x else G p) := by
  subst hi hk
  obtain ⟨a1, a0, a2, a3, a4, a5, a6, a7⟩ := xd_pair hh hb hj
  obtain ⟨f1, f2⟩ := xd_first hh hb hj
  intro p hp
  by_cases e2 : p = 2 * h * b + j + h
  · subst e2
    simp only [if_pos, f2]
    rw [h2]
    unfold fzF xg
    rw [a7, a6, if_neg (by omega), show 2 * h * b + j + h - h = 2 * h * b + j by omega]
  · by_cases e1 : p = 2 * h * b + j
    · subst e1
      simp only [if_neg e2, if_pos, f1]
      rw [h1]
      unfold fzF xg
      rw [a5, a4, if_pos hj]
    · show (if p = _ then y else if p = _ then x else G p) = _
      rw [if_neg e2, if_neg e1, hx p hp]
      by_cases hd : xd h b j p
      · rw [if_pos hd, if_pos ((xd_step hh hb hj e1 e2).2 hd)]
      · rw [if_neg hd, if_neg fun e => hd ((xd_step hh hb hj e1 e2).1 e)]
def stg (f : Nat → FZ) (l p : Nat) : FZ := lw f l (p / 2 ^ (8 - l)) (p % 2 ^ (8 - l))
theorem stg_first (f : Nat → FZ) (p : Nat) (hp : p < 256) : stg f 0 p = f p := by
  unfold stg
  rw [lw_first, show 2 ^ (8 - 0) = 256 from rfl, Nat.mod_eq_of_lt hp]
theorem stg_last (f : Nat → FZ) (p : Nat) (hp : p < 256) : stg f 7 p = fwd f p := by
  unfold stg
  rw [show 2 ^ (8 - 7) = 2 from rfl, lw_last _ _ _ (by omega)]
  rfl
theorem lev_facts (l p : Nat) (hl : l < 7) (hp : p < 256) :
    Hf (2 ^ (7 - l)) ∧ 2 ^ (8 - l) = 2 * 2 ^ (7 - l) ∧ 2 ^ (8 - (l + 1)) = 2 ^ (7 - l) ∧ p / (2 * 2 ^ (7 - l)) < 2 ^ l ∧
    (p % (2 * 2 ^ (7 - l)) < 2 ^ (7 - l) → p / 2 ^ (7 - l) = 2 * (p / (2 * 2 ^ (7 - l))) ∧ p % 2 ^ (7 - l) = p % (2 * 2 ^ (7 - l)) ∧ (p + 2 ^ (7 - l)) / (2 * 2 ^ (7 - l)) = p / (2 * 2 ^ (7 - l)) ∧ (p + 2 ^ (7 - l)) % (2 * 2 ^ (7 - l)) = p % (2 * 2 ^ (7 - l)) + 2 ^ (7 - l) ∧ p + 2 ^ (7 - l) < 256 ∧
      (p + 2 ^ (7 - l)) / 2 ^ (7 - l) = 2 * (p / (2 * 2 ^ (7 - l))) + 1 ∧ (p + 2 ^ (7 - l)) % 2 ^ (7 - l) = p % (2 * 2 ^ (7 - l))) ∧
    (¬ p % (2 * 2 ^ (7 - l)) < 2 ^ (7 - l) → ∃ q, p = q + 2 ^ (7 - l) ∧ q % (2 * 2 ^ (7 - l)) < 2 ^ (7 - l) ∧ q < 256 ∧ q / (2 * 2 ^ (7 - l)) = p / (2 * 2 ^ (7 - l))) := by
  unfold Hf
  have hq : ∀ n, ¬ p % (2 * n) < n → n = 128 ∨ n = 64 ∨ n = 32 ∨ n = 16 ∨ n = 8 ∨ n = 4 ∨ n = 2 → ∃ q, p = q + n ∧ q % (2 * n) < n ∧ q < 256 ∧ q / (2 * n) = p / (2 * n) := by
    intro n h1 h2
    refine ⟨p - n, ?_⟩
    rcases h2 with rfl | rfl | rfl | rfl | rfl | rfl | rfl <;> omega
  have : l = 0 ∨ l = 1 ∨ l = 2 ∨ l = 3 ∨ l = 4 ∨ l = 5 ∨ l = 6 := by omega
  rcases this with rfl | rfl | rfl | rfl | rfl | rfl | rfl <;> refine ⟨by decide, by decide, by decide, ?_, ?_, fun h => hq _ h (by decide)⟩ <;> simp only [Nat.reducePow, Nat.reduceSub, Nat.reduceMul] <;> omega
def sp1 (z a b : FZ) : FZ := a + z * b
def sp2 (z a b : FZ) : FZ := a - z * b
def jn1 (z a b : FZ) : FZ := a + b
def jn2 (z a b : FZ) : FZ := z * (b - a)
theorem xg_fwd (f : Nat → FZ) (l p : Nat) (hl : l < 7) (hp : p < 256) : xg (2 ^ (7 - l)) (fun b => zt (2 ^ l + b)) sp1 sp2 (stg f l) p = stg f (l + 1) p := by
  obtain ⟨-, e1, e2, hb, hlo, hhi⟩ := lev_facts l p hl hp
  unfold xg
  by_cases h : p % (2 * 2 ^ (7 - l)) < 2 ^ (7 - l)
  · obtain ⟨d1, d2, d3, d4, -⟩ := hlo h
    rw [if_pos h]
    unfold sp1 stg
    rw [e1, e2, d1, d2, d3, d4, lw_even _ _ _ _ hl hb]
  · obtain ⟨q, rfl, hq1, hq2, hq3⟩ := hhi h
    obtain ⟨-, -, -, hbq, hlq, -⟩ := lev_facts l q hl hq2
    obtain ⟨d1, d2, d3, d4, d5, d6, d7⟩ := hlq hq1
    rw [if_neg h, Nat.add_sub_cancel]
    unfold sp2 stg
    rw [e1, e2, d6, d7, d3, d4, lw_odd _ _ _ _ hl hbq]
theorem zt_back : ∀ l : Fin 7, ∀ b : Fin 64, b.val < 2 ^ l.val → zt (2 ^ (l.val + 1) - 1 - b.val) * zt (2 ^ l.val + b.val) = -1 := by decide +kernel
theorem xg_inv (f : Nat → FZ) (c : FZ) (l p : Nat) (hl : l < 7) (hp : p < 256) : xg (2 ^ (7 - l)) (fun b => zt (2 ^ (l + 1) - 1 - b)) jn1 jn2 (fun p => c * stg f (l + 1) p) p = 2 * c * stg f l p := by
  obtain ⟨-, e1, e2, hb, hlo, hhi⟩ := lev_facts l p hl hp
  unfold xg
  by_cases h : p % (2 * 2 ^ (7 - l)) < 2 ^ (7 - l)
  · obtain ⟨d1, d2, d3, d4, d5, d6, d7⟩ := hlo h
    rw [if_pos h]
    unfold jn1 stg
    dsimp only
    rw [e1, e2, d1, d2, d6, d7, lw_even _ _ _ _ hl hb, lw_odd _ _ _ _ hl hb]
    generalize lw f l _ _ = a
    generalize zt _ * _ = b
    grind -lia
  · obtain ⟨q, rfl, hq1, hq2, hq3⟩ := hhi h
    obtain ⟨-, -, -, hbq, hlq, -⟩ := lev_facts l q hl hq2
    obtain ⟨d1, d2, d3, d4, d5, d6, d7⟩ := hlq hq1
    rw [if_neg h, Nat.add_sub_cancel]
    unfold jn2 stg
    dsimp only
    rw [e1, e2, d6, d7, d3, d4, d1, d2, lw_even _ _ _ _ hl hbq, lw_odd _ _ _ _ hl hbq]
    have h64 : q / (2 * 2 ^ (7 - l)) < 64 := Nat.lt_of_lt_of_le hbq (Nat.pow_le_pow_right (by decide) (by omega : l ≤ 6))
    have hz := zt_back ⟨l, hl⟩ ⟨_, h64⟩ hbq
    simp only at hz
    generalize zt (2 ^ (l + 1) - 1 - _) = z' at hz
    generalize zt (2 ^ l + _) = z at hz
    generalize lw f l (q / (2 * 2 ^ (7 - l))) (q % (2 * 2 ^ (7 - l))) = a
    generalize lw f l _ _ = b
    grind -lia
theorem inv_end (g : Nat → FZ) (p : Nat) (hp : p < 256) : 3303 * (128 * stg (inw g) 0 p) = inw g p := by
  rw [stg_first _ _ hp]
  generalize inw g p = a
  have : (3303 : FZ) * 128 = 1 := by decide
  grind -lia
end Go.Proofs.YtnjdpnhkphfnbaaGreatDoor

namespace Go.Proofs.YtnjdpnhkphfnbaaGreatDoor
open Go.ChangeShapes Go.WideShapes Go.ChangeAt Go.RowKit
set_option linter.unusedSimpArgs false
set_option linter.unusedVariables false

abbrev poC (f : Nat → FZ) : List Value := (gI (fzF f)).map (Value.int .i64)
theorem poC_length (f : Nat → FZ) : (poC f).length = 256 := by rw [List.length_map, gI_length]
def prC13 (g : Nat → Nat → FZ) : Nat → List Value
  | 0 => []
  | i + 1 => prC13 g i ++ poC (g i)
theorem prC13_length (g : Nat → Nat → FZ) : ∀ i, (prC13 g i).length = 256 * i
  | 0 => rfl
  | i + 1 => by
    rw [prC13, List.length_append, prC13_length g i, poC_length]
    omega
theorem prC13_split (g : Nat → Nat → FZ) (j : Nat) : ∀ n, j < n → ∃ post, prC13 g n = prC13 g j ++ poC (g j) ++ post
  | 0, h => by omega
  | n + 1, h => by
    by_cases e : j = n
    · subst e
      exact ⟨[], by rw [List.append_nil]; rfl⟩
    · obtain ⟨post, hp⟩ := prC13_split g j n (by omega)
      exact ⟨post ++ poC (g n), by rw [prC13, hp, List.append_assoc]⟩
abbrev rwC (g : Nat → Nat → FZ) : List Value := prC13 g 3
abbrev rwV (g : Nat → Nat → FZ) : Value := .agg (rwC g).toArray
theorem poC_one (f : Nat → FZ) : ∀ v ∈ poC f, v.oneCell' = true := by
  intro v hv
  obtain ⟨x, _, rfl⟩ := List.mem_map.1 hv
  rfl
theorem poC_all (f : Nat → FZ) : (poC f).toArray.all (·.oneCell') = true := all_oneCell_toArray (poC_one f)
theorem prC13_one (g : Nat → Nat → FZ) : ∀ n, ∀ v ∈ prC13 g n, v.oneCell' = true
  | 0, v, hv => by cases hv
  | n + 1, v, hv => by
    rcases List.mem_append.1 hv with h | h
    · exact prC13_one g n v h
    · exact poC_one _ v h
theorem rwC_all (g : Nat → Nat → FZ) : (rwC g).toArray.all (·.oneCell') = true := all_oneCell_toArray (prC13_one g 3)
theorem prC13_congr {g h : Nat → Nat → FZ} : ∀ n, (∀ i, i < n → g i = h i) → prC13 g n = prC13 h n
  | 0, _ => rfl
  | n + 1, e => by rw [prC13, prC13, prC13_congr n (fun i hi => e i (by omega)), e n (by omega)]
def ftR (g : Nat → Nat → FZ) (i j : Nat) : Nat → FZ := if j < i then g j else fun _ => 0
theorem ftR_zero (g : Nat → Nat → FZ) : ftR g 0 = fun _ _ => 0 := by
  funext j
  unfold ftR
  rw [if_neg (by omega)]
theorem ftR_end (g : Nat → Nat → FZ) : rwC (ftR g 3) = rwC g := prC13_congr 3 fun i hi => by
  unfold ftR
  rw [if_pos hi]
theorem ftR_step (g : Nat → Nat → FZ) (i : Nat) (hi : i < 3) : ∃ post, rwC (ftR g i) = prC13 g i ++ poC (fun _ => 0) ++ post ∧ rwC (ftR g (i + 1)) = prC13 g i ++ poC (g i) ++ post := by
  have h0 : prC13 (ftR g i) i = prC13 g i := prC13_congr i fun j hj => by unfold ftR; rw [if_pos hj]
  have h1 : prC13 (ftR g (i + 1)) i = prC13 g i := prC13_congr i fun j hj => by unfold ftR; rw [if_pos (by omega)]
  have e0 : ftR g i i = fun _ => 0 := by unfold ftR; rw [if_neg (by omega)]
  have e1 : ftR g (i + 1) i = g i := by unfold ftR; rw [if_pos (by omega)]
  have e2 : ∀ j, i < j → ftR g i j = ftR g (i + 1) j := fun j hj => by unfold ftR; rw [if_neg (by omega), if_neg (by omega)]
  have key : ∀ n, i < n → ∃ post, prC13 (ftR g i) n = prC13 g i ++ poC (fun _ => 0) ++ post ∧ prC13 (ftR g (i + 1)) n = prC13 g i ++ poC (g i) ++ post := by
    intro n
    induction n with
    | zero => intro h; omega
    | succ n ih =>
      intro h
      by_cases e : n = i
      · subst e
        exact ⟨[], by rw [prC13, h0, e0, List.append_nil], by rw [prC13, h1, e1, List.append_nil]⟩
      · obtain ⟨post, p1, p2⟩ := ih (by omega)
        exact ⟨post ++ poC (ftR g (i + 1) n), by rw [prC13, p1, e2 n (by omega), List.append_assoc], by rw [prC13, p2, List.append_assoc]⟩
  exact key 3 hi
theorem wpList_box_val {P : Program} {ops : Array Oper} {rest : List Oper} {op : Oper} {a : Act} {w : World} {Q : Exit → Act → World → Prop} (hgd : op.guard = none) (ty : TypeId) (x : Operand) (ho : op.op = .box ty x) (v : Value)
    (hx : a.eval x = v) (hrun : (Instr.box ty v).run P w = .ok (.pointer (some ⟨w.heap.size, 0, none⟩)) (w.alloc (.cells #[v] ty)))
    (h : ∀ w', BlkAt w.heap.size ty [v] w' → Below w.heap.size w w' → Hid (w'.heap.size = w.heap.size + 1) → wpList P ops Q rest (a.put op.dst (.pointer (some ⟨w.heap.size, 0, none⟩))) w') : wpList P ops Q (op :: rest) a w := by
  refine wpList_plain hgd fun K hK => ?_
  unfold Oper.wp execOp
  simp only [ho, hx, Sem.run_bind, hrun, Result.andThen_ok, Sem.run_pure]
  exact hK _ _ (h _ (BlkAt.fresh rfl rfl) (growB _) (show _ = _ by simp))
theorem BlkAt.one {g : Nat} {ty : TypeId} {v : Value} {w : World} (h : BlkAt g ty [v] w) : w.cell? ⟨g, 0, none⟩ = some v := by rw [h.cell]; rfl
end Go.Proofs.YtnjdpnhkphfnbaaGreatDoor
