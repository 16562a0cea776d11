/- Rows of any kind of element, made by a call and growing side by side: what they hold, how they grow, how an element is loaded. No program's text is named. -/
import Derived.Test.YtkljklfejaojaaaBlk
namespace Go.Proofs.Ytkljklfejaojaaa
open Go.ChangeShapes Go.WideShapes Go.ChangeAt Go.RowKit
set_option linter.unusedSimpArgs false
set_option linter.unusedVariables false

theorem own_chgG {S : Nat → Prop} {w w' : World} {base sz : Nat} {e : TypeId} {v : Value} {n : Nat} {xs : List Value} (h : w.ownsRow base e sz v n xs) (c : Chg S w w') (hS : ∀ g, v.ownBlock = some g → ¬ S g) : w'.ownsRow base e sz v n xs := by
  refine ⟨h.1, h.2.imp id ?_⟩
  rintro ⟨g, cap, cur, rfl, h2, h3, h4⟩
  refine ⟨g, cap, cur, rfl, h2, ?_, h4⟩
  rw [c.block g (Array.getElem?_eq_some_iff.1 h3).1 (hS g rfl), h3]
theorem own_monoG {w : World} {base base' sz : Nat} {e : TypeId} {v : Value} {n : Nat} {xs : List Value} (h : w.ownsRow base e sz v n xs) (hb : base' ≤ base) : w.ownsRow base' e sz v n xs := by
  refine ⟨h.1, h.2.imp id ?_⟩
  rintro ⟨g, cap, cur, rfl, h2, h3⟩
  exact ⟨g, cap, cur, rfl, Nat.le_trans hb h2, h3⟩
theorem own_keptG {w w' : World} {base sz : Nat} {e : TypeId} {v : Value} {n : Nat} {xs : List Value} (h : w.ownsRow base e sz v n xs) (hb : Below w.heap.size w w') : w'.ownsRow base e sz v n xs :=
  own_chgG h (Chg.of_below (S := fun _ => False) hb) fun _ _ => id
theorem append_nearG {P : Program} (wr : World) (base : Nat) (t ty e : TypeId) (i : TypeInfo) (z : Value) (size bytes : Nat) (ht : P.underlying t = some (.slice e)) (hi : P.info? e = some i) (hz : i.zero = some z) (hsize : i.size = size) (hby : i.bytes = bytes)
    (v : Value) (n : Nat) (xs : List Value) (hown : wr.ownsRow base e size v n xs) (ad : Addr) (m c : Nat) (news : List Value) (hl : news.length = m * size) (hnews : ∀ j u, news[j]? = some u → wr.cell? (ad.add j) = some u) (h1 : ∀ u ∈ news, u.oneCell' = true)
    (h63 : n + m ≤ maxLen) (hbytes : (n + m) * bytes ≤ 140737488355328) (v' : Value) (w' : World) (hr : (Builtin.append_ #[t, t] ty #[v, .slice (some ad) m c]).run P wr = .ok v' w') (hnil : v' = .slice none 0 0 ↔ v = .slice none 0 0 ∧ m = 0) : Near wr v v' := by
  subst hsize hby
  have hsmall : n + m ≤ 9223372036854775807 := by simp only [maxLen] at h63; omega
  rcases hown.2 with ⟨rfl, h0⟩ | ⟨g, cap, cur, rfl, hb, hg, hn, hm, hss, htk⟩
  · subst h0
    by_cases hm0 : m = 0
    · left
      rw [hnil.2 ⟨rfl, hm0⟩]
    · right
      have := run_append_nil (P := P) wr t ty e i _ ht hi hz ad m c news hl hnews (by omega) (by omega) (by rw [Nat.zero_add] at hbytes; omega)
      rw [this] at hr
      simp only [Result.ok.injEq] at hr
      intro g hg
      rw [← hr.1] at hg
      simp only [Value.ownBlock, Option.some.injEq] at hg
      omega
  · by_cases hroom : n + m ≤ cap
    · left
      have hfit : n * i.size + news.length ≤ cur.size := by rw [hl, hss, ← Nat.add_mul]; exact Nat.mul_le_mul_right _ hroom
      have := run_append_room (P := P) wr t ty e i ht hi g n cap cur hg ad m c news hl hnews h1 hroom hfit
      rw [this] at hr
      simp only [Result.ok.injEq] at hr
      rw [← hr.1]
      rfl
    · right
      have := run_append_grow (P := P) wr t ty e i _ ht hi hz ⟨g, 0, none⟩ n cap xs hown.1 (fun j u hj => hown.cells rfl j u hj) ad m c news hl hnews (by omega) (by omega) (growslice_fits (by omega) hbytes)
      rw [this] at hr
      simp only [Result.ok.injEq] at hr
      intro g' hg'
      rw [← hr.1] at hg'
      simp only [Value.ownBlock, Option.some.injEq] at hg'
      omega
/-- A row: the block's type, an element's cells, the value, how many elements, all cells. -/
structure Rw where
  ty : TypeId
  sz : Nat
  v : Value
  n : Nat
  xs : List Value
/-- A row of bytes. -/
def Rw.by (e : TypeId) (v : Value) (l : List UInt8) : Rw := ⟨e, 1, v, l.length, l.map bv⟩
/-- Rows that were made since w0, none of which lies where another one lies; of what was there at w0 nothing has changed. -/
structure OwnG (w0 : World) (L : List Rw) (w : World) : Prop where
  rows : ∀ p ∈ L, w.ownsRow w0.heap.size p.ty p.sz p.v p.n p.xs
  apart : L.Pairwise fun p q => Apart p.v q.v
  below : Below w0.heap.size w0 w
theorem OwnG.start (w0 : World) : OwnG w0 [] w0 := ⟨(fun p hp => by cases hp), .nil, Below.refl _ _⟩
theorem OwnG.since {w0 w : World} (h : Below w0.heap.size w0 w) : OwnG w0 [] w := ⟨(fun p hp => by cases hp), .nil, h⟩
theorem OwnG.kept {w0 w w' : World} {L : List Rw} (h : OwnG w0 L w) (hb : Below w.heap.size w w') : OwnG w0 L w' :=
  ⟨fun p hp => own_keptG (h.rows p hp) hb, h.apart, stepB h.below hb⟩
theorem OwnG.drew {w0 w : World} {L : List Rw} (h : OwnG w0 L w) : OwnG w0 L w.drew := h.kept (Below.refl _ _).drew
theorem OwnG.perm {w0 w : World} {L L' : List Rw} (h : OwnG w0 L w) (hp : L'.Perm L) : OwnG w0 L' w :=
  ⟨fun p hp' => h.rows p (hp.subset hp'), (hp.pairwise_iff (fun h => h.symm)).2 h.apart, h.below⟩
theorem OwnG.tail {w0 w : World} {p : Rw} {L : List Rw} (h : OwnG w0 (p :: L) w) : OwnG w0 L w :=
  ⟨fun q hq => h.rows q (List.mem_cons_of_mem _ hq), (List.pairwise_cons.1 h.apart).2, h.below⟩
theorem OwnG.swap {w0 w : World} {p q : Rw} {L : List Rw} (h : OwnG w0 (p :: q :: L) w) : OwnG w0 (q :: p :: L) w := h.perm (List.Perm.swap ..)
theorem OwnG.third {w0 w : World} {p q r : Rw} {L : List Rw} (h : OwnG w0 (p :: q :: r :: L) w) : OwnG w0 (r :: p :: q :: L) w :=
  h.perm ((List.Perm.swap p r (q :: L)).trans (List.Perm.cons p (List.Perm.swap q r L)))
theorem OwnG.rd {w0 w : World} {e : TypeId} {v : Value} {l : List UInt8} {L : List Rw} (h : OwnG w0 L w) (hp : Rw.by e v l ∈ L) : Rd w v l := Rd.of_row (h.rows _ hp)
theorem OwnG.rd0 {w0 w : World} {e : TypeId} {v : Value} {l : List UInt8} {L : List Rw} (h : OwnG w0 (Rw.by e v l :: L) w) : Rd w v l := h.rd (List.mem_cons_self ..)
/-- Nothing yet. -/
theorem OwnG.nil {w0 w : World} (ty : TypeId) (sz : Nat) {L : List Rw} (h : OwnG w0 L w) : OwnG w0 (⟨ty, sz, .slice none 0 0, 0, []⟩ :: L) w :=
  ⟨fun p hp => by
    rcases List.mem_cons.1 hp with rfl | hp
    · exact World.ownsRow_nil _ _ _ _
    · exact h.rows p hp, List.pairwise_cons.2 ⟨fun q _ => Apart.nil _, h.apart⟩, h.below⟩
theorem OwnG.nilB {w0 w : World} (ty : TypeId) {L : List Rw} (h : OwnG w0 L w) : OwnG w0 (Rw.by ty (.slice none 0 0) [] :: L) w := h.nil ty 1
/-- What a call gives in new memory lies apart from all others. -/
theorem OwnG.fresh {w0 w w' : World} {p : Rw} {L : List Rw} (h : OwnG w0 L w) (hN : w'.ownsRow w.heap.size p.ty p.sz p.v p.n p.xs) (hb : Below w.heap.size w w') : OwnG w0 (p :: L) w' := by
  have hk := h.kept hb
  refine ⟨fun q hq => ?_, List.pairwise_cons.2 ⟨fun q hq => ?_, h.apart⟩, hk.below⟩
  · rcases List.mem_cons.1 hq with rfl | hq
    · exact own_monoG hN h.below.size
    · exact hk.rows q hq
  · refine Apart.symm (Apart.lt (B := w.heap.size) (fun g hg => ((h.rows q hq).lt g hg).2) fun g hg => (hN.lt g hg).1)
theorem OwnG.new {w0 w w' : World} {e : TypeId} {v : Value} {l : List UInt8} {L : List Rw} (h : OwnG w0 L w) (hN : New e w v l w') : OwnG w0 (Rw.by e v l :: L) w' := h.fresh hN.1 hN.2
theorem OwnG.toNew {w0 w : World} {e : TypeId} {v : Value} {l : List UInt8} {L : List Rw} (h : OwnG w0 (Rw.by e v l :: L) w) : New e w0 v l w := ⟨h.rows _ (List.mem_cons_self ..), h.below⟩
/-- A block that is none of them is written. -/
theorem OwnG.wrote {w0 w w' : World} {g : Nat} {L : List Rw} (h : OwnG w0 L w) (hw : Wrote g w w') (hg : w0.heap.size ≤ g) (hn : ∀ p ∈ L, ∀ b, p.v.ownBlock = some b → b ≠ g) : OwnG w0 L w' :=
  ⟨fun p hp => own_chgG (h.rows p hp) (Chg.of_wrote hw) fun b hb e => hn p hp b hb e, h.apart, hw.below _ _ hg h.below⟩
theorem OwnG.lt {w0 w : World} {L : List Rw} (h : OwnG w0 L w) : ∀ p ∈ L, ∀ b, p.v.ownBlock = some b → b < w.heap.size := fun p hp b hb => ((h.rows p hp).lt b hb).2
/-- Told of an older world. -/
theorem OwnG.from {w0 w1 w : World} {L : List Rw} (h : OwnG w1 L w) (hb : Below w0.heap.size w0 w1) : OwnG w0 L w :=
  ⟨fun p hp => own_monoG (h.rows p hp) hb.size, h.apart, hb.trans (h.below.mono hb.size)⟩
/-- The first one has grown. -/
theorem OwnG.grown {w0 wr w' : World} {p p' : Rw} {L : List Rw} (h : OwnG w0 (p :: L) wr) (h1 : w'.ownsRow w0.heap.size p'.ty p'.sz p'.v p'.n p'.xs) (hg : wr.grownBy w' p.v.ownBlock) (hn : Near wr p.v p'.v) : OwnG w0 (p' :: L) w' := by
  have hp := List.pairwise_cons.1 h.apart
  have hv := h.rows p (List.mem_cons_self ..)
  refine ⟨fun q hq => ?_, List.pairwise_cons.2 ⟨fun q hq => ?_, hp.2⟩, h.below.grown hg h.below.size fun k hk => (hv.lt k hk).1⟩
  · rcases List.mem_cons.1 hq with rfl | hq
    · exact h1
    · exact own_chgG (h.rows q (List.mem_cons_of_mem _ hq)) (Chg.of_grown hg) fun g hg' e => hp.1 q hq g e.symm hg'
  · exact Apart.near hn (hp.1 q hq) fun g hg' => ((h.rows q (List.mem_cons_of_mem _ hq)).lt g hg').2
/-- Bytes are appended to the first one. -/
theorem wp_append_G {P : Program} {e : TypeId} {w0 wr : World} {L : List Rw} {o : Oper} {a : Act} {K : Act → World → Prop} {Q : Exit → Act → World → Prop} (s x : Operand) (t : TypeId)
    (ho : o.op = .call { callee := .builtin .append, args := #[s, x], argTypes := #[t, t] }) (ht : P.underlying t = some (.slice e))
    (hinfo : (P.info? e).map (fun i => (i.zero, i.size, i.bytes)) = some (some (.int .u8 0), 1, 1)) (v : Value) (l : List UInt8) (hs : a.eval s = v) (hO : OwnG w0 (Rw.by e v l :: L) wr)
    (vx : Value) (l2 : List UInt8) (hx : a.eval x = vx) (hR : Rd wr vx l2) (hlen : l.length + l2.length ≤ 140737488355328)
    (h : ∀ v' w', OwnG w0 (Rw.by e v' (l ++ l2) :: L) w' → Chg (fun b => some b = v.ownBlock) wr w' → K (a.put o.dst v') w') : o.wp P a wr K Q :=
  wp_append_base s x t ho e ht hinfo v l hs (hO.rows _ (List.mem_cons_self ..)) hO.below.size vx l2 hx hR hlen fun v' w' h1 h2 h3 => h v' w' (hO.grown (p' := Rw.by e v' (l ++ l2)) h1 h2 h3) (Chg.of_grown h2)
theorem wpList_append_G {P : Program} {e : TypeId} {w0 wr : World} {L : List Rw} {ops : Array Oper} {rest : List Oper} {o : Oper} {a : Act} {Q : Exit → Act → World → Prop} (hg : o.guard = none) (s x : Operand) (t : TypeId)
    (ho : o.op = .call { callee := .builtin .append, args := #[s, x], argTypes := #[t, t] }) (ht : P.underlying t = some (.slice e))
    (hinfo : (P.info? e).map (fun i => (i.zero, i.size, i.bytes)) = some (some (.int .u8 0), 1, 1)) (v : Value) (l : List UInt8) (hs : a.eval s = v) (hO : OwnG w0 (Rw.by e v l :: L) wr)
    (vx : Value) (l2 : List UInt8) (hx : a.eval x = vx) (hR : Rd wr vx l2) (hlen : l.length + l2.length ≤ 140737488355328)
    (h : ∀ v' w', OwnG w0 (Rw.by e v' (l ++ l2) :: L) w' → Chg (fun b => some b = v.ownBlock) wr w' → wpList P ops Q rest (a.put o.dst v') w') : wpList P ops Q (o :: rest) a wr :=
  wpList_plain hg fun _ hK => wp_append_G s x t ho ht hinfo v l hs hO vx l2 hx hR hlen fun v' w' h1 h2 => hK _ _ (h v' w' h1 h2)
/-- Elements of any kind are appended to the first one. -/
theorem wp_append_E {P : Program} {w0 wr : World} {L : List Rw} {o : Oper} {a : Act} {K : Act → World → Prop} {Q : Exit → Act → World → Prop} (s x : Operand) (t : TypeId)
    (ho : o.op = .call { callee := .builtin .append, args := #[s, x], argTypes := #[t, t] }) (e : TypeId) (i : TypeInfo) (z : Value) (size bytes : Nat) (ht : P.underlying t = some (.slice e)) (hi : P.info? e = some i) (hz : i.zero = some z)
    (hsize : i.size = size) (hby : i.bytes = bytes) (hzs : z.cells.size = size) (hsz : 0 < size) (v : Value) (n : Nat) (xs : List Value) (hs : a.eval s = v) (hO : OwnG w0 (⟨e, size, v, n, xs⟩ :: L) wr)
    (ad : Addr) (m c : Nat) (news : List Value) (hx : a.eval x = .slice (some ad) m c) (hl : news.length = m * size) (hnews : ∀ j u, news[j]? = some u → wr.cell? (ad.add j) = some u) (h1 : ∀ u ∈ news, u.oneCell' = true)
    (h63 : n + m ≤ maxLen) (hbytes : (n + m) * bytes ≤ 140737488355328)
    (h : ∀ v' w', OwnG w0 (⟨e, size, v', n + m, xs ++ news⟩ :: L) w' → Chg (fun b => some b = v.ownBlock) wr w' → K (a.put o.dst v') w') : o.wp P a wr K Q := by
  have hown := hO.rows _ (List.mem_cons_self ..)
  obtain ⟨v', w', hr, r2, r3, r4⟩ := run_append_own (P := P) wr w0.heap.size t o.type e i z size bytes ht hi hz hsize hby hzs hsz v n xs hown ad m c news hl hnews h1 h63 hbytes hO.below.size
  have hnear := append_nearG wr w0.heap.size t o.type e i z size bytes ht hi hz hsize hby v n xs hown ad m c news hl hnews h1 h63 hbytes v' w' hr r4
  unfold Oper.wp execOp
  simp only [ho, resolve, invoke, builtin, Sem.run_bind, Sem.run_pure, Result.andThen_ok, List.map_toArray, List.map_cons, List.map_nil, hs, hx, hr]
  exact h v' w' (hO.grown (p' := ⟨e, size, v', n + m, xs ++ news⟩) r2 r3 hnear) (Chg.of_grown r3)
theorem wpList_append_E {P : Program} {w0 wr : World} {L : List Rw} {ops : Array Oper} {rest : List Oper} {o : Oper} {a : Act} {Q : Exit → Act → World → Prop} (hg : o.guard = none) (s x : Operand) (t : TypeId)
    (ho : o.op = .call { callee := .builtin .append, args := #[s, x], argTypes := #[t, t] }) (e : TypeId) (i : TypeInfo) (z : Value) (size bytes : Nat) (ht : P.underlying t = some (.slice e)) (hi : P.info? e = some i) (hz : i.zero = some z)
    (hsize : i.size = size) (hby : i.bytes = bytes) (hzs : z.cells.size = size) (hsz : 0 < size) (v : Value) (n : Nat) (xs : List Value) (hs : a.eval s = v) (hO : OwnG w0 (⟨e, size, v, n, xs⟩ :: L) wr)
    (ad : Addr) (m c : Nat) (news : List Value) (hx : a.eval x = .slice (some ad) m c) (hl : news.length = m * size) (hnews : ∀ j u, news[j]? = some u → wr.cell? (ad.add j) = some u) (h1 : ∀ u ∈ news, u.oneCell' = true)
    (h63 : n + m ≤ maxLen) (hbytes : (n + m) * bytes ≤ 140737488355328)
    (h : ∀ v' w', OwnG w0 (⟨e, size, v', n + m, xs ++ news⟩ :: L) w' → Chg (fun b => some b = v.ownBlock) wr w' → wpList P ops Q rest (a.put o.dst v') w') : wpList P ops Q (o :: rest) a wr :=
  wpList_plain hg fun _ hK => wp_append_E s x t ho e i z size bytes ht hi hz hsize hby hzs hsz v n xs hs hO ad m c news hx hl hnews h1 h63 hbytes fun v' w' h1 h2 => hK _ _ (h v' w' h1 h2)
/-- Where an element lies. -/
theorem own_elem {w : World} {base sz : Nat} {e : TypeId} {v : Value} {n : Nat} {xs : List Value} (h : w.ownsRow base e sz v n xs) {j : Nat} (hj : j < n) (pre mid post : List Value) (hx : xs = pre ++ mid ++ post) :
    ∃ g cap more, v = .slice (some ⟨g, 0, none⟩) n cap ∧ n ≤ cap ∧ cap ≤ maxLen ∧ base ≤ g ∧ BlkAt g e (pre ++ mid ++ more) w := by
  rcases h.2 with ⟨_, h0⟩ | ⟨g, cap, cur, hv, hb, hg, hn, hm, hss, htk⟩
  · omega
  · refine ⟨g, cap, post ++ cur.toList.drop (n * sz), hv, hn, hm, hb, ?_⟩
    have e1 : pre ++ mid ++ (post ++ cur.toList.drop (n * sz)) = cur.toList := by
      rw [← List.append_assoc, ← hx, ← htk, List.take_append_drop]
    unfold BlkAt
    rw [e1, hg]
end Go.Proofs.Ytkljklfejaojaaa
