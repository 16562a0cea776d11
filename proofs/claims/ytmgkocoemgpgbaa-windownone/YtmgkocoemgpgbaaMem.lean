/- Blocks of memory held whole: what a block holds, how it is written in part, and what stays when only some blocks change. No program's text is named. -/
import Derived.Test.YtmgkocoemgpgbaaLibA
import Derived.Test.YtmgkocoemgpgbaaArr2
import Derived.Laws.CopyOwn
namespace Go.Proofs.Ytmgkocoemgpgbaa
open Go.ChangeShapes Go.WideShapes Go.ChangeAt Go.RowKit
set_option linter.unusedSimpArgs false
set_option linter.unusedVariables false

/-- Of the blocks that were there only those of S may have changed. -/
structure Chg (S : Nat → Prop) (w w' : World) : Prop where
  os : w'.os = w.os
  tape : w'.tape = w.tape
  output : w'.output = w.output
  size : w.heap.size ≤ w'.heap.size
  block : ∀ k, k < w.heap.size → ¬ S k → w'.heap[k]? = w.heap[k]?
theorem Chg.refl (S : Nat → Prop) (w : World) : Chg S w w := ⟨rfl, rfl, rfl, Nat.le_refl _, fun _ _ _ => rfl⟩
theorem Chg.trans {S : Nat → Prop} {a b c : World} (h : Chg S a b) (k : Chg S b c) : Chg S a c :=
  ⟨k.os.trans h.os, k.tape.trans h.tape, k.output.trans h.output, Nat.le_trans h.size k.size, fun i hi hs => (k.block i (Nat.lt_of_lt_of_le hi h.size) hs).trans (h.block i hi hs)⟩
theorem Chg.mono {S T : Nat → Prop} {a b : World} (h : Chg S a b) (hS : ∀ k, k < a.heap.size → S k → T k) : Chg T a b := ⟨h.os, h.tape, h.output, h.size, fun i hi hs => h.block i hi fun x => hs (hS i hi x)⟩
theorem Chg.of_below {S : Nat → Prop} {w w' : World} (h : Below w.heap.size w w') : Chg S w w' := ⟨h.os, h.tape, h.output, h.size, fun i hi _ => h.block i hi⟩
theorem Chg.of_wrote {g : Nat} {w w' : World} (h : Wrote g w w') : Chg (fun b => b = g) w w' := by
  have b := h.below 0 w (Nat.zero_le _) (Below.refl _ _)
  exact ⟨b.os, b.tape, b.output, b.size, fun i _ hs => h.other i hs⟩
theorem Chg.of_grown {r : Option Nat} {w w' : World} (h : w.grownBy w' r) : Chg (fun b => some b = r) w w' := ⟨h.os, h.tape, h.output, h.size, fun i hi hs => h.block i hi hs⟩
theorem Chg.drew {S : Nat → Prop} {w w' : World} (h : Chg S w w') : Chg S w w'.drew := ⟨h.os, h.tape, h.output, h.size, h.block⟩
theorem Chg.alloc {S : Nat → Prop} {w w' : World} (h : Chg S w w') (o : Obj) : Chg S w (w'.alloc o) := h.trans (.of_below (growB o))
theorem Chg.below {S : Nat → Prop} {B : Nat} {a w w' : World} (h : Below B a w) (c : Chg S w w') (hB : B ≤ w.heap.size) (hS : ∀ k, k < w.heap.size → S k → B ≤ k) : Below B a w' :=
  h.trans ⟨c.os, c.tape, c.output, c.size, fun i hi => c.block i (Nat.lt_of_lt_of_le hi hB) fun x => by
    have := hS i (Nat.lt_of_lt_of_le hi hB) x
    omega⟩
/-- What was there, but for S, is as it was: all of it, where S is nothing that was there. -/
theorem Chg.none {S : Nat → Prop} {w w' : World} (c : Chg S w w') (hS : ∀ k, k < w.heap.size → ¬ S k) : Below w.heap.size w w' := ⟨c.os, c.tape, c.output, c.size, fun i hi => c.block i hi (hS i hi)⟩
/-- Two steps: what the second one changes was changed before, or wasn't there before. -/
theorem Chg.step {S T : Nat → Prop} {a b c : World} (h : Chg S a b) (k : Chg T b c) (hT : ∀ i, i < a.heap.size → T i → S i) : Chg S a c :=
  ⟨k.os.trans h.os, k.tape.trans h.tape, k.output.trans h.output, Nat.le_trans h.size k.size, fun i hi hs => (k.block i (Nat.lt_of_lt_of_le hi h.size) fun x => hs (hT i hi x)).trans (h.block i hi hs)⟩

theorem own_chg {S : Nat → Prop} {w w' : World} {base : Nat} {e : TypeId} {v : Value} {n : Nat} {xs : List Value} (h : w.ownsRow base e 1 v n xs) (c : Chg S w w') (hS : ∀ g, v.ownBlock = some g → ¬ S g) : w'.ownsRow base e 1 v n xs := by
  refine ⟨h.1, h.2.imp id ?_⟩
  rintro ⟨g, cap, cur, rfl, h2, h3, h4⟩
  refine ⟨g, cap, cur, rfl, h2, ?_, h4⟩
  rw [c.block g (Array.getElem?_eq_some_iff.1 h3).1 (hS g rfl), h3]
theorem own_mono {w : World} {base base' : Nat} {e : TypeId} {v : Value} {n : Nat} {xs : List Value} (h : w.ownsRow base e 1 v n xs) (hb : base' ≤ base) : w.ownsRow base' e 1 v n xs := by
  refine ⟨h.1, h.2.imp id ?_⟩
  rintro ⟨g, cap, cur, rfl, h2, h3⟩
  exact ⟨g, cap, cur, rfl, Nat.le_trans hb h2, h3⟩
theorem RowAt.chg {S : Nat → Prop} {k : IntKind} {e : TypeId} {g cap : Nat} {l : List Int} {w w' : World} (h : RowAt k e g cap l w) (c : Chg S w w') (hS : ¬ S g) : RowAt k e g cap l w' := h.of_block (c.block g h.lt hS) c.size
theorem New.from {e : TypeId} {w wr w2 : World} {v : Value} {l : List UInt8} (h : New e wr v l w2) (hb : Below w.heap.size w wr) : New e w v l w2 := ⟨own_mono h.1 hb.size, hb.trans (h.2.mono hb.size)⟩

/-! ### A block and all of its cells -/
def BlkAt (g : Nat) (ty : TypeId) (cs : List Value) (w : World) : Prop := w.heap[g]? = some (.cells cs.toArray ty (0, 0))
theorem BlkAt.lt {g : Nat} {ty : TypeId} {cs : List Value} {w : World} (h : BlkAt g ty cs w) : g < w.heap.size := (Array.getElem?_eq_some_iff.1 h).1
theorem BlkAt.cell {g : Nat} {ty : TypeId} {cs : List Value} {w : World} (h : BlkAt g ty cs w) (j : Nat) : w.cell? ⟨g, j, none⟩ = cs[j]? := by
  unfold BlkAt at h
  simp [World.cell?, h]
theorem BlkAt.free {g : Nat} {ty : TypeId} {cs : List Value} {w : World} (h : BlkAt g ty cs w) (j : Nat) : w.frozen? ⟨g, j, none⟩ = false := by
  unfold BlkAt at h
  simp [World.frozen?, h]
theorem BlkAt.set {g : Nat} {ty : TypeId} {cs : List Value} {w : World} (h : BlkAt g ty cs w) (j : Nat) (v : Value) : BlkAt g ty (cs.set j v) (w.setCell ⟨g, j, none⟩ v) := by
  unfold BlkAt at h ⊢
  simp [World.setCell, Array.getElem?_modify, h]
theorem BlkAt.chg {S : Nat → Prop} {g : Nat} {ty : TypeId} {cs : List Value} {w w' : World} (h : BlkAt g ty cs w) (c : Chg S w w') (hS : ¬ S g) : BlkAt g ty cs w' := by
  unfold BlkAt at h ⊢
  rw [c.block g (Array.getElem?_eq_some_iff.1 h).1 hS, h]
theorem BlkAt.kept {g : Nat} {ty : TypeId} {cs : List Value} {w w' : World} (h : BlkAt g ty cs w) (c : Below w.heap.size w w') : BlkAt g ty cs w' := h.chg (Chg.of_below (S := fun _ => False) c) id
theorem BlkAt.drew {g : Nat} {ty : TypeId} {cs : List Value} {w : World} (h : BlkAt g ty cs w) : BlkAt g ty cs w.drew := h
theorem BlkAt.wrote {g g' : Nat} {ty : TypeId} {cs : List Value} {w w' : World} (h : BlkAt g ty cs w) (c : Wrote g' w w') (hg : g ≠ g') : BlkAt g ty cs w' := by
  unfold BlkAt at h ⊢
  rw [c.other g hg, h]
theorem BlkAt.fresh {w : World} {ty : TypeId} {cs : List Value} {c : Array Value} {b : Nat} (hc : c = cs.toArray) (hb : b = w.heap.size) : BlkAt b ty cs (w.alloc (.cells c ty)) := by
  subst hc hb
  show (w.heap.push (.cells cs.toArray ty))[w.heap.size]? = _
  simp
/-- Some cells in the middle are written. -/
theorem BlkAt.setCells {g : Nat} {ty : TypeId} : ∀ (xs pre mid post : List Value) (w : World), BlkAt g ty (pre ++ mid ++ post) w → xs.length = mid.length → BlkAt g ty (pre ++ xs ++ post) (w.setCells g pre.length xs)
  | [], pre, mid, post, w, h, hl => by
    have : mid = [] := List.eq_nil_of_length_eq_zero hl.symm
    subst this
    exact h
  | x :: xs, pre, [], post, w, h, hl => by simp at hl
  | x :: xs, pre, m :: mid, post, w, h, hl => by
    have h1 := h.set pre.length x
    rw [List.append_assoc, List.set_append_right _ _ (Nat.le_refl _), Nat.sub_self, List.cons_append, List.set_cons_zero] at h1
    have h2 := BlkAt.setCells xs (pre ++ [x]) mid post _ (by simpa using h1) (by simpa using hl)
    simpa [World.setCells] using h2
theorem BlkAt.range {g : Nat} {ty : TypeId} {w : World} {pre mid post : List Value} (h : BlkAt g ty (pre ++ mid ++ post) w) : w.rangeAt g pre.length mid := fun j v hv => by
  rw [h.cell, List.append_assoc, List.getElem?_append_right (by omega), Nat.add_sub_cancel_left, List.getElem?_append_left (by
    rcases Nat.lt_or_ge j mid.length with h | h
    · exact h
    · simp [List.getElem?_eq_none h] at hv), hv]
theorem BlkAt.there {g : Nat} {ty : TypeId} {w : World} {pre mid post : List Value} (h : BlkAt g ty (pre ++ mid ++ post) w) : w.there g pre.length mid.length := fun j hj => by
  refine ⟨?_, h.free _⟩
  rw [h.cell, List.append_assoc, List.getElem?_append_right (by omega), Nat.add_sub_cancel_left, List.getElem?_append_left hj]
  simp [hj]
/-- A part of a block that is an array or a struct, loaded as a whole. -/
theorem wpList_load_blk {P : Program} {ops : Array Oper} {rest : List Oper} {op : Oper} {a : Act} {w : World} {Q : Exit → Act → World → Prop} (hgd : op.guard = none) (ty : TypeId) (x : Operand) (ho : op.op = .load ty x)
    {g o : Nat} (hx : a.eval x = .pointer (some ⟨g, o, none⟩)) {bt : TypeId} {pre mid post : List Value} (hb : BlkAt g bt (pre ++ mid ++ post) w) (hp : pre.length = o) {d : TypeDesc}
    (hu : P.underlying ty = some d) (hd : d.isRow = true) (hi : (P.info? ty).map (·.size) = some mid.length) (h : wpList P ops Q rest (a.put op.dst (.agg mid.toArray)) w) : wpList P ops Q (op :: rest) a w := by
  subst hp
  exact wpList_load_mid hgd ty x ho g _ hx mid d hb.range hu hd hi h
/-- .. and stored as a whole. -/
theorem wpList_store_blk {P : Program} {ops : Array Oper} {rest : List Oper} {op : Oper} {a : Act} {w : World} {Q : Exit → Act → World → Prop} (hgd : op.guard = none) (ty : TypeId) (x y : Operand) (ho : op.op = .store ty x y)
    {g o : Nat} (hx : a.eval x = .pointer (some ⟨g, o, none⟩)) (xs : List Value) (hy : a.eval y = .agg xs.toArray) {bt : TypeId} {pre mid post : List Value} (hb : BlkAt g bt (pre ++ mid ++ post) w) (hp : pre.length = o)
    (hl : xs.length = mid.length) (hi : (P.info? ty).map (·.size) = some mid.length) (h1 : xs.toArray.all (·.oneCell') = true)
    (h : ∀ w', BlkAt g bt (pre ++ xs ++ post) w' → Wrote g w w' → wpList P ops Q rest (a.put op.dst undef) w') : wpList P ops Q (op :: rest) a w := by
  subst hp
  refine wpList_plain hgd fun K hK => wp_store_mid ty x y ho g _ _ hx hy (by simpa [hl] using hb.there) (by simp [hl, hi]) h1 (hK _ _ (h _ ?_ (Wrote.setCells g _ _ w)))
  exact BlkAt.setCells xs pre mid post w hb hl
/-- A part of a block, loaded as a whole in a region whose order is open. -/
theorem exec_load_blk {P : Program} {op : Oper} {a : Act} {W : World} (ty : TypeId) (x : Operand) (ho : op.op = .load ty x) {g o : Nat} (hx : a.eval x = .pointer (some ⟨g, o, none⟩))
    {bt : TypeId} {pre mid post : List Value} (hb : BlkAt g bt (pre ++ mid ++ post) W) (hp : pre.length = o) {d : TypeDesc} (hu : P.underlying ty = some d) (hd : d.isRow = true) (hi : (P.info? ty).map (·.size) = some mid.length) :
    (execOp a.eval op).run P W = .ok (.value (.agg mid.toArray)) W := by
  subst hp
  have h1 := run_loadVar_mid (P := P) W g pre.length ty mid d hb.range hu hd hi
  unfold execOp
  simp only [ho, hx, Instr.loadAt, Instr.sureAddr, Sem.run_bind, Sem.run_pure, Result.andThen_ok, h1]
/-! ### Rows of bytes that are made, and copied into -/
theorem New.made {e : TypeId} {w w1 : World} {n : Nat} (hown : w1.ownsRow w.heap.size e 1 (.slice (some ⟨w.heap.size, 0, none⟩) n n) n (madeCells #[.int .u8 0] n).toList) (hgr : w.grownBy w1 none) : New e w (.slice (some ⟨w.heap.size, 0, none⟩) n n) (List.replicate n 0) w1 := by
  have h := Fill.start (fun _ => 0) hown hgr
  have h2 : Fill e w w.heap.size n (fun _ => 0) n w1 := by
    have e1 : rowV (fun _ => 0) n 0 = rowV (fun _ => 0) n n := by
      refine List.ext_getElem (by simp [rowV]) fun i h1 h2 => ?_
      simp [rowV]
    exact ⟨e1 ▸ h.1, h.2⟩
  have h3 := h2.done
  have e2 : (List.range n).map (fun _ => (0 : UInt8)) = List.replicate n 0 := by
    refine List.ext_getElem (by simp) fun i h1 h2 => ?_
    simp
  rwa [e2] at h3
/-- Bytes copied to the head of a row of the call's own. -/
theorem wpList_copy_new {P : Program} {w wr : World} {ops : Array Oper} {rest : List Oper} {o : Oper} {a : Act} {Q : Exit → Act → World → Prop} (hg : o.guard = none) (d s : Operand) (t : TypeId)
    (ho : o.op = .call { callee := .builtin .copy, args := #[d, s], argTypes := #[t, t] }) (e : TypeId) (ht : P.underlying t = some (.slice e)) (hsz : (P.info? e).map (·.size) = some 1)
    (v : Value) (l : List UInt8) (hs : a.eval d = v) (hN : New e w v l wr) (vx : Value) (l2 : List UInt8) (hx : a.eval s = vx) (hR : Rd wr vx l2) (hlen : l2.length ≤ l.length) (hne : l ≠ [])
    (h : ∀ w', New e w v (l2 ++ l.drop l2.length) w' → wpList P ops Q rest (a.put o.dst (goInt l2.length)) w') : wpList P ops Q (o :: rest) a wr := by
  have hpos : 0 < l.length := List.length_pos_iff.2 hne
  obtain ⟨ax, cap2, rfl, h2, h3, h4, h5⟩ := hR
  rcases hN.1.2 with ⟨h', h0⟩ | ⟨g, cap, cur, rfl, hb, hgh, hn, hm, hss, htk⟩
  · omega
  have hsz2 : cur.size = cap := by simpa using hss
  have hcl : (l2.map bv).length = Nat.min l2.length l.length := by rw [List.length_map]; exact (Nat.min_eq_left hlen).symm
  refine wpList_copy_splice hg d s t t ho e ht hsz _ ax l.length cap l2.length cap2 hs hx g 0 cur.toList e (by simpa using hgh) (l2.map bv) hcl ?_ (by simp; omega) (bv_oneCell l2) _ w hN.2 hb ?_
  · intro hp
    refine ⟨rfl, ?_⟩
    rcases h5 with rfl | ⟨b, off, rfl, hc⟩
    · simp at hp
    · refine ⟨_, rfl, fun j u hj => ?_⟩
      have hjl : j < l2.length := by
        rcases Nat.lt_or_ge j l2.length with h | h
        · exact h
        · simp [List.getElem?_eq_none h] at hj
      have hplain : (⟨b, off, none⟩ : Addr).add j = ⟨b, off + j, none⟩ := by unfold Addr.add; split <;> simp_all
      rw [hplain, hc j hjl]
      simp [List.getElem?_eq_getElem hjl] at hj
      subst hj
      simp [bv, hjl]
  · intro w' hw' hb'
    rw [List.length_map]
    refine h w' ⟨⟨by simp, .inr ⟨g, cap, _, ?_, hb, hw'.out, ?_, hm, ?_, ?_⟩⟩, hb'⟩
    · rw [show (l2 ++ l.drop l2.length).length = l.length by simp; omega]
    · simp; omega
    · simp [splice]; omega
    · have e1 : cur.toList.take l.length = l.map bv := by simpa using htk
      rw [show (l2 ++ l.drop l2.length).length * 1 = l2.length + (l.length - l2.length) by simp]
      simp only [splice, List.take_zero, List.nil_append, Nat.zero_add, List.length_map]
      rw [show l2.length + (l.length - l2.length) = (l2.map bv).length + (l.length - l2.length) by simp, List.take_length_add_append, List.map_append, List.map_drop, ← e1, List.drop_take]
theorem Rd.sub {w : World} {b off n cap : Nat} {l : List UInt8} (h : Rd w (.slice (some ⟨b, off, none⟩) n cap) l) (i k : Nat) (hi : i ≤ k) (hk : k ≤ n) :
    Rd w (.slice (some ⟨b, off + i, none⟩) (k - i) (cap - i)) ((l.drop i).take (k - i)) := by
  obtain ⟨a', cap', e, h2, h3, h4, h5⟩ := h
  simp only [Value.slice.injEq] at e
  obtain ⟨rfl, rfl, rfl⟩ := e
  have hl : ((l.drop i).take (k - i)).length = k - i := by simp; omega
  refine ⟨_, _, by rw [hl], by rw [hl]; omega, by omega, (fun h => by cases h), ?_⟩
  by_cases h0 : k - i = 0
  · left
    rw [h0]
    simp
  · rcases h5 with rfl | ⟨b', off', e, hc⟩
    · simp at hk; omega
    · simp only [Option.some.injEq, Addr.mk.injEq, and_true] at e
      obtain ⟨rfl, rfl⟩ := e
      refine .inr ⟨b, off + i, rfl, fun j hj => ?_⟩
      rw [hl] at hj
      rw [show off + i + j = off + (i + j) by omega, hc (i + j) (by omega)]
      simp [hj]
theorem New.kept {e : TypeId} {w wr w2 : World} {v : Value} {l : List UInt8} (h : New e w v l wr) (hb : Below wr.heap.size wr w2) : New e w v l w2 :=
  ⟨ownsRow_below h.1 hb, h.2.trans (hb.mono h.2.size)⟩

/-! ### Appending, whatever else has changed -/
theorem append_near8 {P : Program} (wr : World) (base : Nat) (t ty e : TypeId) (i : TypeInfo) (ht : P.underlying t = some (.slice e)) (hi : P.info? e = some i) (hz : i.zero = some (.int .u8 0)) (hs1 : i.size = 1) (hby : i.bytes = 1)
    (v : Value) (n : Nat) (xs : List Value) (hown : wr.ownsRow base e 1 v n xs) (ad : Addr) (m c : Nat) (news : List Value) (hl : news.length = m) (hnews : ∀ j u, news[j]? = some u → wr.cell? (ad.add j) = some u) (h1 : ∀ u ∈ news, u.oneCell' = true)
    (h63 : n + m ≤ maxLen) (hbytes : n + m ≤ 140737488355328) (v' : Value) (w' : World) (hr : (Builtin.append_ #[t, t] ty #[v, .slice (some ad) m c]).run P wr = .ok v' w') (hnil : v' = .slice none 0 0 ↔ v = .slice none 0 0 ∧ m = 0) : Near wr v v' :=
  append_near wr base t ty e i 1 ht hi hz hs1 hby v n xs hown ad m c news hl hnews h1 h63 (by omega) v' w' hr hnil
theorem wp_append_base {P : Program} {base : Nat} {wr : World} {o : Oper} {a : Act} {K : Act → World → Prop} {Q : Exit → Act → World → Prop} (s x : Operand) (t : TypeId)
    (ho : o.op = .call { callee := .builtin .append, args := #[s, x], argTypes := #[t, t] }) (e : TypeId) (ht : P.underlying t = some (.slice e))
    (hinfo : (P.info? e).map (fun i => (i.zero, i.size, i.bytes)) = some (some (.int .u8 0), 1, 1)) (v : Value) (l : List UInt8) (hs : a.eval s = v) (hN : wr.ownsRow base e 1 v l.length (l.map bv)) (hbase : base ≤ wr.heap.size)
    (vx : Value) (l2 : List UInt8) (hx : a.eval x = vx) (hR : Rd wr vx l2) (hlen : l.length + l2.length ≤ 140737488355328)
    (h : ∀ v' w', w'.ownsRow base e 1 v' (l ++ l2).length ((l ++ l2).map bv) → wr.grownBy w' v.ownBlock → Near wr v v' → K (a.put o.dst v') w') : o.wp P a wr K Q := by
  obtain ⟨i, hi, hz0, hz1, hz2⟩ := info_parts hinfo
  obtain ⟨ax, cap, rfl, h2, h3, h4, h5⟩ := hR
  cases ax with
  | none =>
    have h0 := h4 rfl
    subst h0
    have hl2 : l2 = [] := List.eq_nil_of_length_eq_zero (by omega)
    subst hl2
    have hrun := run_append_owned_none (P := P) (w := wr) base t o.type e i 1 ht hi v l.length _ hN
    have hx' : a.eval x = .slice none 0 0 := hx
    unfold Oper.wp
    simp [execOp, ho, resolve, invoke, builtin, hs, hx', hrun, Result.andThen]
    exact h v wr (by simpa using hN) (World.grownBy.refl _ _) (.inl rfl)
  | some ad =>
    have hcells : ∀ j u, (l2.map bv)[j]? = some u → wr.cell? (ad.add j) = some u := by
      intro j u hj
      have hjl : j < l2.length := by
        rcases Nat.lt_or_ge j l2.length with h | h
        · exact h
        · simp [List.getElem?_eq_none h] at hj
      rcases h5 with rfl | ⟨b, off, e1, hc⟩
      · simp at hjl
      · simp only [Option.some.injEq] at e1
        subst e1
        have hplain : (⟨b, off, none⟩ : Addr).add j = ⟨b, off + j, none⟩ := by unfold Addr.add; split <;> simp_all
        rw [hplain, hc j hjl]
        simp [List.getElem?_eq_getElem hjl] at hj
        subst hj
        simp [bv, hjl]
    obtain ⟨v', w', hr, r2, r3, r4⟩ := run_append_own (P := P) wr base t o.type e i _ 1 1 ht hi hz0 hz1 hz2 rfl (by decide) v l.length _ hN ad l2.length cap (l2.map bv) (by simp) hcells (bv_oneCell l2) (by unfold maxLen; omega) (by omega) hbase
    have hnear := append_near8 wr base t o.type e i ht hi hz0 hz1 hz2 v l.length _ hN ad l2.length cap (l2.map bv) (by simp) hcells (bv_oneCell l2) (by unfold maxLen; omega) hlen v' w' hr r4
    unfold Oper.wp execOp
    simp only [ho, resolve, invoke, builtin, Sem.run_bind, Sem.run_pure, Result.andThen_ok, List.map_toArray, List.map_cons, List.map_nil, hs, hx, hr]
    exact h v' w' (by simpa using r2) r3 hnear
theorem wpList_append_base {P : Program} {base : Nat} {wr : World} {ops : Array Oper} {rest : List Oper} {o : Oper} {a : Act} {Q : Exit → Act → World → Prop} (hg : o.guard = none) (s x : Operand) (t : TypeId)
    (ho : o.op = .call { callee := .builtin .append, args := #[s, x], argTypes := #[t, t] }) (e : TypeId) (ht : P.underlying t = some (.slice e))
    (hinfo : (P.info? e).map (fun i => (i.zero, i.size, i.bytes)) = some (some (.int .u8 0), 1, 1)) (v : Value) (l : List UInt8) (hs : a.eval s = v) (hN : wr.ownsRow base e 1 v l.length (l.map bv)) (hbase : base ≤ wr.heap.size)
    (vx : Value) (l2 : List UInt8) (hx : a.eval x = vx) (hR : Rd wr vx l2) (hlen : l.length + l2.length ≤ 140737488355328)
    (h : ∀ v' w', w'.ownsRow base e 1 v' (l ++ l2).length ((l ++ l2).map bv) → wr.grownBy w' v.ownBlock → Near wr v v' → wpList P ops Q rest (a.put o.dst v') w') : wpList P ops Q (o :: rest) a wr :=
  wpList_plain hg fun _ hK => wp_append_base s x t ho e ht hinfo v l hs hN hbase vx l2 hx hR hlen fun v' w' h1 h2 h3 => hK _ _ (h v' w' h1 h2 h3)
theorem Apart.near {wr : World} {v v' u : Value} (hn : Near wr v v') (hap : Apart v u) (hlt : ∀ g, u.ownBlock = some g → g < wr.heap.size) : Apart v' u := by
  intro g hg hu
  rcases hn with h1 | h1
  · rw [h1] at hg
    exact hap g hg hu
  · have h2 := h1 g hg
    have h3 := hlt g hu
    omega
theorem Apart.lt {B : Nat} {v u : Value} (hv : ∀ g, v.ownBlock = some g → g < B) (hu : ∀ g, u.ownBlock = some g → B ≤ g) : Apart v u := by
  intro g h1 h2
  have := hv g h1
  have := hu g h2
  omega

/-! ### Several rows of the call's own, side by side -/
/-- Rows of bytes that were made since w0, none of which lies where another one lies; of what was there at w0 nothing has changed. -/
structure Own (e : TypeId) (w0 : World) (L : List (Value × List UInt8)) (w : World) : Prop where
  rows : ∀ p ∈ L, w.ownsRow w0.heap.size e 1 p.1 p.2.length (p.2.map bv)
  apart : L.Pairwise fun p q => Apart p.1 q.1
  below : Below w0.heap.size w0 w
theorem Own.start (e : TypeId) (w0 : World) : Own e w0 [] w0 := ⟨(fun p hp => by cases hp), .nil, Below.refl _ _⟩
theorem Own.kept {e : TypeId} {w0 w w' : World} {L : List (Value × List UInt8)} (h : Own e w0 L w) (hb : Below w.heap.size w w') : Own e w0 L w' :=
  ⟨fun p hp => ownsRow_below (h.rows p hp) hb, h.apart, stepB h.below hb⟩
theorem Own.drew {e : TypeId} {w0 w : World} {L : List (Value × List UInt8)} (h : Own e w0 L w) : Own e w0 L w.drew := h.kept (Below.refl _ _).drew
theorem Own.perm {e : TypeId} {w0 w : World} {L L' : List (Value × List UInt8)} (h : Own e w0 L w) (hp : L'.Perm L) : Own e w0 L' w :=
  ⟨fun p hp' => h.rows p (hp.subset hp'), (hp.pairwise_iff (fun h => h.symm)).2 h.apart, h.below⟩
theorem Own.tail {e : TypeId} {w0 w : World} {p : Value × List UInt8} {L : List (Value × List UInt8)} (h : Own e w0 (p :: L) w) : Own e w0 L w :=
  ⟨fun q hq => h.rows q (List.mem_cons_of_mem _ hq), (List.pairwise_cons.1 h.apart).2, h.below⟩
theorem Own.rd {e : TypeId} {w0 w : World} {v : Value} {l : List UInt8} {L : List (Value × List UInt8)} (h : Own e w0 L w) (hp : (v, l) ∈ L) : Rd w v l := Rd.of_row (h.rows _ hp)
theorem Own.nil {e : TypeId} {w0 w : World} {L : List (Value × List UInt8)} (h : Own e w0 L w) : Own e w0 ((.slice none 0 0, []) :: L) w :=
  ⟨fun p hp => by
    rcases List.mem_cons.1 hp with rfl | hp
    · exact World.ownsRow_nil _ _ _ _
    · exact h.rows p hp, List.pairwise_cons.2 ⟨fun q _ => Apart.nil _, h.apart⟩, h.below⟩
/-- What a call gives in new memory lies apart from all others. -/
theorem Own.new {e : TypeId} {w0 w w' : World} {v : Value} {l : List UInt8} {L : List (Value × List UInt8)} (h : Own e w0 L w) (hN : New e w v l w') : Own e w0 ((v, l) :: L) w' := by
  have hk := h.kept hN.2
  refine ⟨fun p hp => ?_, List.pairwise_cons.2 ⟨fun q hq => ?_, h.apart⟩, hk.below⟩
  · rcases List.mem_cons.1 hp with rfl | hp
    · exact own_mono hN.1 h.below.size
    · exact hk.rows p hp
  · refine Apart.symm (Apart.lt (B := w.heap.size) (fun g hg => ((h.rows q hq).lt g hg).2) fun g hg => (hN.1.lt g hg).1)
theorem Own.append {e : TypeId} {w0 wr w' : World} {v v' : Value} {l l' : List UInt8} {L : List (Value × List UInt8)} (h : Own e w0 ((v, l) :: L) wr) (h1 : w'.ownsRow w0.heap.size e 1 v' l'.length (l'.map bv)) (hg : wr.grownBy w' v.ownBlock) (hn : Near wr v v') : Own e w0 ((v', l') :: L) w' := by
  have hp := List.pairwise_cons.1 h.apart
  have hv := h.rows (v, l) (List.mem_cons_self ..)
  refine ⟨fun p hp' => ?_, List.pairwise_cons.2 ⟨fun q hq => ?_, hp.2⟩, h.below.grown hg h.below.size fun k hk => (hv.lt k hk).1⟩
  · rcases List.mem_cons.1 hp' with rfl | hp'
    · exact h1
    · exact own_chg (h.rows p (List.mem_cons_of_mem _ hp')) (Chg.of_grown hg) fun g hg' e => hp.1 p hp' g e.symm hg'
  · exact Apart.near hn (hp.1 q hq) fun g hg' => ((h.rows q (List.mem_cons_of_mem _ hq)).lt g hg').2
theorem wpList_append_Own {P : Program} {e : TypeId} {w0 wr : World} {L : List (Value × List UInt8)} {ops : Array Oper} {rest : List Oper} {o : Oper} {a : Act} {Q : Exit → Act → World → Prop} (hg : o.guard = none) (s x : Operand) (t : TypeId)
    (ho : o.op = .call { callee := .builtin .append, args := #[s, x], argTypes := #[t, t] }) (ht : P.underlying t = some (.slice e))
    (hinfo : (P.info? e).map (fun i => (i.zero, i.size, i.bytes)) = some (some (.int .u8 0), 1, 1)) (v : Value) (l : List UInt8) (hs : a.eval s = v) (hO : Own e w0 ((v, l) :: L) wr)
    (vx : Value) (l2 : List UInt8) (hx : a.eval x = vx) (hR : Rd wr vx l2) (hlen : l.length + l2.length ≤ 140737488355328)
    (h : ∀ v' w', Own e w0 ((v', l ++ l2) :: L) w' → wpList P ops Q rest (a.put o.dst v') w') : wpList P ops Q (o :: rest) a wr :=
  wpList_append_base hg s x t ho e ht hinfo v l hs (hO.rows _ (List.mem_cons_self ..)) hO.below.size vx l2 hx hR hlen fun v' w' h1 h2 h3 => h v' w' (hO.append h1 h2 h3)
end Go.Proofs.Ytmgkocoemgpgbaa
