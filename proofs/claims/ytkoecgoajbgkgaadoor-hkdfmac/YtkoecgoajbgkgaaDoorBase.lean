/- What the proofs of this seat stand on and that names no program: memory, rows, arrays, regions, and plain mathematics; several texts in one. -/
import Derived.WalkKit
import Derived.ProofKit
import Derived.OpenShut
import Derived.Below
import Derived.Handy
import Derived.Laws.AppendOwnNone
import Derived.Laws.CopyOwn
import Derived.Deep.MidRow
import Derived.Laws.BytesArg
import Derived.Deep.RegionHeld3
import Derived.ChangeKeysEq
import Derived.Laws.StructEq

/- Rows of numbers of any kind in memory as lists of numbers: what a slice reads as, how that lasts, new rows, rows that are filled. No program's text is named. -/
namespace Go.Proofs.YtkoecgoajbgkgaaDoor
set_option linter.unusedSimpArgs false
set_option linter.unusedVariables false
open Go.ChangeShapes Go.WideShapes Go.ChangeAt Go.RowKit

/-- The slice v reads as the numbers l of kind k. -/
def RdI (k : IntKind) (w : World) (v : Value) (l : List Int) : Prop :=
  ∃ a cap, v = .slice a l.length cap ∧ l.length ≤ cap ∧ cap ≤ maxLen ∧ (a = none → cap = 0) ∧
    (l = [] ∨ ∃ b off, a = some ⟨b, off, none⟩ ∧ ∀ i, i < l.length → w.cell? ⟨b, off + i, none⟩ = some (.int k (l.getD i 0)))

theorem RdI.kept {k : IntKind} {w w' : World} {v : Value} {l : List Int} (h : RdI k w v l) (hb : Below w.heap.size w w') : RdI k w' v l := by
  obtain ⟨a, cap, h1, h2, h3, h4, h5⟩ := h
  refine ⟨a, cap, h1, h2, h3, h4, h5.imp id ?_⟩
  rintro ⟨b, off, e, hc⟩
  refine ⟨b, off, e, fun i hi => ?_⟩
  have := hc i hi
  rw [hb.cell (p := ⟨b, off + i, none⟩) (World.block_lt_of_cell? w _ this)]
  exact this
theorem RdI.drew {k : IntKind} {w : World} {v : Value} {l : List Int} (h : RdI k w v l) : RdI k w.drew v l := h.kept (Below.refl _ _).drew
theorem RdI.of_row {k : IntKind} {w : World} {base : Nat} {e : TypeId} {v : Value} {l : List Int} (h : w.ownsRow base e 1 v l.length (l.map (Value.int k))) : RdI k w v l := by
  rcases h.2 with ⟨rfl, h0⟩ | ⟨g, cap, cur, rfl, hb, hg, hn, hm, hs, ht⟩
  · have : l = [] := List.eq_nil_of_length_eq_zero h0
    subst this
    exact ⟨none, 0, rfl, by simp, by simp, fun _ => rfl, .inl rfl⟩
  · refine ⟨_, cap, rfl, hn, hm, (fun h => by cases h), .inr ⟨g, 0, rfl, fun i hi => ?_⟩⟩
    have := h.cellAt i (by simpa using hi)
    simp [hi] at this
    simp [this, hi]
theorem RdI.nil (k : IntKind) (w : World) : RdI k w (.slice none 0 0) [] := ⟨none, 0, rfl, by simp, by simp, fun _ => rfl, .inl rfl⟩
theorem RdI.cellAt {k : IntKind} {w : World} {v : Value} {l : List Int} (h : RdI k w v l) {i : Nat} (hi : i < l.length) :
    ∃ b off cap, v = .slice (some ⟨b, off, none⟩) l.length cap ∧ l.length ≤ cap ∧ w.cell? ⟨b, off + i, none⟩ = some (.int k (l.getD i 0)) ∧ b < w.heap.size := by
  obtain ⟨a, cap, rfl, h2, h3, h4, h5⟩ := h
  rcases h5 with rfl | ⟨b, off, rfl, hc⟩
  · simp at hi
  · exact ⟨b, off, cap, rfl, h2, hc i hi, World.block_lt_of_cell? w _ (hc i hi)⟩
/-- All cells of what is not empty. -/
theorem RdI.cells {k : IntKind} {w : World} {v : Value} {l : List Int} (h : RdI k w v l) (hl : l ≠ []) :
    ∃ b off cap, v = .slice (some ⟨b, off, none⟩) l.length cap ∧ l.length ≤ cap ∧ cap ≤ maxLen ∧ b < w.heap.size ∧ ∀ i, i < l.length → w.cell? ⟨b, off + i, none⟩ = some (.int k (l.getD i 0)) := by
  obtain ⟨a, cap, rfl, h2, h3, h4, h5⟩ := h
  rcases h5 with rfl | ⟨b, off, rfl, hc⟩
  · exact absurd rfl hl
  · exact ⟨b, off, cap, rfl, h2, h3, World.block_lt_of_cell? w _ (hc 0 (List.length_pos_iff.2 hl)), hc⟩

/-- What a call that makes a new row says of it. -/
def NewI (k : IntKind) (e : TypeId) (w : World) (v : Value) (l : List Int) (w' : World) : Prop :=
  w'.ownsRow w.heap.size e 1 v l.length (l.map (Value.int k)) ∧ Below w.heap.size w w'
theorem NewI.rd {k : IntKind} {e : TypeId} {w w' : World} {v : Value} {l : List Int} (h : NewI k e w v l w') : RdI k w' v l := RdI.of_row h.1
theorem NewI.start {k : IntKind} {e : TypeId} (w : World) : NewI k e w (.slice none 0 0) [] w := ⟨World.ownsRow_nil _ _ _ _, Below.refl _ _⟩
theorem NewI.alloc {k : IntKind} {e : TypeId} {w wr : World} {v : Value} {l : List Int} (h : NewI k e w v l wr) (o : Obj) : NewI k e w v l (wr.alloc o) := ⟨h.1.alloc o, h.2.alloc h.2.size o⟩
theorem NewI.drew {k : IntKind} {e : TypeId} {w wr : World} {v : Value} {l : List Int} (h : NewI k e w v l wr) : NewI k e w v l wr.drew := ⟨h.1.drew, h.2.drew⟩
/-- The row is the call's own still, behind whatever grew. -/
theorem NewI.kept {k : IntKind} {e : TypeId} {w wr w2 : World} {v : Value} {l : List Int} (h : NewI k e w v l wr) (hb : Below wr.heap.size wr w2) : NewI k e w v l w2 := by
  refine ⟨⟨h.1.1, h.1.2.imp id ?_⟩, h.2.trans (hb.mono h.2.size)⟩
  rintro ⟨g, cap, cur, h1, h2, h3, h4⟩
  refine ⟨g, cap, cur, h1, h2, ?_, h4⟩
  rw [hb.block g (Array.getElem?_eq_some_iff.1 h3).1, h3]
theorem NewI.lit {k : IntKind} {w : World} {e : TypeId} (l : List Int) {cs : Array Value} {n b : Nat} (h : cs = (l.map (Value.int k)).toArray) (hn : n = l.length) (hb : b = w.heap.size) (hm : l.length ≤ maxLen) :
    NewI k e w (.slice (some ⟨b, 0, none⟩) n n) l (w.alloc (.cells cs e)) := by
  subst h hn hb
  exact ⟨World.ownsRow_lit w (l.map (Value.int k)).toArray l.length (Nat.le_refl _) hm (by simp), (Below.refl _ _).alloc (Nat.le_refl _) _⟩
theorem NewI.made {k : IntKind} {e : TypeId} {w w1 : World} {n : Nat} (hown : w1.ownsRow w.heap.size e 1 (.slice (some ⟨w.heap.size, 0, none⟩) n n) n (madeCells #[.int k 0] n).toList) (hgr : w.grownBy w1 none) :
    NewI k e w (.slice (some ⟨w.heap.size, 0, none⟩) n n) (List.replicate n 0) w1 := by
  rw [toList_madeCells_one] at hown
  exact ⟨by simpa using hown, (Below.refl _ _).grown hgr (Nat.le_refl _) (by simp)⟩
/-- A place of a row of the call's own: what it holds, that it may be written, and what the row is then. -/
theorem NewI.at {k : IntKind} {e : TypeId} {w wr : World} {v : Value} {l : List Int} (h : NewI k e w v l wr) {j : Nat} (hj : j < l.length) :
    ∃ g cap, v = .slice (some ⟨g, 0, none⟩) l.length cap ∧ w.heap.size ≤ g ∧ l.length ≤ cap ∧ wr.cell? ⟨g, j, none⟩ = some (.int k (l.getD j 0)) ∧ wr.frozen? ⟨g, j, none⟩ = false ∧
      ∀ x : Int, NewI k e w v (l.set j x) (wr.setCell ⟨g, j, none⟩ (.int k x)) := by
  rcases h.1.2 with ⟨h', h0⟩ | ⟨g, cap, cur, h', hb, hg, hn, hm, hs, ht⟩
  · omega
  · subst h'
    refine ⟨g, cap, rfl, hb, hn, ?_, h.1.frozenAt j, fun x => ⟨?_, h.2.setCell hb _⟩⟩
    · rw [h.1.cellAt j (by simpa using hj)]
      simp [hj]
    · have h1 := (h.1.stored j (.int k x)).1
      rw [List.length_set, List.map_set]
      exact h1
/-- All places of a row of the call's own. -/
theorem NewI.all {k : IntKind} {e : TypeId} {w wr : World} {v : Value} {l : List Int} (h : NewI k e w v l wr) (hl : l ≠ []) :
    ∃ g cap, v = .slice (some ⟨g, 0, none⟩) l.length cap ∧ w.heap.size ≤ g ∧ g < wr.heap.size ∧ l.length ≤ cap ∧ cap ≤ maxLen ∧ (∀ j, j < l.length → wr.cell? ⟨g, j, none⟩ = some (.int k (l.getD j 0))) ∧ (∀ j, wr.frozen? ⟨g, j, none⟩ = false) ∧
      ∀ (j : Nat) (x : Int), NewI k e w v (l.set j x) (wr.setCell ⟨g, j, none⟩ (.int k x)) := by
  have hpos : 0 < l.length := List.length_pos_iff.2 hl
  rcases h.1.2 with ⟨h', h0⟩ | ⟨g, cap, cur, h', hb, hg, hn, hm, hs, ht⟩
  · omega
  · subst h'
    refine ⟨g, cap, rfl, hb, (Array.getElem?_eq_some_iff.1 hg).1, hn, hm, fun j hj => ?_, fun j => h.1.frozenAt j, fun j x => ⟨?_, h.2.setCell hb _⟩⟩
    · rw [h.1.cellAt j (by simpa using hj)]
      simp [hj]
    · have h1 := (h.1.stored j (.int k x)).1
      rw [List.length_set, List.map_set]
      exact h1
theorem NewI.append {k : IntKind} {e : TypeId} {w wr w2 : World} {v v' : Value} {l l2 : List Int} {m : Nat} {news : List Value} (h : NewI k e w v l wr) (hown : w2.ownsRow w.heap.size e 1 v' (l.length + m) (l.map (Value.int k) ++ news))
    (hg : wr.grownBy w2 v.ownBlock) (hn : news = l2.map (Value.int k)) (hm : m = l2.length) : NewI k e w v' (l ++ l2) w2 := by
  subst hn hm
  refine ⟨by simpa using hown, h.2.grown hg h.2.size fun k hk => (h.1.lt k hk).1⟩

/-- Appending to the call's own row whatever reads as numbers. -/
theorem wp_append_newI {k : IntKind} {P : Program} {w wr : World} {o : Oper} {a : Act} {K : Act → World → Prop} {Q : Exit → Act → World → Prop} (s x : Operand) (t : TypeId)
    (ho : o.op = .call { callee := .builtin .append, args := #[s, x], argTypes := #[t, t] }) (e : TypeId) (ht : P.underlying t = some (.slice e)) (bytes : Nat)
    (hinfo : (P.info? e).map (fun i => (i.zero, i.size, i.bytes)) = some (some (.int k 0), 1, bytes)) (v : Value) (l : List Int) (hs : a.eval s = v) (hN : NewI k e w v l wr)
    (vx : Value) (l2 : List Int) (hx : a.eval x = vx) (hR : RdI k wr vx l2) (hlen : (l.length + l2.length) * bytes ≤ 140737488355328) (hlen2 : l.length + l2.length ≤ 140737488355328)
    (h : ∀ v' w', NewI k e w v' (l ++ l2) w' → wr.grownBy w' v.ownBlock → K (a.put o.dst v') w') : o.wp P a wr K Q := by
  obtain ⟨i, hi, hz0, hz1, hz2⟩ := info_parts hinfo
  obtain ⟨ax, cap, rfl, h2, h3, h4, h5⟩ := hR
  cases ax with
  | none =>
    have h0 := h4 rfl
    subst h0
    have hl2 : l2 = [] := List.eq_nil_of_length_eq_zero (by omega)
    subst hl2
    have hrun := run_append_owned_none (P := P) (w := wr) w.heap.size t o.type e i 1 ht hi v l.length _ hN.1
    have hx' : a.eval x = .slice none 0 0 := hx
    unfold Oper.wp
    simp [execOp, ho, resolve, invoke, builtin, hs, hx', hrun, Result.andThen]
    exact h v wr (by simpa using hN) (World.grownBy.refl _ _)
  | some ad =>
    refine wp_append_own wr s x t ho w.heap.size e i _ 1 bytes ht hi hz0 hz1 hz2 rfl (by decide) v _ _ hs hN.1 ad l2.length cap (l2.map (Value.int k)) hx (by simp) ?_ (ints_oneCell k l2) (by unfold maxLen; omega) (by simpa using hlen) hN.2.size ?_
    · intro j u hj
      have hjl : j < l2.length := by
        rcases Nat.lt_or_ge j l2.length with h | h
        · exact h
        · simp [List.getElem?_eq_none h] at hj
      rcases h5 with rfl | ⟨b, off, e1, hc⟩
      · simp at hjl
      · simp only [Option.some.injEq] at e1
        subst e1
        have hplain : (⟨b, off, none⟩ : Addr).add j = ⟨b, off + j, none⟩ := by unfold Addr.add; split <;> simp_all
        rw [hplain, hc j hjl]
        simp [List.getElem?_eq_getElem hjl] at hj
        subst hj
        simp [hjl]
    · intro v' w' r1 r2 _
      exact h v' w' (hN.append r1 r2 rfl rfl) r2
theorem wpList_append_newI {k : IntKind} {P : Program} {w wr : World} {ops : Array Oper} {rest : List Oper} {o : Oper} {a : Act} {Q : Exit → Act → World → Prop} (hg : o.guard = none) (s x : Operand) (t : TypeId)
    (ho : o.op = .call { callee := .builtin .append, args := #[s, x], argTypes := #[t, t] }) (e : TypeId) (ht : P.underlying t = some (.slice e)) (bytes : Nat)
    (hinfo : (P.info? e).map (fun i => (i.zero, i.size, i.bytes)) = some (some (.int k 0), 1, bytes)) (v : Value) (l : List Int) (hs : a.eval s = v) (hN : NewI k e w v l wr)
    (vx : Value) (l2 : List Int) (hx : a.eval x = vx) (hR : RdI k wr vx l2) (hlen : (l.length + l2.length) * bytes ≤ 140737488355328) (hlen2 : l.length + l2.length ≤ 140737488355328)
    (h : ∀ v' w', NewI k e w v' (l ++ l2) w' → wr.grownBy w' v.ownBlock → wpList P ops Q rest (a.put o.dst v') w') : wpList P ops Q (o :: rest) a wr :=
  wpList_plain hg fun _ hK => wp_append_newI s x t ho e ht bytes hinfo v l hs hN vx l2 hx hR hlen hlen2 fun v' w' h1 h2 => hK _ _ (h v' w' h1 h2)

/-- Copying onto a whole row of the call's own what reads as as many numbers. -/
theorem wpList_copy_newI {k : IntKind} {P : Program} {w wr : World} {ops : Array Oper} {rest : List Oper} {o : Oper} {a : Act} {Q : Exit → Act → World → Prop} (hg : o.guard = none) (d s : Operand) (t : TypeId)
    (ho : o.op = .call { callee := .builtin .copy, args := #[d, s], argTypes := #[t, t] }) (e : TypeId) (ht : P.underlying t = some (.slice e)) (hsz : (P.info? e).map (·.size) = some 1)
    (v : Value) (l : List Int) (hs : a.eval d = v) (hN : NewI k e w v l wr) (vx : Value) (l2 : List Int) (hx : a.eval s = vx) (hR : RdI k wr vx l2) (hlen : l2.length = l.length) (hne : l ≠ [])
    (h : ∀ w', NewI k e w v l2 w' → wpList P ops Q rest (a.put o.dst (goInt l2.length)) w') : wpList P ops Q (o :: rest) a wr := by
  have hpos : 0 < l.length := List.length_pos_iff.2 hne
  have hne2 : l2 ≠ [] := by intro h; rw [h] at hlen; simp at hlen; omega
  obtain ⟨b, off, cap2, rfl, h2, h3, h4, hc⟩ := hR.cells hne2
  rcases hN.1.2 with ⟨h', h0⟩ | ⟨g, cap, cur, rfl, hb, hgh, hn, hm, hss, htk⟩
  · omega
  · have hcl : (l2.map (Value.int k)).length = Nat.min l2.length l.length := by simp [hlen]
    have hsz2 : cur.size = cap := by simpa using hss
    refine wpList_copy_own hg d s t t ho e ht hsz g 0 l.length cap ⟨b, off, none⟩ l2.length cap2 hs hx cur e hgh (l2.map (Value.int k)) hcl ?_ (by simp; omega) (ints_oneCell k l2) ?_
    · intro j u hj
      have hjl : j < l2.length := by
        rcases Nat.lt_or_ge j l2.length with h | h
        · exact h
        · simp [List.getElem?_eq_none h] at hj
      have hplain : (⟨b, off, none⟩ : Addr).add j = ⟨b, off + j, none⟩ := by unfold Addr.add; split <;> simp_all
      rw [hplain, hc j hjl]
      simp [List.getElem?_eq_getElem hjl] at hj
      subst hj
      simp [hjl]
    · simp only [List.length_map]
      refine h _ ⟨⟨by simp, .inr ⟨g, cap, _, by rw [hlen], hb, setRow_heap wr g cur _ e _ hgh, by omega, hm, by simp; omega, by simp [List.take_append]⟩⟩, below_setRow hN.2 hb _⟩

/-- Block g holds a row whose first places are these numbers; it may be written. -/
structure RowAt (k : IntKind) (e : TypeId) (g cap : Nat) (l : List Int) (w : World) : Prop where
  own : w.ownsRow g e 1 (.slice (some ⟨g, 0, none⟩) l.length cap) l.length (l.map (Value.int k))
  lt : g < w.heap.size
theorem RowAt.cap {k : IntKind} {e : TypeId} {g cap : Nat} {l : List Int} {w : World} (h : RowAt k e g cap l w) : l.length ≤ cap ∧ cap ≤ maxLen := by
  rcases h.own.2 with ⟨h', _⟩ | ⟨g', cap', cur, h', _, _, hn, hm, _⟩
  · simp at h'
  · simp only [Value.slice.injEq, Option.some.injEq, Addr.mk.injEq, and_true, true_and] at h'
    obtain ⟨rfl, rfl⟩ := h'
    exact ⟨hn, hm⟩
theorem RowAt.cell {k : IntKind} {e : TypeId} {g cap : Nat} {l : List Int} {w : World} (h : RowAt k e g cap l w) {j : Nat} (hj : j < l.length) : w.cell? ⟨g, j, none⟩ = some (.int k (l.getD j 0)) := by
  rw [h.own.cellAt j (by simpa using hj)]
  simp [hj]
theorem RowAt.free {k : IntKind} {e : TypeId} {g cap : Nat} {l : List Int} {w : World} (h : RowAt k e g cap l w) (j : Nat) : w.frozen? ⟨g, j, none⟩ = false := h.own.frozenAt j
theorem RowAt.set {k : IntKind} {e : TypeId} {g cap : Nat} {l : List Int} {w : World} (h : RowAt k e g cap l w) (j : Nat) (x : Int) : RowAt k e g cap (l.set j x) (w.setCell ⟨g, j, none⟩ (.int k x)) := by
  have h1 := (h.own.stored j (.int k x)).1
  refine ⟨?_, by simpa using h.lt⟩
  rw [List.length_set, List.map_set]
  exact h1
theorem RowAt.of_block {k : IntKind} {e : TypeId} {g cap : Nat} {l : List Int} {w w' : World} (h : RowAt k e g cap l w) (hb : w'.heap[g]? = w.heap[g]?) (hs : w.heap.size ≤ w'.heap.size) : RowAt k e g cap l w' := by
  refine ⟨⟨h.own.1, h.own.2.imp id ?_⟩, Nat.lt_of_lt_of_le h.lt hs⟩
  rintro ⟨g', cap', cur, h1, h2, h3, h4⟩
  have hg : g = g' := by
    simp only [Value.slice.injEq, Option.some.injEq, Addr.mk.injEq, and_true, true_and] at h1
    exact h1.1
  subst hg
  exact ⟨g, cap', cur, h1, h2, by rw [hb]; exact h3, h4⟩
theorem RowAt.other {k : IntKind} {e : TypeId} {g cap : Nat} {l : List Int} {w : World} (h : RowAt k e g cap l w) {p : Addr} (hp : p.block ≠ g) (u : Value) : RowAt k e g cap l (w.setCell p u) :=
  h.of_block (Below.heap_setCell w p u g (Ne.symm hp)) (by simp)
theorem RowAt.kept {k : IntKind} {e : TypeId} {g cap : Nat} {l : List Int} {w w' : World} (h : RowAt k e g cap l w) (hb : Below w.heap.size w w') : RowAt k e g cap l w' := h.of_block (hb.block g h.lt) hb.size
theorem RowAt.drew {k : IntKind} {e : TypeId} {g cap : Nat} {l : List Int} {w : World} (h : RowAt k e g cap l w) : RowAt k e g cap l w.drew := h.kept (Below.refl _ _).drew
theorem RowAt.rd {k : IntKind} {e : TypeId} {g cap : Nat} {l : List Int} {w : World} (h : RowAt k e g cap l w) : RdI k w (.slice (some ⟨g, 0, none⟩) l.length cap) l := RdI.of_row h.own
theorem NewI.row {k : IntKind} {e : TypeId} {w wr : World} {v : Value} {l : List Int} (h : NewI k e w v l wr) (hl : l ≠ []) :
    ∃ g cap, v = .slice (some ⟨g, 0, none⟩) l.length cap ∧ w.heap.size ≤ g ∧ RowAt k e g cap l wr := by
  have hpos : 0 < l.length := List.length_pos_iff.2 hl
  rcases h.1.2 with ⟨h', h0⟩ | ⟨g, cap, cur, h', hb, hg, hn, hm, hs, ht⟩
  · omega
  · exact ⟨g, cap, h', hb, ⟨⟨by simp, .inr ⟨g, cap, cur, rfl, Nat.le_refl _, hg, hn, hm, hs, by simpa using ht⟩⟩, (Array.getElem?_eq_some_iff.1 hg).1⟩⟩
theorem RowAt.new {k : IntKind} {e : TypeId} {g cap : Nat} {l : List Int} {w wr : World} (h : RowAt k e g cap l wr) (hg : w.heap.size ≤ g) (hb : Below w.heap.size w wr) : NewI k e w (.slice (some ⟨g, 0, none⟩) l.length cap) l wr := by
  refine ⟨⟨h.own.1, h.own.2.imp id ?_⟩, hb⟩
  rintro ⟨g', cap', cur, h1, h2, h3⟩
  exact ⟨g', cap', cur, h1, by
    simp only [Value.slice.injEq, Option.some.injEq, Addr.mk.injEq, and_true, true_and] at h1
    omega, h3⟩

theorem growB {w : World} (o : Obj) : Below w.heap.size w (w.alloc o) := (Below.refl _ _).alloc (Nat.le_refl _) o
theorem stepB {w w1 w2 : World} (h1 : Below w.heap.size w w1) (h2 : Below w1.heap.size w1 w2) : Below w.heap.size w w2 := h1.trans (h2.mono h1.size)
theorem retI {k : IntKind} {a b : Int} (h : a = b) : Ending.returned (.int k a) = .returned (.int k b) := by rw [h]
theorem valI {k : IntKind} {a b : Int} (h : a = b) : Value.int k a = .int k b := by rw [h]
theorem RdI.take {k : IntKind} {w : World} {a : Option Addr} {len cap : Nat} {l : List Int} (h : RdI k w (.slice a len cap) l) {n : Nat} (hn : n ≤ len) : RdI k w (.slice a n cap) (l.take n) := by
  obtain ⟨a', cap', e, h2, h3, h4, h5⟩ := h
  simp only [Value.slice.injEq] at e
  obtain ⟨rfl, rfl, rfl⟩ := e
  have hl : (l.take n).length = n := by simp; omega
  refine ⟨a, cap, by rw [hl], by rw [hl]; omega, h3, h4, ?_⟩
  rcases h5 with rfl | ⟨b, off, e, hc⟩
  · exact .inl (by simp)
  · refine .inr ⟨b, off, e, fun i hi => ?_⟩
    rw [hl] at hi
    rw [hc i (by omega)]
    simp [hi]

end Go.Proofs.YtkoecgoajbgkgaaDoor

/- States of 25 lanes as functions, their bits, and what the document's steps say of them bit by bit: plain mathematics. No program's text is named. -/
namespace Go.Proofs.YtkoecgoajbgkgaaDoor
set_option linter.unusedSimpArgs false
set_option linter.unusedVariables false

/-- A state's lanes as a row of numbers. -/
def stL (f : Nat → Nat) : List Int := (List.range 25).map fun i => ((f i : Nat) : Int)
theorem stL_length (f : Nat → Nat) : (stL f).length = 25 := by simp [stL]
theorem stL_ne (f : Nat → Nat) : stL f ≠ [] := by
  intro h
  have := stL_length f
  rw [h] at this
  simp at this
theorem stL_get (f : Nat → Nat) (i : Nat) (h : i < 25) : (stL f).getD i 0 = ((f i : Nat) : Int) := by
  simp [stL, h]
theorem stL_set (f : Nat → Nat) (j : Nat) (x : Nat) : (stL f).set j (x : Int) = stL (fun i => if i = j then x else f i) := by
  refine List.ext_getElem (by simp [stL]) fun i h1 h2 => ?_
  simp only [stL, List.getElem_set, List.getElem_map, List.getElem_range]
  by_cases e : j = i
  · subst e; simp
  · simp [e, Ne.symm e]
theorem stL_congr {f g : Nat → Nat} (h : ∀ i, i < 25 → f i = g i) : stL f = stL g := by
  unfold stL
  exact List.map_congr_left fun i hi => by rw [h i (List.mem_range.1 hi)]
theorem stL_inj {f g : Nat → Nat} (h : stL f = stL g) (i : Nat) (hi : i < 25) : f i = g i := by
  have : (stL f).getD i 0 = (stL g).getD i 0 := by rw [h]
  rw [stL_get f i hi, stL_get g i hi] at this
  omega
theorem stL_zero : List.replicate 25 (0 : Int) = stL (fun _ => 0) := by decide

/-- Bit z of lane x, y, as a number. -/
def bitN (f : Nat → Nat) (x y z : Nat) : Nat := f (x + 5 * y) / 2 ^ z % 2
theorem bitN_lt (f : Nat → Nat) (x y z : Nat) : bitN f x y z < 2 := Nat.mod_lt _ (by decide)
theorem bitN_le (f : Nat → Nat) (x y z : Nat) : ((bitN f x y z : Nat) : Int) ≤ 1 := by have := bitN_lt f x y z; omega

/-- The number whose lowest n bits are these. -/
def ofB (g : Nat → Bool) : Nat → Nat
  | 0 => 0
  | n + 1 => ofB g n + if g n then 2 ^ n else 0
theorem ofB_lt (g : Nat → Bool) : ∀ n, ofB g n < 2 ^ n
  | 0 => by simp [ofB]
  | n + 1 => by
    have := ofB_lt g n
    unfold ofB
    rw [Nat.pow_succ]
    split <;> omega
theorem ofB_succ (g : Nat → Bool) (n : Nat) : ofB g (n + 1) = ofB g n + if g n then 2 ^ n else 0 := rfl
theorem ofB_bit (g : Nat → Bool) : ∀ n i, i < n → ofB g n / 2 ^ i % 2 = if g i then 1 else 0
  | 0, i, h => by omega
  | n + 1, i, h => by
    have hl := ofB_lt g n
    by_cases e : i = n
    · subst e
      rw [ofB_succ]
      by_cases hg : g i
      · simp only [hg, if_true]
        rw [Nat.add_div_right _ (Nat.pow_pos (by decide)), Nat.div_eq_of_lt hl]
      · simp only [hg]
        simp [Nat.div_eq_of_lt hl]
    · have ih := ofB_bit g n i (by omega)
      rw [ofB_succ]
      split
      · obtain ⟨d, hd⟩ : ∃ d, n = i + (d + 1) := ⟨n - i - 1, by omega⟩
        have e1 : 2 ^ n = 2 ^ i * (2 * 2 ^ d) := by rw [hd, Nat.pow_add, Nat.pow_succ, Nat.mul_comm (2 ^ d)]
        rw [e1, Nat.add_mul_div_left _ _ (Nat.pow_pos (by decide)), Nat.add_mul_mod_self_left]
        exact ih
      · simpa using ih
theorem ofB_64 (g : Nat → Bool) (n : Nat) (h : n ≤ 64) : ofB g n < 18446744073709551616 := by
  have h1 := ofB_lt g n
  have h2 := Nat.pow_le_pow_right (show 0 < 2 by decide) h
  have h3 : 2 ^ 64 = 18446744073709551616 := by decide
  omega
theorem ofB_congr {g h : Nat → Bool} : ∀ n, (∀ i, i < n → g i = h i) → ofB g n = ofB h n
  | 0, _ => rfl
  | n + 1, e => by rw [ofB_succ, ofB_succ, ofB_congr n (fun i hi => e i (by omega)), e n (by omega)]
/-- A number below 2^n is that of its bits. -/
theorem ofB_self (x : Nat) : ∀ n, ofB (fun i => decide (x / 2 ^ i % 2 = 1)) n = x % 2 ^ n
  | 0 => by simp [ofB, Nat.mod_one]
  | n + 1 => by
    rw [ofB_succ, ofB_self x n, Nat.mod_pow_succ]
    have := Nat.mod_two_eq_zero_or_one (x / 2 ^ n)
    rcases this with h | h <;> simp [h]

/-- Two numbers below 2^64 with the same bits are the same. -/
theorem lanes_ext {x y : Nat} (hx : x < 18446744073709551616) (hy : y < 18446744073709551616) (h : ∀ z, z < 64 → x / 2 ^ z % 2 = y / 2 ^ z % 2) : x = y := by
  have e1 := ofB_self x 64
  have e2 := ofB_self y 64
  have h64 : (2 : Nat) ^ 64 = 18446744073709551616 := by decide
  rw [h64, Nat.mod_eq_of_lt hx] at e1
  rw [h64, Nat.mod_eq_of_lt hy] at e2
  rw [← e1, ← e2]
  exact ofB_congr 64 fun i hi => by rw [h i hi]

/-! ### Theta -/
/-- How many of the ten bits beside it are 1, those of the first Y rows. -/
def thN (f : Nat → Nat) (x z : Nat) : Nat → Nat
  | 0 => 0
  | Y + 1 => thN f x z Y + (bitN f ((x + 4) % 5) Y z + bitN f ((x + 1) % 5) Y ((z + 63) % 64))
theorem thN_le (f : Nat → Nat) (x z : Nat) : ∀ Y, thN f x z Y ≤ 2 * Y
  | 0 => by simp [thN]
  | Y + 1 => by
    have := thN_le f x z Y
    have a := bitN_lt f ((x + 4) % 5) Y z
    have b := bitN_lt f ((x + 1) % 5) Y ((z + 63) % 64)
    unfold thN
    omega
/-- The bit that Theta makes. -/
def thB (f : Nat → Nat) (x y z : Nat) : Bool := decide ((thN f x z 5 + bitN f x y z) % 2 = 1)
/-- Lanes as far as they are made: columns below X whole, of column X the bits below Z, of its first Y rows bit Z too. -/
def thP (f : Nat → Nat) (X Z Y : Nat) (i : Nat) : Nat :=
  if i % 5 < X then ofB (thB f (i % 5) (i / 5)) 64 else if i % 5 = X then ofB (thB f (i % 5) (i / 5)) (if i / 5 < Y then Z + 1 else Z) else 0
theorem thP_lt (f : Nat → Nat) (X Z Y i : Nat) (hZ : Z < 64) : thP f X Z Y i < 18446744073709551616 := by
  unfold thP
  split
  · exact ofB_64 _ _ (by omega)
  · split
    · exact ofB_64 _ _ (by split <;> omega)
    · decide
/-- Theta of a state. -/
def thF (f : Nat → Nat) (i : Nat) : Nat := ofB (thB f (i % 5) (i / 5)) 64
theorem thP_start (f : Nat → Nat) : stL (fun _ => 0) = stL (thP f 0 0 0) := stL_congr fun i hi => by
  unfold thP
  simp [ofB]
theorem thP_rowEnd (f : Nat → Nat) (X Z : Nat) : stL (thP f X Z 5) = stL (thP f X (Z + 1) 0) := stL_congr fun i hi => by
  unfold thP
  have : i / 5 < 5 := by omega
  simp [this]
theorem thP_colEnd (f : Nat → Nat) (X : Nat) : stL (thP f X 64 0) = stL (thP f (X + 1) 0 0) := stL_congr fun i hi => by
  unfold thP
  by_cases h1 : i % 5 < X
  · simp [h1, show i % 5 < X + 1 by omega]
  · by_cases h2 : i % 5 = X
    · simp [h2]
    · have h3 : ¬ i % 5 < X + 1 := by omega
      simp only [h1, h2, h3, if_false]
      split <;> simp [ofB]
theorem thP_done (f : Nat → Nat) : stL (thP f 5 0 0) = stL (thF f) := stL_congr fun i hi => by
  unfold thP thF
  simp [show i % 5 < 5 by omega]
/-- One row more, where nothing is put. -/
theorem thP_skip (f : Nat → Nat) (X Z Y : Nat) (hX : X < 5) (h : thB f X Y Z = false) : stL (thP f X Z Y) = stL (thP f X Z (Y + 1)) := stL_congr fun i hi => by
  unfold thP
  by_cases h1 : i % 5 < X
  · simp [h1]
  · by_cases h2 : i % 5 = X
    · simp only [h1, h2, if_false, if_true]
      by_cases h3 : i / 5 < Y
      · simp [h3, show i / 5 < Y + 1 by omega]
      · by_cases h4 : i / 5 = Y
        · simp [h4, ofB_succ, h]
        · simp [h3, show ¬ i / 5 < Y + 1 by omega]
    · simp [h1, h2]
/-- One row more, where a bit is put. -/
theorem thP_put (f : Nat → Nat) (X Z Y : Nat) (hX : X < 5) (hY : Y < 5) (h : thB f X Y Z = true) :
    (stL (thP f X Z Y)).set (X + 5 * Y) (((thP f X Z Y (X + 5 * Y) + 2 ^ Z : Nat)) : Int) = stL (thP f X Z (Y + 1)) := by
  rw [stL_set]
  refine stL_congr fun i hi => ?_
  have e1 : (X + 5 * Y) % 5 = X := by omega
  have e2 : (X + 5 * Y) / 5 = Y := by omega
  by_cases e : i = X + 5 * Y
  · subst e
    simp only [if_true]
    unfold thP
    simp [e1, e2, ofB_succ, h]
  · simp only [e, if_false]
    unfold thP
    by_cases h1 : i % 5 < X
    · simp [h1]
    · by_cases h2 : i % 5 = X
      · simp only [h1, h2, if_false, if_true]
        by_cases h3 : i / 5 < Y
        · simp [h3, show i / 5 < Y + 1 by omega]
        · simp [h3, show ¬ i / 5 < Y + 1 by omega]
      · simp [h1, h2]
theorem thP_room (f : Nat → Nat) (X Z Y : Nat) (hX : X < 5) (hZ : Z < 64) (hY : Y < 5) : thP f X Z Y (X + 5 * Y) + 2 ^ Z < 18446744073709551616 := by
  have e1 : (X + 5 * Y) % 5 = X := by omega
  have e2 : (X + 5 * Y) / 5 = Y := by omega
  have h0 : thP f X Z Y (X + 5 * Y) = ofB (thB f X Y) Z := by unfold thP; simp [e1, e2]
  rw [h0]
  have h1 := ofB_lt (thB f X Y) Z
  have h2 := Nat.pow_le_pow_right (show 0 < 2 by decide) (show Z + 1 ≤ 64 by omega)
  have h3 : 2 ^ 64 = 18446744073709551616 := by decide
  rw [Nat.pow_succ] at h2
  omega
end Go.Proofs.YtkoecgoajbgkgaaDoor

/- Arrays of 25 lanes by value: what comes in as one, and the loading of a whole one. -/
namespace Go.Proofs.YtkoecgoajbgkgaaDoor
set_option linter.unusedSimpArgs false
open Go.ChangeShapes Go.WideShapes Go.ChangeAt Go.RowKit
set_option linter.unusedVariables false

theorem okWide_arr {P : Program} {w : World} {r : Reach} {base : Nat} {t : TypeId} {v : Value} {n : Nat} {e : TypeId} (ht : P.underlying t = some (.array n e)) (h : Value.okWide P w r base t v) : ∃ cs, v = .agg cs ∧ cs.size = P.cellsOf t := by
  unfold Value.okWide at h
  rw [ht] at h
  cases v <;> simp_all

theorem arr_open {H : Type} {enc : TypeId × Value → H} {P : Program} {w : World} {base b0 : Nat} {spare : Nat → Bool} {held : Bool} {r : Reach} {t e : TypeId} {v : Value} {d : DataW H} {p : List MemPlace}
    (ht : P.underlying t = some (.array 25 e)) (he : P.underlying e = some (.int .u64)) (ce : P.cellsOf e = 1) (ct : P.cellsOf t = 25) (hv : Value.okWide P w r b0 t v) (h : DataW.Trod enc P w base spare held t v d p) :
    ∃ f : Nat → Nat, (∀ i, f i < 18446744073709551616) ∧ v = .agg ((stL f).map (Value.int .u64)).toArray := by
  obtain ⟨cs, rfl, hsz⟩ := okWide_arr ht hv
  rw [ct] at hsz
  obtain ⟨fuel, hf⟩ := h
  obtain ⟨xs, m, _, _, _, hl, hx⟩ := DataW.trod_array ht hf
  have key : ∀ i, i < 25 → ∃ n : Nat, n < 18446744073709551616 ∧ cs[i]? = some (.int .u64 (n : Int)) := by
    intro i hi
    have h1 := hx i hi
    rw [ce, Nat.mul_one] at h1
    have h2 : xs[i]? = some xs[i] := List.getElem?_eq_getElem (by omega)
    rw [h2] at h1
    obtain ⟨n, hc, _, hw⟩ := DataW.trod_int he h1
    have hb := bounds_u64 hw
    refine ⟨n.toNat, by omega, ?_⟩
    have hi2 : i < cs.size := by omega
    simp only [Value.cells] at hc
    rw [List.drop_eq_getElem_cons (by simpa using hi2)] at hc
    simp at hc
    rw [Array.getElem?_eq_getElem hi2, hc, Int.toNat_of_nonneg hb.1]
  obtain ⟨F, hF⟩ : ∃ F : Nat → Nat, ∀ i, i < 25 → F i < 18446744073709551616 ∧ cs[i]? = some (.int .u64 ((F i : Nat) : Int)) :=
    ⟨fun i => if h : i < 25 then Classical.choose (key i h) else 0, fun i hi => by
      dsimp only
      rw [dif_pos hi]
      exact Classical.choose_spec (key i hi)⟩
  refine ⟨fun i => if i < 25 then F i else 0, fun i => ?_, ?_⟩
  · dsimp only
    split
    · rename_i h
      exact (hF i h).1
    · decide
  · congr 1
    apply Array.ext
    · simp [stL, hsz]
    · intro i h1 h2
      have hi : i < 25 := by omega
      have h3 := (hF i hi).2
      rw [Array.getElem?_eq_getElem h1, Option.some.injEq] at h3
      rw [h3]
      simp [stL, hi]

/-- A whole array that lies at a row's head is loaded. -/
theorem wpList_load_row {k : IntKind} {e : TypeId} {g cap : Nat} {l : List Int} {P : Program} {ops : Array Oper} {rest : List Oper} {op : Oper} {a : Act} {w : World} {Q : Exit → Act → World → Prop} (hgd : op.guard = none) (ty : TypeId) (x : Operand) (ho : op.op = .load ty x)
    (hx : a.eval x = .pointer (some ⟨g, 0, none⟩)) (hr : RowAt k e g cap l w) (d : TypeDesc) (hu : P.underlying ty = some d) (hd : d.isRow = true) (hi : (P.info? ty).map (·.size) = some l.length)
    (h : wpList P ops Q rest (a.put op.dst (.agg (l.map (Value.int k)).toArray)) w) : wpList P ops Q (op :: rest) a w :=
  wpList_load_mid hgd ty x ho g 0 hx (l.map (Value.int k)) d (fun j v hv => by
    have hj : j < l.length := by
      rcases Nat.lt_or_ge j l.length with h | h
      · exact h
      · simp [List.getElem?_eq_none h] at hv
    rw [Nat.zero_add, hr.cell hj]
    simp [hj] at hv
    simp [hj, hv]) hu hd (by simpa using hi) h
end Go.Proofs.YtkoecgoajbgkgaaDoor

/- Arrays by value that are stored whole: rows of numbers in blocks, written as a whole; what else stays. No program's text is named. -/
namespace Go.Proofs.YtkoecgoajbgkgaaDoor
set_option linter.unusedSimpArgs false
open Go.ChangeShapes Go.WideShapes Go.ChangeAt Go.RowKit
set_option linter.unusedVariables false

/-- Only block g was written, in place. -/
structure Wrote (g : Nat) (w w' : World) : Prop where
  size : w'.heap.size = w.heap.size
  other : ∀ i, i ≠ g → w'.heap[i]? = w.heap[i]?
  below : ∀ B a, B ≤ g → Below B a w → Below B a w'
theorem Wrote.refl (g : Nat) (w : World) : Wrote g w w := ⟨rfl, fun _ _ => rfl, fun _ _ _ h => h⟩
theorem Wrote.trans {g : Nat} {a b c : World} (h1 : Wrote g a b) (h2 : Wrote g b c) : Wrote g a c :=
  ⟨h2.size.trans h1.size, fun i hi => (h2.other i hi).trans (h1.other i hi), fun B x hB hb => h2.below B x hB (h1.below B x hB hb)⟩
theorem Wrote.set (g j : Nat) (w : World) (v : Value) : Wrote g w (w.setCell ⟨g, j, none⟩ v) :=
  ⟨by simp, fun i hi => Below.heap_setCell w ⟨g, j, none⟩ v i hi, fun B a hB hb => hb.setCell hB _⟩
theorem Wrote.setCells (g : Nat) : ∀ (vs : List Value) (o : Nat) (w : World), Wrote g w (w.setCells g o vs)
  | [], _, w => Wrote.refl g w
  | v :: r, o, w => (Wrote.set g o w v).trans (Wrote.setCells g r (o + 1) _)
theorem RowAt.wrote {k : IntKind} {e : TypeId} {g g' cap : Nat} {l : List Int} {w w' : World} (h : RowAt k e g cap l w) (hw : Wrote g' w w') (hne : g ≠ g') : RowAt k e g cap l w' :=
  h.of_block (hw.other g hne) (Nat.le_of_eq hw.size.symm)
theorem RowAt.setCells {k : IntKind} {e : TypeId} {g cap : Nat} : ∀ (xs pre post : List Int) (w : World), RowAt k e g cap (pre ++ post) w → xs.length = post.length →
    RowAt k e g cap (pre ++ xs) (w.setCells g pre.length (xs.map (Value.int k)))
  | [], pre, post, w, h, hl => by
    have : post = [] := List.eq_nil_of_length_eq_zero hl.symm
    subst this
    exact h
  | x :: xs, pre, [], w, h, hl => by simp at hl
  | x :: xs, pre, p :: post, w, h, hl => by
    have h1 := h.set pre.length x
    rw [List.set_append_right _ _ (Nat.le_refl _), Nat.sub_self, List.set_cons_zero] at h1
    have h2 := RowAt.setCells xs (pre ++ [x]) post _ (by simpa using h1) (by simpa using hl)
    simpa [World.setCells] using h2
theorem RowAt.there {k : IntKind} {e : TypeId} {g cap : Nat} {l : List Int} {w : World} (h : RowAt k e g cap l w) : w.there g 0 l.length := fun j hj => by
  rw [Nat.zero_add]
  exact ⟨by rw [h.cell hj]; rfl, h.free j⟩
theorem ints_one (k : IntKind) (l : List Int) : (l.map (Value.int k)).toArray.all (·.oneCell') = true :=
  all_oneCell_toArray fun v hv => by
    obtain ⟨x, _, rfl⟩ := List.mem_map.1 hv
    rfl
/-- A whole array is stored at a row's head. -/
theorem wp_store_row {k : IntKind} {e : TypeId} {g cap : Nat} {l : List Int} {P : Program} {op : Oper} {a : Act} {w : World} {K : Act → World → Prop} {Q : Exit → Act → World → Prop} (ty : TypeId) (x y : Operand) (ho : op.op = .store ty x y)
    (l2 : List Int) (hx : a.eval x = .pointer (some ⟨g, 0, none⟩)) (hy : a.eval y = .agg (l2.map (Value.int k)).toArray) (hr : RowAt k e g cap l w) (hl : l2.length = l.length) (hi : (P.info? ty).map (·.size) = some l.length)
    (h : ∀ w', RowAt k e g cap l2 w' → Wrote g w w' → K (a.put op.dst undef) w') : op.wp P a w K Q := by
  refine wp_store_mid ty x y ho g 0 _ hx hy (by simpa [hl] using hr.there) (by simp [hl, hi]) (ints_one k l2) ?_
  refine h _ ?_ (Wrote.setCells g _ 0 w)
  exact RowAt.setCells l2 [] l w hr hl
theorem wpList_store_row {k : IntKind} {e : TypeId} {g cap : Nat} {l : List Int} {P : Program} {ops : Array Oper} {rest : List Oper} {op : Oper} {a : Act} {w : World} {Q : Exit → Act → World → Prop} (hgd : op.guard = none) (ty : TypeId) (x y : Operand) (ho : op.op = .store ty x y)
    (l2 : List Int) (hx : a.eval x = .pointer (some ⟨g, 0, none⟩)) (hy : a.eval y = .agg (l2.map (Value.int k)).toArray) (hr : RowAt k e g cap l w) (hl : l2.length = l.length) (hi : (P.info? ty).map (·.size) = some l.length)
    (h : ∀ w', RowAt k e g cap l2 w' → Wrote g w w' → wpList P ops Q rest (a.put op.dst undef) w') : wpList P ops Q (op :: rest) a w :=
  wpList_plain hgd fun _ hK => wp_store_row ty x y ho l2 hx hy hr hl hi fun w' h1 h2 => hK _ _ (h w' h1 h2)
/-- What is loaded of a row as a whole. -/
theorem RowAt.load {k : IntKind} {e : TypeId} {g cap : Nat} {l : List Int} {w : World} {P : Program} (hr : RowAt k e g cap l w) {ty : TypeId} {d : TypeDesc} (hu : P.underlying ty = some d) (hd : d.isRow = true) (hi : (P.info? ty).map (·.size) = some l.length) :
    (loadVar ty ⟨g, 0, none⟩).run P w = .ok (.agg (l.map (Value.int k)).toArray) w :=
  run_loadVar_mid w g 0 ty (l.map (Value.int k)) d (fun j v hv => by
    have hj : j < l.length := by
      rcases Nat.lt_or_ge j l.length with h | h
      · exact h
      · simp [List.getElem?_eq_none h] at hv
    rw [Nat.zero_add, hr.cell hj]
    simp [hj] at hv
    simp [hj, hv]) hu hd (by simpa using hi)
/-- A block that was just made holds the row. -/
theorem RowAt.fresh {k : IntKind} {e : TypeId} {w : World} (l : List Int) {cs : Array Value} {b n : Nat} (h : cs = (l.map (Value.int k)).toArray) (hb : b = w.heap.size) (hn : n = l.length) (hne : l ≠ []) (hm : l.length ≤ maxLen) :
    RowAt k e b n l (w.alloc (.cells cs e)) := by
  subst h hb hn
  have hN : NewI k e w (.slice (some ⟨w.heap.size, 0, none⟩) l.length l.length) l (w.alloc (.cells (l.map (Value.int k)).toArray e)) := NewI.lit l rfl rfl rfl hm
  obtain ⟨gs, caps, es, hgs, hrow⟩ := hN.row hne
  simp only [Value.slice.injEq, Option.some.injEq, Addr.mk.injEq, and_true, true_and] at es
  obtain ⟨rfl, rfl⟩ := es
  exact hrow
theorem cellU {w W : World} {p : Addr} {v : Value} (h : w.cell? p = some v) (hb : Below w.drew.heap.size w.drew W) : W.cell? p = some v := by
  have h1 : w.drew.cell? p = some v := h
  rw [hb.cell (World.block_lt_of_cell? _ _ h1)]
  exact h1
/-- A call returns the array that lies in its result's block. -/
theorem bodyPost_row {k : IntKind} {e : TypeId} {g cap : Nat} {l : List Int} {P : Program} {fn : Func} {p : Tmp} {ty : TypeId} {d : TypeDesc} {R : Ending → World → Prop} {a : Act} {w : World} (h : fn.results = #[.cell p ty]) (hd : a.defers = [])
    (hp : a.tmps.getD p undef = .pointer (some ⟨g, 0, none⟩)) (hr : RowAt k e g cap l w) (hu : P.underlying ty = some d) (hrow : d.isRow = true) (hi : (P.info? ty).map (·.size) = some l.length)
    (hR : R (.returned (.agg (l.map (Value.int k)).toArray)) w) : bodyPost P fn R .ret a w := by
  refine bodyPost_ret ?_ hd hR
  have hp' : a.tmps[p]?.getD undef = .pointer (some ⟨g, 0, none⟩) := by simpa using hp
  have hl := hr.load (P := P) hu hrow hi
  simp [results, h, hp', asAddr, hl]
end Go.Proofs.YtkoecgoajbgkgaaDoor

/- The document's steps Rho, Pi, Chi and the constants' bits, as far as they are made at each point of their loops: plain mathematics. No program's text is named. -/
namespace Go.Proofs.YtkoecgoajbgkgaaDoor
set_option linter.unusedSimpArgs false
set_option linter.unusedVariables false

/-! ### One bit more anywhere -/
theorem ofB_flip (g : Nat → Bool) (p : Nat) (hg : g p = false) : ∀ n, p < n → ofB (fun i => if i = p then true else g i) n = ofB g n + 2 ^ p
  | 0, h => by omega
  | n + 1, h => by
    rw [ofB_succ, ofB_succ]
    by_cases e : p = n
    · subst e
      have h1 : ofB (fun i => if i = p then true else g i) p = ofB g p := ofB_congr p fun i hi => by simp [show i ≠ p by omega]
      rw [h1]
      simp [hg]
    · have ih := ofB_flip g p hg n (by omega)
      rw [ih]
      simp only [show n ≠ p from fun h => e h.symm, if_false]
      omega

/-! ### Pi -/
def piF (f : Nat → Nat) (i : Nat) : Nat := f ((i % 5 + 3 * (i / 5)) % 5 + 5 * (i % 5))
def piP (f : Nat → Nat) (X Y : Nat) (i : Nat) : Nat := if i % 5 < X ∨ (i % 5 = X ∧ i / 5 < Y) then piF f i else 0
theorem piP_start (f : Nat → Nat) : stL (fun _ => 0) = stL (piP f 0 0) := stL_congr fun i hi => by simp [piP]
theorem piP_end (f : Nat → Nat) (X : Nat) : stL (piP f X 5) = stL (piP f (X + 1) 0) := stL_congr fun i hi => by
  unfold piP
  have h1 : (i % 5 < X ∨ i % 5 = X ∧ i / 5 < 5) ↔ (i % 5 < X + 1 ∨ i % 5 = X + 1 ∧ i / 5 < 0) := by omega
  simp only [h1]
theorem piP_done (f : Nat → Nat) : stL (piP f 5 0) = stL (piF f) := stL_congr fun i hi => by
  unfold piP
  simp [show i % 5 < 5 by omega]
theorem piP_set (f : Nat → Nat) (X Y : Nat) (hX : X < 5) (hY : Y < 5) : (stL (piP f X Y)).set (X + 5 * Y) ((f ((X + 3 * Y) % 5 + 5 * X) : Nat) : Int) = stL (piP f X (Y + 1)) := by
  rw [stL_set]
  refine stL_congr fun i hi => ?_
  by_cases e : i = X + 5 * Y
  · subst e
    have e1 : (X + 5 * Y) % 5 = X := by omega
    have e2 : (X + 5 * Y) / 5 = Y := by omega
    simp [piP, piF, e1, e2]
  · simp only [e, if_false]
    unfold piP
    have h1 : (i % 5 < X ∨ i % 5 = X ∧ i / 5 < Y) ↔ (i % 5 < X ∨ i % 5 = X ∧ i / 5 < Y + 1) := by omega
    simp only [h1]

/-! ### Chi -/
def chB (f : Nat → Nat) (x y z : Nat) : Bool := decide ((bitN f x y z + if bitN f ((x + 1) % 5) y z = 0 ∧ bitN f ((x + 2) % 5) y z = 1 then 1 else 0) % 2 = 1)
def chF (f : Nat → Nat) (i : Nat) : Nat := ofB (chB f (i % 5) (i / 5)) 64
def chP (f : Nat → Nat) (X Y Z : Nat) (i : Nat) : Nat :=
  if i % 5 < X ∨ (i % 5 = X ∧ i / 5 < Y) then chF f i else if i % 5 = X ∧ i / 5 = Y then ofB (chB f X Y) Z else 0
theorem chP_start (f : Nat → Nat) : stL (fun _ => 0) = stL (chP f 0 0 0) := stL_congr fun i hi => by simp [chP, ofB]
theorem chP_laneEnd (f : Nat → Nat) (X Y : Nat) : stL (chP f X Y 64) = stL (chP f X (Y + 1) 0) := stL_congr fun i hi => by
  unfold chP
  by_cases h1 : i % 5 < X ∨ (i % 5 = X ∧ i / 5 < Y)
  · rw [if_pos h1, if_pos (by omega)]
  · by_cases h2 : i % 5 = X ∧ i / 5 = Y
    · rw [if_neg h1, if_pos h2, if_pos (by omega)]
      unfold chF
      rw [h2.1, h2.2]
    · rw [if_neg h1, if_neg h2, if_neg (by omega)]
      split <;> simp [ofB]
theorem chP_colEnd (f : Nat → Nat) (X : Nat) : stL (chP f X 5 0) = stL (chP f (X + 1) 0 0) := stL_congr fun i hi => by
  unfold chP
  by_cases h1 : i % 5 < X ∨ (i % 5 = X ∧ i / 5 < 5)
  · rw [if_pos h1, if_pos (by omega)]
  · rw [if_neg h1, if_neg (by omega), if_neg (by omega)]
    split <;> simp [ofB]
theorem chP_done (f : Nat → Nat) : stL (chP f 5 0 0) = stL (chF f) := stL_congr fun i hi => by
  unfold chP
  rw [if_pos (by omega)]
theorem chP_skip (f : Nat → Nat) (X Y Z : Nat) (h : chB f X Y Z = false) : stL (chP f X Y Z) = stL (chP f X Y (Z + 1)) := stL_congr fun i hi => by
  unfold chP
  by_cases h1 : i % 5 < X ∨ (i % 5 = X ∧ i / 5 < Y)
  · rw [if_pos h1, if_pos h1]
  · rw [if_neg h1, if_neg h1]
    simp [ofB_succ, h]
theorem chP_lane (f : Nat → Nat) (X Y Z : Nat) (hX : X < 5) : chP f X Y Z (X + 5 * Y) = ofB (chB f X Y) Z := by
  have e1 : (X + 5 * Y) % 5 = X := by omega
  have e2 : (X + 5 * Y) / 5 = Y := by omega
  simp [chP, e1, e2]
theorem chP_put (f : Nat → Nat) (X Y Z : Nat) (hX : X < 5) (h : chB f X Y Z = true) :
    (stL (chP f X Y Z)).set (X + 5 * Y) ((chP f X Y Z (X + 5 * Y) + 2 ^ Z : Nat) : Int) = stL (chP f X Y (Z + 1)) := by
  rw [stL_set]
  refine stL_congr fun i hi => ?_
  by_cases e : i = X + 5 * Y
  · subst e
    simp only [if_true]
    rw [chP_lane f X Y Z hX, chP_lane f X Y (Z + 1) hX, ofB_succ]
    simp [h]
  · simp only [e, if_false]
    unfold chP
    have h2 : ¬ (i % 5 = X ∧ i / 5 = Y) := by omega
    simp only [h2, if_false]
theorem pow_room (g : Nat → Bool) (Z : Nat) (hZ : Z < 64) : ofB g Z + 2 ^ Z < 18446744073709551616 := by
  have h1 := ofB_lt g Z
  have h2 := Nat.pow_le_pow_right (show 0 < 2 by decide) (show Z + 1 ≤ 64 by omega)
  have h3 : 2 ^ 64 = 18446744073709551616 := by decide
  rw [Nat.pow_succ] at h2
  omega

/-! ### Rho -/
/-- Where the walk over the lanes stands behind t steps, as x and y. -/
def rhXY : Nat → Nat × Nat
  | 0 => (1, 0)
  | t + 1 => ((rhXY t).2, (2 * (rhXY t).1 + 3 * (rhXY t).2) % 5)
def rhPos (t : Nat) : Nat := (rhXY t).1 + 5 * (rhXY t).2
def rhBy (t : Nat) : Nat := (t + 1) * (t + 2) / 2 % 64
/-- At which step lane i comes. -/
def rhTau (i : Nat) : Nat := (List.range 24).findIdx fun t => rhPos t == i
theorem rhXY_lt : ∀ t, t < 25 → (rhXY t).1 < 5 ∧ (rhXY t).2 < 5 := by decide
theorem rhTau_pos : ∀ t, t < 24 → rhTau (rhPos t) = t ∧ rhPos t ≠ 0 := by decide
theorem rhPos_tau : ∀ i, i < 25 → i ≠ 0 → rhTau i < 24 ∧ rhPos (rhTau i) = i := by decide
/-- The lane that is turned by step t, as far as its first z bits have come. -/
def rhG (f : Nat → Nat) (t z p : Nat) : Bool := decide ((p + 64 - rhBy t) % 64 < z) && decide (bitN f (rhXY t).1 (rhXY t).2 ((p + 64 - rhBy t) % 64) = 1)
def rhP (f : Nat → Nat) (t z : Nat) (i : Nat) : Nat :=
  if i = 0 then f 0 else if rhTau i < t then ofB (rhG f (rhTau i) 64) 64 else if rhTau i = t then ofB (rhG f t z) 64 else 0
def rhF (f : Nat → Nat) (i : Nat) : Nat := if i = 0 then f 0 else ofB (rhG f (rhTau i) 64) 64
theorem rhBy_lt (t : Nat) : rhBy t < 64 := Nat.mod_lt _ (by decide)
theorem rhG_zero (f : Nat → Nat) (t : Nat) : ofB (rhG f t 0) 64 = 0 := by
  have h : ∀ n, ofB (fun _ => false) n = 0 := by
    intro n
    induction n with
    | zero => rfl
    | succ n ih => simp [ofB_succ, ih]
  rw [ofB_congr (h := fun _ => false) 64 (fun i hi => by simp [rhG]), h]
theorem rhP_start (f : Nat → Nat) : (stL (fun _ => 0)).set 0 ((f 0 : Nat) : Int) = stL (rhP f 0 0) := by
  rw [stL_set]
  refine stL_congr fun i hi => ?_
  unfold rhP
  by_cases h : i = 0
  · simp [h]
  · simp only [h, if_false, Nat.not_lt_zero]
    split
    · exact (rhG_zero f 0).symm
    · rfl
theorem rhP_stepEnd (f : Nat → Nat) (t : Nat) (ht : t < 24) : stL (rhP f t 64) = stL (rhP f (t + 1) 0) := stL_congr fun i hi => by
  unfold rhP
  by_cases h : i = 0
  · simp [h]
  · simp only [h, if_false]
    by_cases h1 : rhTau i < t
    · simp [h1, show rhTau i < t + 1 by omega]
    · by_cases h2 : rhTau i = t
      · simp [h2]
      · simp only [h1, h2, show ¬ rhTau i < t + 1 by omega, if_false]
        split
        · exact (rhG_zero f (t + 1)).symm
        · rfl
theorem rhP_done (f : Nat → Nat) : stL (rhP f 24 0) = stL (rhF f) := stL_congr fun i hi => by
  unfold rhP rhF
  by_cases h : i = 0
  · simp [h]
  · simp [h, (rhPos_tau i hi h).1]
theorem rhG_succ (f : Nat → Nat) (t z : Nat) (hz : z < 64) (i : Nat) (hi : i < 64) :
    rhG f t (z + 1) i = if i = (z + rhBy t) % 64 then decide (bitN f (rhXY t).1 (rhXY t).2 z = 1) else rhG f t z i := by
  have hb := rhBy_lt t
  unfold rhG
  by_cases e : i = (z + rhBy t) % 64
  · have e2 : (i + 64 - rhBy t) % 64 = z := by omega
    simp [e2, e.symm]
  · have e2 : (i + 64 - rhBy t) % 64 ≠ z := by omega
    simp only [e, if_false]
    have e3 : ((i + 64 - rhBy t) % 64 < z + 1) ↔ ((i + 64 - rhBy t) % 64 < z) := by omega
    simp only [e3]
theorem rhG_fresh (f : Nat → Nat) (t z : Nat) (hz : z < 64) : rhG f t z ((z + rhBy t) % 64) = false := by
  have hb := rhBy_lt t
  unfold rhG
  have e2 : ((z + rhBy t) % 64 + 64 - rhBy t) % 64 = z := by omega
  simp [e2]
theorem rhG_skip (f : Nat → Nat) (t z : Nat) (hz : z < 64) (h : bitN f (rhXY t).1 (rhXY t).2 z ≠ 1) : ofB (rhG f t z) 64 = ofB (rhG f t (z + 1)) 64 :=
  ofB_congr 64 fun i hi => by
    rw [rhG_succ f t z hz i hi]
    by_cases e : i = (z + rhBy t) % 64
    · subst e
      rw [rhG_fresh f t z hz]
      simp [h]
    · simp [e]
theorem rhG_put (f : Nat → Nat) (t z : Nat) (hz : z < 64) (h : bitN f (rhXY t).1 (rhXY t).2 z = 1) : ofB (rhG f t z) 64 + 2 ^ ((z + rhBy t) % 64) = ofB (rhG f t (z + 1)) 64 := by
  rw [← ofB_flip (rhG f t z) ((z + rhBy t) % 64) (rhG_fresh f t z hz) 64 (Nat.mod_lt _ (by decide))]
  refine (ofB_congr 64 fun i hi => ?_).symm
  rw [rhG_succ f t z hz i hi]
  by_cases e : i = (z + rhBy t) % 64 <;> simp [e, h]
theorem rhP_lane (f : Nat → Nat) (t z : Nat) (ht : t < 24) : rhP f t z (rhPos t) = ofB (rhG f t z) 64 := by
  obtain ⟨h1, h2⟩ := rhTau_pos t ht
  simp [rhP, h1, h2]
theorem rhP_skip (f : Nat → Nat) (t z : Nat) (hz : z < 64) (h : bitN f (rhXY t).1 (rhXY t).2 z ≠ 1) : stL (rhP f t z) = stL (rhP f t (z + 1)) := stL_congr fun i hi => by
  unfold rhP
  rw [rhG_skip f t z hz h]
theorem rhP_put (f : Nat → Nat) (t z : Nat) (ht : t < 24) (hz : z < 64) (h : bitN f (rhXY t).1 (rhXY t).2 z = 1) :
    (stL (rhP f t z)).set ((rhXY t).1 + 5 * (rhXY t).2) ((rhP f t z ((rhXY t).1 + 5 * (rhXY t).2) + 2 ^ ((z + rhBy t) % 64) : Nat) : Int) = stL (rhP f t (z + 1)) := by
  have hp : (rhXY t).1 + 5 * (rhXY t).2 = rhPos t := rfl
  rw [hp, stL_set]
  refine stL_congr fun i hi => ?_
  by_cases e : i = rhPos t
  · subst e
    simp only [if_true]
    rw [rhP_lane f t z ht, rhP_lane f t (z + 1) ht]
    exact rhG_put f t z hz h
  · simp only [e, if_false]
    unfold rhP
    by_cases h0 : i = 0
    · simp [h0]
    · have h1 : rhTau i ≠ t := by
        intro h2
        exact e (by rw [← h2]; exact ((rhPos_tau i hi h0).2).symm)
      simp [h0, h1]
theorem rhP_room (f : Nat → Nat) (t z : Nat) (ht : t < 24) (hz : z < 64) (h : bitN f (rhXY t).1 (rhXY t).2 z = 1) : rhP f t z ((rhXY t).1 + 5 * (rhXY t).2) + 2 ^ ((z + rhBy t) % 64) < 18446744073709551616 := by
  have hp : (rhXY t).1 + 5 * (rhXY t).2 = rhPos t := rfl
  rw [hp, rhP_lane f t z ht, rhG_put f t z hz h]
  exact ofB_64 _ _ (Nat.le_refl _)

/-! ### The bits of the constants -/
def rcStep (r : List Int) : List Int :=
  [r.getD 7 0 % 2, r.getD 0 0, r.getD 1 0, r.getD 2 0, (r.getD 3 0 + r.getD 7 0) % 2, (r.getD 4 0 + r.getD 7 0) % 2, (r.getD 5 0 + r.getD 7 0) % 2, r.getD 6 0]
def rcS : Nat → List Int
  | 0 => [1, 0, 0, 0, 0, 0, 0, 0]
  | n + 1 => rcStep (rcS n)
theorem rcS_ok : ∀ n, ∃ a b c d e f g h : Int, rcS n = [a, b, c, d, e, f, g, h] ∧ (0 ≤ a ∧ a ≤ 1) ∧ (0 ≤ b ∧ b ≤ 1) ∧ (0 ≤ c ∧ c ≤ 1) ∧ (0 ≤ d ∧ d ≤ 1) ∧ (0 ≤ e ∧ e ≤ 1) ∧ (0 ≤ f ∧ f ≤ 1) ∧ (0 ≤ g ∧ g ≤ 1) ∧ (0 ≤ h ∧ h ≤ 1)
  | 0 => ⟨1, 0, 0, 0, 0, 0, 0, 0, rfl, by decide, by decide, by decide, by decide, by decide, by decide, by decide, by decide⟩
  | n + 1 => by
    obtain ⟨a, b, c, d, e, f, g, h, he, ha, hb, hc, hd, he', hf, hg, hh⟩ := rcS_ok n
    refine ⟨h % 2, a, b, c, (d + h) % 2, (e + h) % 2, (f + h) % 2, g, ?_, by omega, ha, hb, hc, by omega, by omega, by omega, hg⟩
    show rcStep (rcS n) = _
    rw [he]
    rfl
end Go.Proofs.YtkoecgoajbgkgaaDoor

/- The document's step Iota, rounds, and all rounds: plain mathematics. No program's text is named. -/
namespace Go.Proofs.YtkoecgoajbgkgaaDoor
set_option linter.unusedSimpArgs false
set_option linter.unusedVariables false

/-- Bit t of the row that makes the constants. -/
def rcB (t : Nat) : Bool := decide ((rcS (t % 255)).getD 0 0 = 1)
def ioT (i J p : Nat) : Bool := (List.range J).any fun j => decide (p = 2 ^ j - 1) && rcB (j + 7 * i)
def ioG (x i J p : Nat) : Bool := Bool.xor (decide (x / 2 ^ p % 2 = 1)) (ioT i J p)
def ioL (x i J : Nat) : Nat := ofB (ioG x i J) 64
def ioF (f : Nat → Nat) (i k : Nat) : Nat := if k = 0 then ioL (f 0) i 7 else f k
def ioP (f : Nat → Nat) (i J k : Nat) : Nat := if k = 0 then ioL (f 0) i J else f k
theorem ioT_zero (i p : Nat) : ioT i 0 p = false := by simp [ioT]
theorem ioT_succ (i J p : Nat) : ioT i (J + 1) p = (ioT i J p || (decide (p = 2 ^ J - 1) && rcB (J + 7 * i))) := by
  simp [ioT, List.range_succ]
theorem ioT_fresh (i J : Nat) : ioT i J (2 ^ J - 1) = false := by
  unfold ioT
  rw [List.any_eq_false]
  intro j hj
  have hjJ := List.mem_range.1 hj
  have h1 := Nat.pow_lt_pow_right (show 1 < 2 by decide) hjJ
  have h2 := Nat.pow_pos (n := j) (show 0 < 2 by decide)
  have h3 : ¬ (2 ^ J - 1 = 2 ^ j - 1) := by omega
  simp [h3]
theorem ioL_zero (x i : Nat) (hx : x < 18446744073709551616) : ioL x i 0 = x := by
  have e := ofB_self x 64
  have h64 : (2 : Nat) ^ 64 = 18446744073709551616 := by decide
  rw [h64, Nat.mod_eq_of_lt hx] at e
  unfold ioL
  rw [← e]
  refine ofB_congr 64 fun p hp => ?_
  unfold ioG
  rw [ioT_zero, Bool.xor_false, e]
theorem ioL_skip (x i J : Nat) (h : rcB (J + 7 * i) = false) : ioL x i J = ioL x i (J + 1) := ofB_congr 64 fun p hp => by
  unfold ioG
  rw [ioT_succ, h]
  simp
theorem pos_lt (J : Nat) (hJ : J ≤ 6) : 2 ^ J - 1 < 64 := by
  have := Nat.pow_le_pow_right (show 0 < 2 by decide) hJ
  have h6 : 2 ^ 6 = 64 := by decide
  omega
theorem ioG_succ (x i J p : Nat) (h : rcB (J + 7 * i) = true) : ioG x i (J + 1) p = if p = 2 ^ J - 1 then !(ioG x i J p) else ioG x i J p := by
  unfold ioG
  rw [ioT_succ, h]
  by_cases e : p = 2 ^ J - 1
  · have hf := ioT_fresh i J
    rw [← e] at hf
    simp [e.symm, hf]
  · simp [e]
theorem ioL_up (x i J : Nat) (hJ : J ≤ 6) (h : rcB (J + 7 * i) = true) (hb : x / 2 ^ (2 ^ J - 1) % 2 = 0) : ioL x i (J + 1) = ioL x i J + 2 ^ (2 ^ J - 1) := by
  have hg : ioG x i J (2 ^ J - 1) = false := by unfold ioG; rw [ioT_fresh, hb]; rfl
  unfold ioL
  rw [← ofB_flip (ioG x i J) (2 ^ J - 1) hg 64 (pos_lt J hJ)]
  refine ofB_congr 64 fun p hp => ?_
  rw [ioG_succ x i J p h]
  by_cases e : p = 2 ^ J - 1
  · rw [if_pos e, if_pos e, e, hg]; rfl
  · rw [if_neg e, if_neg e]
theorem ioL_down (x i J : Nat) (hJ : J ≤ 6) (h : rcB (J + 7 * i) = true) (hb : x / 2 ^ (2 ^ J - 1) % 2 = 1) : ioL x i (J + 1) + 2 ^ (2 ^ J - 1) = ioL x i J := by
  have hg : ioG x i J (2 ^ J - 1) = true := by unfold ioG; rw [ioT_fresh, hb]; rfl
  have hg2 : ioG x i (J + 1) (2 ^ J - 1) = false := by rw [ioG_succ x i J _ h, if_pos rfl, hg]; rfl
  unfold ioL
  rw [← ofB_flip (ioG x i (J + 1)) (2 ^ J - 1) hg2 64 (pos_lt J hJ)]
  refine ofB_congr 64 fun p hp => ?_
  by_cases e : p = 2 ^ J - 1
  · rw [if_pos e, e, hg]
  · rw [if_neg e, ioG_succ x i J p h, if_neg e]
theorem ioL_lt (x i J : Nat) : ioL x i J < 18446744073709551616 := ofB_64 _ _ (Nat.le_refl _)
theorem ioP_zero (f : Nat → Nat) (i : Nat) (h0 : f 0 < 18446744073709551616) : stL f = stL (ioP f i 0) := stL_congr fun k hk => by
  unfold ioP
  by_cases e : k = 0
  · subst e; rw [if_pos rfl, ioL_zero _ _ h0]
  · rw [if_neg e]
theorem ioP_set (f : Nat → Nat) (i J : Nat) : (stL (ioP f i J)).set 0 ((ioL (f 0) i (J + 1) : Nat) : Int) = stL (ioP f i (J + 1)) := by
  rw [stL_set]
  refine stL_congr fun k hk => ?_
  unfold ioP
  by_cases e : k = 0 <;> simp [e]
theorem ioP_skip (f : Nat → Nat) (i J : Nat) (h : rcB (J + 7 * i) = false) : stL (ioP f i J) = stL (ioP f i (J + 1)) := stL_congr fun k hk => by
  unfold ioP
  rw [ioL_skip _ _ _ h]
theorem ioP_done (f : Nat → Nat) (i : Nat) : stL (ioP f i 7) = stL (ioF f i) := rfl

theorem thF_lt (f : Nat → Nat) (i : Nat) : thF f i < 18446744073709551616 := ofB_64 _ _ (Nat.le_refl _)
theorem chF_lt (f : Nat → Nat) (i : Nat) : chF f i < 18446744073709551616 := ofB_64 _ _ (Nat.le_refl _)
theorem rhF_lt (f : Nat → Nat) (hf : ∀ i, f i < 18446744073709551616) (i : Nat) : rhF f i < 18446744073709551616 := by
  unfold rhF
  split
  · exact hf 0
  · exact ofB_64 _ _ (Nat.le_refl _)
theorem piF_lt (f : Nat → Nat) (hf : ∀ i, f i < 18446744073709551616) (i : Nat) : piF f i < 18446744073709551616 := hf _
theorem ioF_lt (f : Nat → Nat) (hf : ∀ i, f i < 18446744073709551616) (j i : Nat) : ioF f j i < 18446744073709551616 := by
  unfold ioF
  split
  · exact ioL_lt _ _ _
  · exact hf i
/-- A round of a state. -/
def rdF (f : Nat → Nat) (i : Nat) : Nat → Nat := ioF (chF (piF (rhF (thF f)))) i
theorem rdF_lt (f : Nat → Nat) (j i : Nat) : rdF f j i < 18446744073709551616 := ioF_lt _ (chF_lt _) _ _
/-- The first n rounds. -/
def rdsF (f : Nat → Nat) : Nat → Nat → Nat
  | 0 => f
  | n + 1 => rdF (rdsF f n) n
theorem rdsF_lt (f : Nat → Nat) (hf : ∀ i, f i < 18446744073709551616) : ∀ n i, rdsF f n i < 18446744073709551616
  | 0, i => hf i
  | n + 1, i => rdF_lt _ _ _
end Go.Proofs.YtkoecgoajbgkgaaDoor

/- Lane by lane what the document says bit by bit: sums, turned lanes, products of lanes, the constants: plain mathematics. No program's text is named. -/
namespace Go.Proofs.YtkoecgoajbgkgaaDoor
set_option linter.unusedSimpArgs false
set_option linter.unusedVariables false

/-- Bit z of a number, as a number. -/
def bt (x z : Nat) : Nat := x / 2 ^ z % 2
theorem bt_lt (x z : Nat) : bt x z < 2 := Nat.mod_lt _ (by decide)
theorem bt_test (x z : Nat) : x.testBit z = decide (bt x z = 1) := Nat.testBit_eq_decide_div_mod_eq
theorem bt_of (x z : Nat) : bt x z = (x.testBit z).toNat := by
  rw [bt_test]
  have := bt_lt x z
  have h : bt x z = 0 ∨ bt x z = 1 := by omega
  rcases h with h | h <;> simp [h]
theorem bitN_bt (f : Nat → Nat) (x y z : Nat) : bitN f x y z = bt (f (x + 5 * y)) z := rfl
theorem bt_xor (x y z : Nat) : bt (x ^^^ y) z = (bt x z + bt y z) % 2 := by
  simp only [bt_of, Nat.testBit_xor]
  cases x.testBit z <;> cases y.testBit z <;> rfl
theorem bt_and (x y z : Nat) : bt (x &&& y) z = bt x z * bt y z := by
  simp only [bt_of, Nat.testBit_and]
  cases x.testBit z <;> cases y.testBit z <;> rfl
theorem ext64 {x y : Nat} (hx : x < 18446744073709551616) (hy : y < 18446744073709551616) (h : ∀ z, z < 64 → bt x z = bt y z) : x = y := lanes_ext hx hy h
theorem xor_lt64 {x y : Nat} (hx : x < 18446744073709551616) (hy : y < 18446744073709551616) : x ^^^ y < 18446744073709551616 := by
  have h64 : (2 : Nat) ^ 64 = 18446744073709551616 := by decide
  rw [← h64] at *
  exact Nat.xor_lt_two_pow hx hy

/-! ### A lane that is turned -/
def rotN (x n : Nat) : Nat := x * 2 ^ n % 18446744073709551616 + x / 2 ^ (64 - n)
theorem rotN_bit (x n z : Nat) (hx : x < 18446744073709551616) (hn : n < 64) (hn0 : 0 < n) (hz : z < 64) : bt (rotN x n) z = bt x ((z + 64 - n) % 64) := by
  have h64 : (18446744073709551616 : Nat) = 2 ^ n * 2 ^ (64 - n) := by rw [← Nat.pow_add, show n + (64 - n) = 64 by omega]
  have hB : x / 2 ^ (64 - n) < 2 ^ n := by
    refine Nat.div_lt_of_lt_mul ?_
    rw [Nat.mul_comm, ← h64]
    exact hx
  have e1 : rotN x n = 2 ^ n * (x % 2 ^ (64 - n)) + x / 2 ^ (64 - n) := by
    unfold rotN
    rw [h64, Nat.mul_comm x, Nat.mul_mod_mul_left]
  rw [e1]
  by_cases h : z < n
  · have hz2 : (z + 64 - n) % 64 = 64 - n + z := by omega
    rw [hz2]
    unfold bt
    obtain ⟨d, hd⟩ : ∃ d, n = z + (d + 1) := ⟨n - z - 1, by omega⟩
    have e2 : 2 ^ n * (x % 2 ^ (64 - n)) = 2 ^ z * (2 * (2 ^ d * (x % 2 ^ (64 - n)))) := by
      rw [hd, Nat.pow_add, Nat.pow_succ]
      ac_rfl
    rw [e2, Nat.add_comm, Nat.add_mul_div_left _ _ (Nat.pow_pos (by decide)), Nat.add_mul_mod_self_left, Nat.div_div_eq_div_mul, ← Nat.pow_add]
  · have hz2 : (z + 64 - n) % 64 = z - n := by omega
    rw [hz2]
    have e3 : (2 ^ n * (x % 2 ^ (64 - n)) + x / 2 ^ (64 - n)) / 2 ^ z = x % 2 ^ (64 - n) / 2 ^ (z - n) := by
      obtain ⟨d, hd⟩ : ∃ d, z = n + d := ⟨z - n, by omega⟩
      rw [hd, Nat.pow_add, ← Nat.div_div_eq_div_mul, Nat.mul_add_div (Nat.pow_pos (by decide)), Nat.div_eq_of_lt hB, Nat.add_zero, Nat.add_sub_cancel_left]
    have e4 : bt (x % 2 ^ (64 - n)) (z - n) = bt x (z - n) := by
      rw [bt_of, bt_of, Nat.testBit_mod_two_pow]
      simp [show z - n < 64 - n by omega]
    unfold bt at e4 ⊢
    rw [e3]
    exact e4
theorem rotN_lt (x n : Nat) (hx : x < 18446744073709551616) (hn : n < 64) : rotN x n < 18446744073709551616 := by
  have h64 : (18446744073709551616 : Nat) = 2 ^ n * 2 ^ (64 - n) := by rw [← Nat.pow_add, show n + (64 - n) = 64 by omega]
  have hB : x / 2 ^ (64 - n) < 2 ^ n := by
    refine Nat.div_lt_of_lt_mul ?_
    rw [Nat.mul_comm, ← h64]
    exact hx
  have e1 : rotN x n = 2 ^ n * (x % 2 ^ (64 - n)) + x / 2 ^ (64 - n) := by
    unfold rotN
    rw [h64, Nat.mul_comm x, Nat.mul_mod_mul_left]
  have h2 : x % 2 ^ (64 - n) + 1 ≤ 2 ^ (64 - n) := Nat.mod_lt _ (Nat.pow_pos (by decide))
  have h3 := Nat.mul_le_mul_left (2 ^ n) h2
  rw [← h64, Nat.mul_add] at h3
  omega
/-- Turned by n, 0 too. -/
def turnN (x n : Nat) : Nat := if n = 0 then x else rotN x n
theorem turnN_bit (x n z : Nat) (hx : x < 18446744073709551616) (hn : n < 64) (hz : z < 64) : bt (turnN x n) z = bt x ((z + 64 - n) % 64) := by
  unfold turnN
  split
  · rename_i h; subst h; rw [show (z + 64 - 0) % 64 = z by omega]
  · exact rotN_bit x n z hx hn (by omega) hz
theorem turnN_lt (x n : Nat) (hx : x < 18446744073709551616) (hn : n < 64) : turnN x n < 18446744073709551616 := by
  unfold turnN
  split
  · exact hx
  · exact rotN_lt x n hx hn

/-! ### Theta, lane by lane -/
def colN (f : Nat → Nat) (x : Nat) : Nat := f x ^^^ f (x + 5) ^^^ f (x + 10) ^^^ f (x + 15) ^^^ f (x + 20)
def thL (f : Nat → Nat) (k : Nat) : Nat := f k ^^^ colN f ((k % 5 + 4) % 5) ^^^ turnN (colN f ((k % 5 + 1) % 5)) 1
theorem colN_lt (f : Nat → Nat) (hf : ∀ i, f i < 18446744073709551616) (x : Nat) : colN f x < 18446744073709551616 :=
  xor_lt64 (xor_lt64 (xor_lt64 (xor_lt64 (hf _) (hf _)) (hf _)) (hf _)) (hf _)
theorem colN_bit (f : Nat → Nat) (x z : Nat) : bt (colN f x) z = (bitN f x 0 z + bitN f x 1 z + bitN f x 2 z + bitN f x 3 z + bitN f x 4 z) % 2 := by
  unfold colN
  simp only [bt_xor, bitN_bt]
  simp only [Nat.mul_zero, Nat.add_zero, Nat.mul_one, show 5 * 2 = 10 from rfl, show 5 * 3 = 15 from rfl, show 5 * 4 = 20 from rfl]
  omega
theorem thL_lt (f : Nat → Nat) (hf : ∀ i, f i < 18446744073709551616) (k : Nat) : thL f k < 18446744073709551616 :=
  xor_lt64 (xor_lt64 (hf _) (colN_lt f hf _)) (turnN_lt _ _ (colN_lt f hf _) (by decide))
theorem ofB_bt (g : Nat → Bool) (z : Nat) (hz : z < 64) : bt (ofB g 64) z = if g z then 1 else 0 := ofB_bit g 64 z hz
theorem if_odd (n : Nat) (b : Bool) (h : b = decide (n % 2 = 1)) : (if b then 1 else 0) = n % 2 := by
  subst h
  have := Nat.mod_two_eq_zero_or_one n
  rcases this with h | h <;> simp [h]
theorem thL_eq (f : Nat → Nat) (hf : ∀ i, f i < 18446744073709551616) (k : Nat) (hk : k < 25) : thL f k = thF f k := by
  refine ext64 (thL_lt f hf k) (thF_lt f k) fun z hz => ?_
  unfold thL thF
  rw [bt_xor, bt_xor, turnN_bit _ _ _ (colN_lt f hf _) (by decide) hz, colN_bit, colN_bit, ofB_bt _ _ hz, if_odd (thN f (k % 5) z 5 + bitN f (k % 5) (k / 5) z) (thB f (k % 5) (k / 5) z) rfl]
  simp only [thN]
  have e : k % 5 + 5 * (k / 5) = k := by omega
  rw [show bt (f k) z = bitN f (k % 5) (k / 5) z from by rw [bitN_bt, e]]
  rw [show (z + 64 - 1) % 64 = (z + 63) % 64 by omega]
  omega

/-! ### Rho, lane by lane -/
def rhL (f : Nat → Nat) (i : Nat) : Nat := if i = 0 then f 0 else turnN (f i) (rhBy (rhTau i))
theorem rhL_lt (f : Nat → Nat) (hf : ∀ i, f i < 18446744073709551616) (k : Nat) : rhL f k < 18446744073709551616 := by
  unfold rhL
  split
  · exact hf 0
  · exact turnN_lt _ _ (hf _) (rhBy_lt _)
theorem rhL_eq (f : Nat → Nat) (hf : ∀ i, f i < 18446744073709551616) (k : Nat) (hk : k < 25) : rhL f k = rhF f k := by
  unfold rhL rhF
  split
  · rfl
  · rename_i h0
    refine ext64 (turnN_lt _ _ (hf _) (rhBy_lt _)) (ofB_64 _ _ (Nat.le_refl _)) fun z hz => ?_
    obtain ⟨h1, h2⟩ := rhPos_tau k hk h0
    rw [turnN_bit _ _ _ (hf _) (rhBy_lt _) hz, ofB_bt _ _ hz]
    unfold rhG
    rw [bitN_bt, show (rhXY (rhTau k)).1 + 5 * (rhXY (rhTau k)).2 = k from h2]
    have hlt : (z + 64 - rhBy (rhTau k)) % 64 < 64 := Nat.mod_lt _ (by decide)
    have hb := bt_lt (f k) ((z + 64 - rhBy (rhTau k)) % 64)
    have hc : bt (f k) ((z + 64 - rhBy (rhTau k)) % 64) = 0 ∨ bt (f k) ((z + 64 - rhBy (rhTau k)) % 64) = 1 := by omega
    rcases hc with hc | hc <;> simp [hlt, hc]

/-! ### Chi, lane by lane -/
theorem sub_and (x y : Nat) : x - (x &&& y) = x ^^^ (x &&& y) := by
  have h : (x ^^^ (x &&& y)) + (x &&& y) = x := by
    have hle : x < 2 ^ (x + 1) := Nat.lt_of_lt_of_le Nat.lt_two_pow_self (Nat.pow_le_pow_right (by decide) (by omega))
    have ha : x &&& y < 2 ^ (x + 1) := Nat.lt_of_le_of_lt Nat.and_le_left hle
    have hx : x ^^^ (x &&& y) < 2 ^ (x + 1) := Nat.xor_lt_two_pow hle ha
    have e0 : BitVec.ofNat (x + 1) (x ^^^ (x &&& y)) &&& BitVec.ofNat (x + 1) (x &&& y) = 0#(x + 1) := by
      apply BitVec.eq_of_getLsbD_eq
      intro i hi
      simp only [BitVec.getLsbD_and, BitVec.getLsbD_ofNat, Nat.testBit_xor, Nat.testBit_and, BitVec.getLsbD_zero]
      cases x.testBit i <;> cases y.testBit i <;> simp
    have e1 := BitVec.add_eq_or_of_and_eq_zero _ _ e0
    have e2 := congrArg BitVec.toNat e1
    rw [BitVec.toNat_add, BitVec.toNat_or, BitVec.toNat_ofNat, BitVec.toNat_ofNat, Nat.mod_eq_of_lt hx, Nat.mod_eq_of_lt ha] at e2
    have e3 : (x ^^^ (x &&& y)) ||| (x &&& y) = x := by
      apply Nat.eq_of_testBit_eq
      intro i
      simp only [Nat.testBit_or, Nat.testBit_xor, Nat.testBit_and]
      cases x.testBit i <;> cases y.testBit i <;> rfl
    rw [e3] at e2
    have hx2 : (x ^^^ (x &&& y)) ≤ x := by
      have := Nat.mod_le ((x ^^^ (x &&& y)) + (x &&& y)) (2 ^ (x + 1))
      have h1 : (x ^^^ (x &&& y)) ||| (x &&& y) = x := e3
      have h2 : (x ^^^ (x &&& y)) ≤ (x ^^^ (x &&& y)) ||| (x &&& y) := Nat.left_le_or
      omega
    have hsum : (x ^^^ (x &&& y)) + (x &&& y) < 2 ^ (x + 1) := by
      have h1 : x &&& y ≤ x := Nat.and_le_left
      have h2 : 2 * x < 2 ^ (x + 1) := by rw [Nat.pow_succ]; have := @Nat.lt_two_pow_self x; omega
      omega
    rwa [Nat.mod_eq_of_lt hsum] at e2
  omega
def chL (f : Nat → Nat) (k : Nat) : Nat := f k ^^^ (f (k - k % 5 + (k % 5 + 2) % 5) - (f (k - k % 5 + (k % 5 + 2) % 5) &&& f (k - k % 5 + (k % 5 + 1) % 5)))
theorem chL_lt (f : Nat → Nat) (hf : ∀ i, f i < 18446744073709551616) (k : Nat) : chL f k < 18446744073709551616 :=
  xor_lt64 (hf _) (Nat.lt_of_le_of_lt (Nat.sub_le _ _) (hf _))
theorem chL_eq (f : Nat → Nat) (hf : ∀ i, f i < 18446744073709551616) (k : Nat) (hk : k < 25) : chL f k = chF f k := by
  refine ext64 (chL_lt f hf k) (chF_lt f k) fun z hz => ?_
  unfold chL chF
  rw [bt_xor, sub_and, bt_xor, bt_and, ofB_bt _ _ hz]
  unfold chB
  have e0 : k % 5 + 5 * (k / 5) = k := by omega
  have e1 : k - k % 5 + (k % 5 + 1) % 5 = (k % 5 + 1) % 5 + 5 * (k / 5) := by omega
  have e2 : k - k % 5 + (k % 5 + 2) % 5 = (k % 5 + 2) % 5 + 5 * (k / 5) := by omega
  rw [e1, e2, bitN_bt, bitN_bt, bitN_bt, e0]
  have h0 := bt_lt (f k) z
  have h1 := bt_lt (f ((k % 5 + 1) % 5 + 5 * (k / 5))) z
  have h2 := bt_lt (f ((k % 5 + 2) % 5 + 5 * (k / 5))) z
  generalize bt (f k) z = a at *
  generalize bt (f ((k % 5 + 1) % 5 + 5 * (k / 5))) z = b at *
  generalize bt (f ((k % 5 + 2) % 5 + 5 * (k / 5))) z = c at *
  have ha : a = 0 ∨ a = 1 := by omega
  have hb : b = 0 ∨ b = 1 := by omega
  have hc : c = 0 ∨ c = 1 := by omega
  rcases ha with rfl | rfl <;> rcases hb with rfl | rfl <;> rcases hc with rfl | rfl <;> decide
end Go.Proofs.YtkoecgoajbgkgaaDoor

/- The constants of the rounds, and rounds lane by lane: plain mathematics. No program's text is named. -/
namespace Go.Proofs.YtkoecgoajbgkgaaDoor
set_option linter.unusedSimpArgs false
set_option linter.unusedVariables false

/-- What is added in each round. -/
def kst : List Nat := [0x0000000000000001, 0x0000000000008082, 0x800000000000808a, 0x8000000080008000, 0x000000000000808b, 0x0000000080000001, 0x8000000080008081, 0x8000000000008009,
  0x000000000000008a, 0x0000000000000088, 0x0000000080008009, 0x000000008000000a, 0x000000008000808b, 0x800000000000008b, 0x8000000000008089, 0x8000000000008003,
  0x8000000000008002, 0x8000000000000080, 0x000000000000800a, 0x800000008000000a, 0x8000000080008081, 0x8000000000008080, 0x0000000080000001, 0x8000000080008008]
theorem kst_eq : ∀ i, i < 24 → ofB (ioT i 7) 64 = kst.getD i 0 := by decide +kernel
theorem kst_lt : ∀ i, i < 24 → kst.getD i 0 < 18446744073709551616 := by decide
theorem ioL_xor (x i : Nat) (hx : x < 18446744073709551616) (hi : i < 24) : ioL x i 7 = x ^^^ kst.getD i 0 := by
  rw [← kst_eq i hi]
  refine ext64 (ioL_lt _ _ _) (xor_lt64 hx (ofB_64 _ _ (Nat.le_refl _))) fun z hz => ?_
  unfold ioL
  rw [bt_xor, ofB_bt _ _ hz, ofB_bt _ _ hz]
  unfold ioG
  have hb := bt_lt x z
  have hc : bt x z = 0 ∨ bt x z = 1 := by omega
  rw [show x / 2 ^ z % 2 = bt x z from rfl]
  rcases hc with hc | hc <;> cases ioT i 7 z <;> simp [hc]

/-! ### Only the 25 lanes count -/
theorem bitN_congr {f g : Nat → Nat} (h : ∀ i, i < 25 → f i = g i) (x y z : Nat) (hx : x < 5) (hy : y < 5) : bitN f x y z = bitN g x y z := by
  unfold bitN
  rw [h _ (by omega)]
theorem thN_congr {f g : Nat → Nat} (h : ∀ i, i < 25 → f i = g i) (x z : Nat) : ∀ Y, Y ≤ 5 → thN f x z Y = thN g x z Y
  | 0, _ => rfl
  | Y + 1, hY => by
    unfold thN
    rw [thN_congr h x z Y (by omega), bitN_congr h _ Y z (by omega) (by omega), bitN_congr h _ Y _ (by omega) (by omega)]
theorem thF_congr {f g : Nat → Nat} (h : ∀ i, i < 25 → f i = g i) (k : Nat) (hk : k < 25) : thF f k = thF g k := by
  unfold thF
  refine ofB_congr 64 fun z hz => ?_
  unfold thB
  rw [thN_congr h _ z 5 (Nat.le_refl _), bitN_congr h _ _ z (by omega) (by omega)]
theorem rhF_congr {f g : Nat → Nat} (h : ∀ i, i < 25 → f i = g i) (k : Nat) (hk : k < 25) : rhF f k = rhF g k := by
  unfold rhF
  split
  · exact h 0 (by omega)
  · rename_i h0
    refine ofB_congr 64 fun z hz => ?_
    unfold rhG
    have hxy := rhXY_lt (rhTau k) (by have := (rhPos_tau k hk h0).1; omega)
    rw [bitN_congr h _ _ _ hxy.1 hxy.2]
theorem piF_congr {f g : Nat → Nat} (h : ∀ i, i < 25 → f i = g i) (k : Nat) (hk : k < 25) : piF f k = piF g k := h _ (by omega)
theorem chF_congr {f g : Nat → Nat} (h : ∀ i, i < 25 → f i = g i) (k : Nat) (hk : k < 25) : chF f k = chF g k := by
  unfold chF
  refine ofB_congr 64 fun z hz => ?_
  unfold chB
  rw [bitN_congr h _ _ z (by omega) (by omega), bitN_congr h ((k % 5 + 1) % 5) _ z (by omega) (by omega), bitN_congr h ((k % 5 + 2) % 5) _ z (by omega) (by omega)]
theorem ioF_congr {f g : Nat → Nat} (h : ∀ i, i < 25 → f i = g i) (i k : Nat) (hk : k < 25) : ioF f i k = ioF g i k := by
  unfold ioF
  split
  · rw [h 0 (by omega)]
  · exact h k hk
theorem rdF_congr {f g : Nat → Nat} (h : ∀ i, i < 25 → f i = g i) (i k : Nat) (hk : k < 25) : rdF f i k = rdF g i k :=
  ioF_congr (fun _ h4 => chF_congr (fun _ h3 => piF_congr (fun _ h2 => rhF_congr (fun _ h1 => thF_congr h _ h1) _ h2) _ h3) _ h4) i k hk
theorem rdsF_congr {f g : Nat → Nat} (h : ∀ i, i < 25 → f i = g i) : ∀ n k, k < 25 → rdsF f n k = rdsF g n k
  | 0, k, hk => h k hk
  | n + 1, k, hk => rdF_congr (rdsF_congr h n) n k hk

/-! ### A round, lane by lane -/
def ioK (f : Nat → Nat) (i k : Nat) : Nat := if k = 0 then f 0 ^^^ kst.getD i 0 else f k
def rdL (f : Nat → Nat) (i : Nat) : Nat → Nat := ioK (chL (piF (rhL (thL f)))) i
theorem rdL_eq (f : Nat → Nat) (hf : ∀ i, f i < 18446744073709551616) (i : Nat) (hi : i < 24) (k : Nat) (hk : k < 25) : rdL f i k = rdF f i k := by
  have h1 : ∀ j, j < 25 → thL f j = thF f j := fun j hj => thL_eq f hf j hj
  have h2 : ∀ j, j < 25 → rhL (thL f) j = rhF (thF f) j := fun j hj => (rhL_eq _ (thL_lt f hf) j hj).trans (rhF_congr h1 j hj)
  have h3 : ∀ j, j < 25 → piF (rhL (thL f)) j = piF (rhF (thF f)) j := fun j hj => piF_congr h2 j hj
  have h4 : ∀ j, j < 25 → chL (piF (rhL (thL f))) j = chF (piF (rhF (thF f))) j := fun j hj =>
    (chL_eq _ (piF_lt _ (rhL_lt _ (thL_lt f hf))) j hj).trans (chF_congr h3 j hj)
  unfold rdL rdF ioK ioF
  by_cases e : k = 0
  · rw [if_pos e, if_pos e, ioL_xor _ _ (chF_lt _ _) hi, h4 0 (by omega)]
  · rw [if_neg e, if_neg e, h4 k hk]
theorem rdL_lt (f : Nat → Nat) (hf : ∀ i, f i < 18446744073709551616) (i : Nat) (hi : i < 24) (k : Nat) : rdL f i k < 18446744073709551616 := by
  unfold rdL ioK
  have h := chL_lt _ (piF_lt _ (rhL_lt _ (thL_lt f hf)))
  split
  · exact xor_lt64 (h 0) (kst_lt i hi)
  · exact h k
/-- The first n rounds, lane by lane. -/
def rdsL (f : Nat → Nat) : Nat → Nat → Nat
  | 0 => f
  | n + 1 => rdL (rdsL f n) n
theorem rdsL_lt (f : Nat → Nat) (hf : ∀ i, f i < 18446744073709551616) : ∀ n, n ≤ 24 → ∀ k, rdsL f n k < 18446744073709551616
  | 0, _, k => hf k
  | n + 1, hn, k => rdL_lt _ (rdsL_lt f hf n (by omega)) n (by omega) k
theorem rdsL_eq (f : Nat → Nat) (hf : ∀ i, f i < 18446744073709551616) : ∀ n, n ≤ 24 → ∀ k, k < 25 → rdsL f n k = rdsF f n k
  | 0, _, _, _ => rfl
  | n + 1, hn, k, hk => (rdL_eq _ (rdsL_lt f hf n (by omega)) n (by omega) k hk).trans (rdF_congr (rdsL_eq f hf n (by omega)) n k hk)
theorem rdsL_st (f : Nat → Nat) (hf : ∀ i, f i < 18446744073709551616) : stL (rdsL f 24) = stL (rdsF f 24) := stL_congr fun k hk => rdsL_eq f hf 24 (Nat.le_refl _) k hk
end Go.Proofs.YtkoecgoajbgkgaaDoor

/- The loops of all rounds lane by lane, as far as they have come: plain mathematics. No program's text is named. -/
namespace Go.Proofs.YtkoecgoajbgkgaaDoor
set_option linter.unusedSimpArgs false
set_option linter.unusedVariables false

/-! ### Sums of columns -/
def cP (f : Nat → Nat) (X : Nat) : List Int := (List.range 5).map fun x => ((if x < X then colN f x else 0 : Nat) : Int)
theorem cP_length (f : Nat → Nat) (X : Nat) : (cP f X).length = 5 := by simp [cP]
theorem cP_zero (f : Nat → Nat) : List.replicate 5 (0 : Int) = cP f 0 := by simp [cP, List.range_succ, List.replicate]
theorem cP_set (f : Nat → Nat) (X : Nat) : (cP f X).set X ((colN f X : Nat) : Int) = cP f (X + 1) := by
  refine List.ext_getElem (by simp [cP]) fun i h1 h2 => ?_
  simp only [cP, List.getElem_set, List.getElem_map, List.getElem_range]
  by_cases e : X = i
  · subst e; simp
  · have : (i < X + 1) ↔ i < X := by omega
    simp [e, this]
theorem cP_get (f : Nat → Nat) (i : Nat) (hi : i < 5) : (cP f 5).getD i 0 = ((colN f i : Nat) : Int) := by
  simp [cP, hi]

/-! ### Lanes that are replaced one after the other -/
def upQ (f g : Nat → Nat) (K i : Nat) : Nat := if i < K then g i else f i
theorem upQ_zero (f g : Nat → Nat) : stL f = stL (upQ f g 0) := stL_congr fun i hi => by simp [upQ]
theorem upQ_done (f g : Nat → Nat) : stL (upQ f g 25) = stL g := stL_congr fun i hi => by simp [upQ, hi]
theorem upQ_set (f g : Nat → Nat) (K : Nat) : (stL (upQ f g K)).set K ((g K : Nat) : Int) = stL (upQ f g (K + 1)) := by
  rw [stL_set]
  refine stL_congr fun i hi => ?_
  unfold upQ
  by_cases e : i = K
  · subst e; simp
  · have : (i < K + 1) ↔ i < K := by omega
    simp [e, this]
theorem upQ_get (f g : Nat → Nat) (K : Nat) : upQ f g K K = f K := by simp [upQ]

/-! ### Turned and put elsewhere -/
def ppQ (f : Nat → Nat) (T i : Nat) : Nat := if i = 0 then f 0 else if (List.range T).any (fun t => rhPos (t + 1) == i) then piF (rhL f) i else 0
theorem ppQ_zero (f : Nat → Nat) : (stL (fun _ => 0)).set 0 ((f 0 : Nat) : Int) = stL (ppQ f 0) := by
  rw [stL_set]
  exact stL_congr fun i hi => by by_cases e : i = 0 <;> simp [ppQ, e]
theorem pp_all : ∀ i, i < 25 → i ≠ 0 → (List.range 24).any (fun t => rhPos (t + 1) == i) = true := by decide
theorem ppQ_done (f : Nat → Nat) : stL (ppQ f 24) = stL (piF (rhL f)) := stL_congr fun i hi => by
  unfold ppQ
  by_cases e : i = 0
  · subst e; simp [piF, rhL]
  · rw [if_neg e, if_pos (pp_all i hi e)]
theorem pp_from : ∀ T, T < 24 → (rhPos (T + 1) % 5 + 3 * (rhPos (T + 1) / 5)) % 5 + 5 * (rhPos (T + 1) % 5) = rhPos T ∧ rhPos (T + 1) ≠ 0 ∧ rhPos T ≠ 0 ∧ rhTau (rhPos T) = T ∧ rhPos T < 25 ∧ rhPos (T + 1) < 25 := by decide
theorem ppQ_val (f : Nat → Nat) (T : Nat) (hT : T < 24) : piF (rhL f) (rhPos (T + 1)) = turnN (f (rhPos T)) (rhBy T) := by
  obtain ⟨h1, h2, h3, h4, _⟩ := pp_from T hT
  unfold piF
  rw [h1]
  unfold rhL
  rw [if_neg h3, h4]
theorem ppQ_set (f : Nat → Nat) (T : Nat) (hT : T < 24) : (stL (ppQ f T)).set (rhPos (T + 1)) ((turnN (f (rhPos T)) (rhBy T) : Nat) : Int) = stL (ppQ f (T + 1)) := by
  obtain ⟨h1, h2, h3, h4, _⟩ := pp_from T hT
  rw [← ppQ_val f T hT, stL_set]
  refine stL_congr fun i hi => ?_
  unfold ppQ
  by_cases e : i = rhPos (T + 1)
  · subst e
    have : (List.range (T + 1)).any (fun t => rhPos (t + 1) == rhPos (T + 1)) = true := by
      rw [List.any_eq_true]
      exact ⟨T, List.mem_range.2 (by omega), by simp⟩
    simp [h2, this]
  · have : (List.range (T + 1)).any (fun t => rhPos (t + 1) == i) = (List.range T).any (fun t => rhPos (t + 1) == i) := by
      rw [List.range_succ, List.any_append]
      simp [Ne.symm e]
    simp [e, this]

/-! ### Numbers of 64 bits -/
theorem xorI (a b : Nat) (ha : a < 18446744073709551616) (hb : b < 18446744073709551616) : bits .xor .u64 (a : Int) (b : Int) = ((a ^^^ b : Nat) : Int) := u64_xor_nat a b ha hb
theorem andI (a b : Nat) (ha : a < 18446744073709551616) (hb : b < 18446744073709551616) : bits .and .u64 (a : Int) (b : Int) = ((a &&& b : Nat) : Int) := u64_and_nat a b ha hb
theorem colI (f : Nat → Nat) (hf : ∀ i, f i < 18446744073709551616) (x : Nat) :
    bits .xor .u64 (bits .xor .u64 (bits .xor .u64 (bits .xor .u64 ((f x : Nat) : Int) ((f (x + 5) : Nat) : Int)) ((f (x + 10) : Nat) : Int)) ((f (x + 15) : Nat) : Int)) ((f (x + 20) : Nat) : Int) = ((colN f x : Nat) : Int) := by
  rw [xorI _ _ (hf _) (hf _), xorI _ _ (xor_lt64 (hf _) (hf _)) (hf _), xorI _ _ (xor_lt64 (xor_lt64 (hf _) (hf _)) (hf _)) (hf _), xorI _ _ (xor_lt64 (xor_lt64 (xor_lt64 (hf _) (hf _)) (hf _)) (hf _)) (hf _)]
  rfl
theorem thI (f : Nat → Nat) (hf : ∀ i, f i < 18446744073709551616) (k : Nat) :
    bits .xor .u64 (bits .xor .u64 ((f k : Nat) : Int) ((colN f ((k % 5 + 4) % 5) : Nat) : Int)) ((turnN (colN f ((k % 5 + 1) % 5)) 1 : Nat) : Int) = ((thL f k : Nat) : Int) := by
  rw [xorI _ _ (hf _) (colN_lt f hf _), xorI _ _ (xor_lt64 (hf _) (colN_lt f hf _)) (turnN_lt _ _ (colN_lt f hf _) (by decide))]
  rfl
theorem chI (f : Nat → Nat) (hf : ∀ i, f i < 18446744073709551616) (k : Nat) :
    bits .xor .u64 ((f k : Nat) : Int) (IntKind.u64.wrap (((f (k - k % 5 + (k % 5 + 2) % 5) : Nat) : Int) - bits .and .u64 ((f (k - k % 5 + (k % 5 + 2) % 5) : Nat) : Int) ((f (k - k % 5 + (k % 5 + 1) % 5) : Nat) : Int))) = ((chL f k : Nat) : Int) := by
  rw [andI _ _ (hf _) (hf _), IntKind.wrap_u64]
  have h1 := hf (k - k % 5 + (k % 5 + 2) % 5)
  have h2 : f (k - k % 5 + (k % 5 + 2) % 5) &&& f (k - k % 5 + (k % 5 + 1) % 5) ≤ f (k - k % 5 + (k % 5 + 2) % 5) := Nat.and_le_left
  have e : (((f (k - k % 5 + (k % 5 + 2) % 5) : Nat) : Int) - ((f (k - k % 5 + (k % 5 + 2) % 5) &&& f (k - k % 5 + (k % 5 + 1) % 5) : Nat) : Int)) % 18446744073709551616 =
      ((f (k - k % 5 + (k % 5 + 2) % 5) - (f (k - k % 5 + (k % 5 + 2) % 5) &&& f (k - k % 5 + (k % 5 + 1) % 5)) : Nat) : Int) := by omega
  rw [e, xorI _ _ (hf _) (Nat.lt_of_le_of_lt (Nat.sub_le _ _) h1)]
  rfl
theorem ioKI (f : Nat → Nat) (i : Nat) : (stL f).set 0 ((f 0 ^^^ kst.getD i 0 : Nat) : Int) = stL (ioK f i) := by
  rw [stL_set]
  exact stL_congr fun k hk => by by_cases e : k = 0 <;> simp [ioK, e]
end Go.Proofs.YtkoecgoajbgkgaaDoor

/- Rows of bytes in memory as lists of bytes, and plain arithmetic on them: what a slice reads as, how that lasts, and the numbers that bytes stand for. No program's text is named. -/
namespace Go.Proofs.YtkoecgoajbgkgaaDoor
set_option linter.unusedSimpArgs false
set_option linter.unusedVariables false
open Go.ChangeShapes Go.WideShapes Go.ChangeAt Go.RowKit

/-- A byte as a cell holds it. -/
def bv (x : UInt8) : Value := .int .u8 (x.toNat : Int)

/-- The slice v reads as the bytes l. -/
def Rd (w : World) (v : Value) (l : List UInt8) : Prop :=
  ∃ a cap, v = .slice a l.length cap ∧ l.length ≤ cap ∧ cap ≤ maxLen ∧ (a = none → cap = 0) ∧
    (l = [] ∨ ∃ b off, a = some ⟨b, off, none⟩ ∧ ∀ i, i < l.length → w.cell? ⟨b, off + i, none⟩ = some (.int .u8 ((l.getD i 0).toNat : Int)))

theorem Rd.kept {w w' : World} {v : Value} {l : List UInt8} (h : Rd w v l) (hb : Below w.heap.size w w') : Rd w' v l := by
  obtain ⟨a, cap, h1, h2, h3, h4, h5⟩ := h
  refine ⟨a, cap, h1, h2, h3, h4, h5.imp id ?_⟩
  rintro ⟨b, off, e, hc⟩
  refine ⟨b, off, e, fun i hi => ?_⟩
  have := hc i hi
  rw [hb.cell (p := ⟨b, off + i, none⟩) (World.block_lt_of_cell? w _ this)]
  exact this

theorem Rd.drew {w : World} {v : Value} {l : List UInt8} (h : Rd w v l) : Rd w.drew v l := h.kept (Below.refl _ _).drew

theorem Rd.of_row {w : World} {base : Nat} {e : TypeId} {v : Value} {l : List UInt8} (h : w.ownsRow base e 1 v l.length (l.map bv)) : Rd w v l := by
  rcases h.2 with ⟨rfl, h0⟩ | ⟨g, cap, cur, rfl, hb, hg, hn, hm, hs, ht⟩
  · have : l = [] := List.eq_nil_of_length_eq_zero h0
    subst this
    exact ⟨none, 0, rfl, by simp, by simp, fun _ => rfl, .inl rfl⟩
  · refine ⟨_, cap, rfl, hn, hm, (fun h => by cases h), .inr ⟨g, 0, rfl, fun i hi => ?_⟩⟩
    have := h.cellAt i (by simpa using hi)
    simp [bv, hi] at this
    simp [this, hi]

theorem Rd.nil (w : World) : Rd w (.slice none 0 0) [] := ⟨none, 0, rfl, by simp, by simp, fun _ => rfl, .inl rfl⟩

theorem Rd.len {w : World} {v : Value} {l : List UInt8} (h : Rd w v l) : l.length ≤ 9223372036854775807 := by
  obtain ⟨a, cap, h1, h2, h3, h4, h5⟩ := h
  unfold maxLen at h3
  omega

theorem run_loadCells_zero {P : Program} (w : World) (a : Addr) : (loadCells a 0).run P w = .ok #[] w := by
  have := run_loadCells_list (P := P) w a [] (fun j v hj => by simp at hj)
  simpa using this

theorem Rd.conv {w : World} {v : Value} {l : List UInt8} (h : Rd w v l) {P : Program} {src dst e : TypeId}
    (hs : P.underlying src = some (.slice e)) (he : P.underlying e = some (.int .u8)) (hd : P.underlying dst = some .string) :
    (convert src dst v).run P w = .ok (.string ⟨l.toArray⟩) w := by
  obtain ⟨a, cap, rfl, h2, h3, h4, h5⟩ := h
  rcases h5 with rfl | ⟨b, off, rfl, hc⟩
  · cases a with
    | none => exact run_convert_bytes_nil w src e hs he _ _ dst hd
    | some a =>
      rw [run_convert_bytes_string w src dst e _ _ _ hs he hd]
      have := run_bytesToString (P := P) w a 0 cap [] (by simpa using run_loadCells_zero (P := P) w a)
      exact this
  · rw [run_convert_bytes_string w src dst e _ _ _ hs he hd]
    have hl : (loadCells ⟨b, off, none⟩ l.length).run P w = .ok ((l.map fun x => ((x.toNat : Nat) : Int)).map (Value.int .u8)).toArray w := by
      have := run_loadCells_list (P := P) w ⟨b, off, none⟩ (l.map bv) (fun j v hj => by
        have hjl : j < l.length := by
          rcases Nat.lt_or_ge j l.length with h | h
          · exact h
          · simp [List.getElem?_eq_none h] at hj
        have hplain : (⟨b, off, none⟩ : Addr).add j = ⟨b, off + j, none⟩ := by unfold Addr.add; split <;> simp_all
        rw [hplain, hc j hjl]
        simp [List.getElem?_eq_getElem hjl] at hj
        subst hj
        simp [bv, hjl])
      rw [List.map_map]
      rw [List.length_map] at this
      exact this
    rw [run_bytesToString w _ _ cap _ hl]
    congr 2
    have key : ∀ (l : List UInt8) (s : ByteArray), (l.map fun x => ((x.toNat : Nat) : Int)).foldl (fun r n => r.push (UInt8.ofNat n.toNat)) s = ⟨s.data ++ l.toArray⟩ := by
      intro l
      induction l with
      | nil => intro s; simp
      | cons x xs ih =>
        intro s
        simp only [List.map_cons, List.foldl_cons]
        rw [ih]
        simp [ByteArray.push]
    rw [key]
    show (⟨#[] ++ l.toArray⟩ : ByteArray) = ⟨l.toArray⟩
    simp

/-! ### Numbers of bytes -/
/-- The number of bytes, the lowest first. -/
def leN : List UInt8 → Nat
  | [] => 0
  | x :: xs => x.toNat + 256 * leN xs

theorem leN_lt : ∀ l : List UInt8, leN l < 256 ^ l.length
  | [] => by simp [leN]
  | x :: xs => by
    have := leN_lt xs
    have hx := x.toNat_lt
    simp only [leN, List.length_cons, Nat.pow_succ]
    omega

theorem leN_snoc : ∀ (l : List UInt8) (x : UInt8), leN (l ++ [x]) = leN l + 256 ^ l.length * x.toNat
  | [], x => by simp [leN]
  | y :: ys, x => by
    simp only [List.cons_append, leN, leN_snoc ys x, List.length_cons, Nat.pow_succ, Nat.mul_add]
    rw [show 256 * (256 ^ ys.length * x.toNat) = 256 ^ ys.length * 256 * x.toNat from by rw [Nat.mul_comm (256 ^ ys.length) 256, Nat.mul_assoc]]
    omega

theorem leN_take_succ (l : List UInt8) (k : Nat) (h : k < l.length) : leN (l.take (k + 1)) = leN (l.take k) + 256 ^ k * (l.getD k 0).toNat := by
  rw [List.take_succ_eq_append_getElem h, leN_snoc]
  simp [h, Nat.min_eq_left (Nat.le_of_lt h)]

theorem leN_drop (l : List UInt8) (k : Nat) (h : k < l.length) : leN (l.drop k) = (l.getD k 0).toNat + 256 * leN (l.drop (k + 1)) := by
  rw [List.drop_eq_getElem_cons h]
  simp [leN, h]

theorem leN_take_lt (l : List UInt8) (k : Nat) (hk : k ≤ 8) : leN (l.take k) < 18446744073709551616 := by
  have h1 := leN_lt (l.take k)
  have h2 : (l.take k).length ≤ 8 := by simp; omega
  have h3 := Nat.pow_le_pow_right (show 0 < 256 by decide) h2
  have h4 : 256 ^ 8 = 18446744073709551616 := by decide
  omega

/-- One byte more, laid above those that are there. -/
theorem load_step (l : List UInt8) (k : Nat) (h : k < l.length) (hk : k < 8) :
    bits .or .u64 ((leN (l.take k) : Nat) : Int) (IntKind.u64.wrap (IntKind.u64.wrap (((l.getD k 0).toNat : Nat) : Int) * 2 ^ (8 * k))) = ((leN (l.take (k + 1)) : Nat) : Int) := by
  have hb := (l.getD k 0).toNat_lt
  have e0 : IntKind.u64.wrap (((l.getD k 0).toNat : Nat) : Int) = ((l.getD k 0).toNat : Nat) := by rw [IntKind.wrap_u64]; omega
  have hp : (2 : Nat) ^ (8 * k) = 256 ^ k := by rw [Nat.pow_mul]
  have hs : (l.getD k 0).toNat * 2 ^ (8 * k) < 18446744073709551616 := by
    have h1 : (l.getD k 0).toNat * 2 ^ (8 * k) < 256 * 256 ^ k := by
      rw [hp]; exact Nat.mul_lt_mul_of_lt_of_le hb (Nat.le_refl _) (Nat.pow_pos (by decide))
    have h2 : 256 * 256 ^ k = 256 ^ (k + 1) := by rw [Nat.pow_succ, Nat.mul_comm]
    have h3 := Nat.pow_le_pow_right (show 0 < 256 by decide) (show k + 1 ≤ 8 by omega)
    have h4 : 256 ^ 8 = 18446744073709551616 := by decide
    omega
  have e1 : IntKind.u64.wrap (((l.getD k 0).toNat : Int) * 2 ^ (8 * k)) = (((l.getD k 0).toNat * 2 ^ (8 * k) : Nat) : Int) := by
    rw [IntKind.wrap_u64, show ((l.getD k 0).toNat : Int) * 2 ^ (8 * k) = (((l.getD k 0).toNat * 2 ^ (8 * k) : Nat) : Int) from by simp]
    omega
  have hlow := leN_lt (l.take k)
  have hlen : (l.take k).length = k := by simp; omega
  rw [hlen] at hlow
  have h5 := leN_take_lt l k (by omega)
  rw [e0, e1, u64_or_nat _ _ h5 hs, Nat.or_comm, nat_join (8 * k) _ _ (by simp) (by rw [hp]; exact hlow), leN_take_succ l k h, hp]
  congr 1
  rw [Nat.mul_comm (256 ^ k)]
  omega

theorem getD_take8 (l : List UInt8) (j : Nat) (h8 : j < 8) : (l.take 8).getD j 0 = l.getD j 0 := by
  simp [h8]

/-- One byte more ahead of those that are there. -/
theorem refload_step (l : List UInt8) (j : Nat) (h : j < l.length) (h8 : j < 8) :
    IntKind.u64.wrap (IntKind.u64.wrap (((leN ((l.take 8).drop (j + 1)) : Nat) : Int) * 256) + IntKind.u64.wrap (((l.getD j 0).toNat : Nat) : Int)) = ((leN ((l.take 8).drop j) : Nat) : Int) := by
  have e := leN_drop (l.take 8) j (by simp; omega)
  rw [getD_take8 l j h8] at e
  have b := leN_lt ((l.take 8).drop j)
  have hl : ((l.take 8).drop j).length ≤ 8 := by simp; omega
  have h3 := Nat.pow_le_pow_right (show 0 < 256 by decide) hl
  have h4 : 256 ^ 8 = 18446744073709551616 := by decide
  simp only [IntKind.wrap_u64]
  omega

/-! ### A row that is filled place by place -/
def rowV (f : Nat → UInt8) (n k : Nat) : List Value := (List.range n).map fun i => bv (if i < k then f i else 0)
theorem rowV_zero (f : Nat → UInt8) (n : Nat) : rowV f n 0 = List.replicate n (.int .u8 0) := by
  simp [rowV, bv, List.map_const']
theorem Rd.kept2 {w wr : World} {v : Value} {l : List UInt8} (h : Hid (Rd w v l)) (hb : Below w.heap.size w wr) : Rd wr v l := h.out.kept hb
theorem rowV_full (f : Nat → UInt8) (n : Nat) : rowV f n n = ((List.range n).map f).map bv := by
  simp only [rowV, List.map_map]
  exact List.map_congr_left fun i hi => by simp [List.mem_range.1 hi]
theorem rowV_set (f : Nat → UInt8) (n k : Nat) : (rowV f n k).set k (bv (f k)) = rowV f n (k + 1) := by
  refine List.ext_getElem (by simp [rowV]) fun i h1 h2 => ?_
  simp only [rowV, List.getElem_set, List.getElem_map, List.getElem_range]
  by_cases e : k = i
  · subst e; simp
  · have : (i < k + 1) ↔ i < k := by omega
    simp [e, this]
theorem rowV_length (f : Nat → UInt8) (n k : Nat) : (rowV f n k).length = n := by simp [rowV]
theorem rowV_get (f : Nat → UInt8) (n k j : Nat) (h : j < n) : (rowV f n k)[j]? = some (bv (if j < k then f j else 0)) := by
  simp [rowV, h]
theorem rowV_made (f : Nat → UInt8) (n : Nat) : (madeCells #[.int .u8 0] n).toList = rowV f n 0 := by
  rw [rowV_zero]
  exact toList_madeCells_one _ _

/-- What a loop that fills a row knows: the row is the call's own, the first k places are filled; nothing that was there has turned. -/
def Fill (e : TypeId) (w : World) (B n : Nat) (f : Nat → UInt8) (k : Nat) (wr : World) : Prop :=
  wr.ownsRow w.heap.size e 1 (.slice (some ⟨B, 0, none⟩) n n) n (rowV f n k) ∧ Below w.heap.size w wr

theorem Fill.start {e : TypeId} {w w1 : World} {n : Nat} (f : Nat → UInt8) (hown : w1.ownsRow w.heap.size e 1 (.slice (some ⟨w.heap.size, 0, none⟩) n n) n (madeCells #[.int .u8 0] n).toList) (hgr : w.grownBy w1 none) :
    Fill e w w.heap.size n f 0 w1 := by
  rw [rowV_made f] at hown
  exact ⟨hown, (Below.refl _ _).grown hgr (Nat.le_refl _) (by simp)⟩
theorem Fill.cell {e : TypeId} {w : World} {B n : Nat} {f : Nat → UInt8} {k : Nat} {wr : World} (h : Fill e w B n f k wr) (hk : k < n) :
    wr.cell? ⟨B, k, none⟩ = some (.int .u8 0) ∧ wr.frozen? ⟨B, k, none⟩ = false := by
  refine ⟨?_, h.1.frozenAt k⟩
  rw [h.1.cellAt k (by simpa using hk), rowV_get _ _ _ _ hk]
  simp [bv]
theorem Fill.ge {e : TypeId} {w : World} {B n : Nat} {f : Nat → UInt8} {k : Nat} {wr : World} (h : Fill e w B n f k wr) : w.heap.size ≤ B := (h.1.lt B rfl).1
theorem Fill.step {e : TypeId} {w : World} {B n : Nat} {f : Nat → UInt8} {k : Nat} {wr : World} (h : Fill e w B n f k wr) {x : Int} (hx : x = ((f k).toNat : Int)) :
    Fill e w B n f (k + 1) (wr.setCell ⟨B, k, none⟩ (.int .u8 x)) := by
  subst hx
  have := h.1.stored k (bv (f k))
  rw [rowV_set] at this
  exact ⟨this.1, h.2.setCell h.ge _⟩
theorem Fill.drew {e : TypeId} {w : World} {B n : Nat} {f : Nat → UInt8} {k : Nat} {wr : World} (h : Fill e w B n f k wr) : Fill e w B n f k wr.drew := ⟨h.1.drew, h.2.drew⟩
theorem Fill.undrew {e : TypeId} {w : World} {B n : Nat} {f : Nat → UInt8} {k : Nat} {wr : World} (h : Fill e w B n f k wr.drew) : Fill e w B n f k wr := ⟨h.1, ⟨h.2.os, h.2.tape, h.2.output, h.2.size, h.2.block⟩⟩

/-- What a call that makes a new row of bytes says of it. -/
def New (e : TypeId) (w : World) (v : Value) (l : List UInt8) (w' : World) : Prop :=
  w'.ownsRow w.heap.size e 1 v l.length (l.map bv) ∧ Below w.heap.size w w'
theorem New.rd {e : TypeId} {w w' : World} {v : Value} {l : List UInt8} (h : New e w v l w') : Rd w' v l := Rd.of_row h.1
theorem Fill.done {e : TypeId} {w : World} {B n : Nat} {f : Nat → UInt8} {wr : World} (h : Fill e w B n f n wr) : New e w (.slice (some ⟨B, 0, none⟩) n n) ((List.range n).map f) wr := by
  refine ⟨?_, h.2⟩
  have := h.1
  rw [rowV_full] at this
  simpa using this

/-- Byte number i of a number. -/
def stB (x i : Nat) : UInt8 := UInt8.ofNat (x / 256 ^ i)

theorem stB_shr (x j : Nat) : (x : Int) / 2 ^ (8 * j) % 256 = ((stB x j).toNat : Int) := by
  have hp : (2 : Nat) ^ (8 * j) = 256 ^ j := by rw [Nat.pow_mul]
  simp only [stB, UInt8.toNat_ofNat', ← hp]
  simp
theorem stB_mod (x j : Nat) : ((x / 256 ^ j : Nat) : Int) % 256 = ((stB x j).toNat : Int) := by
  simp only [stB, UInt8.toNat_ofNat']
  omega
theorem div_succ (x j : Nat) : x / 256 ^ j / 256 = x / 256 ^ (j + 1) := by rw [Nat.div_div_eq_div_mul, Nat.pow_succ]

theorem New.start {e : TypeId} (w : World) : New e w (.slice none 0 0) [] w := ⟨World.ownsRow_nil _ _ _ _, Below.refl _ _⟩
theorem New.alloc {e : TypeId} {w wr : World} {v : Value} {l : List UInt8} (h : New e w v l wr) (o : Obj) : New e w v l (wr.alloc o) := ⟨h.1.alloc o, h.2.alloc h.2.size o⟩
theorem New.drew {e : TypeId} {w wr : World} {v : Value} {l : List UInt8} (h : New e w v l wr) : New e w v l wr.drew := ⟨h.1.drew, h.2.drew⟩
theorem New.append {e : TypeId} {w wr w2 : World} {v v' : Value} {l l2 : List UInt8} {m : Nat} {news : List Value} (h : New e w v l wr) (hown : w2.ownsRow w.heap.size e 1 v' (l.length + m) (l.map bv ++ news))
    (hg : wr.grownBy w2 v.ownBlock) (hn : news = l2.map bv) (hm : m = l2.length) : New e w v' (l ++ l2) w2 := by
  subst hn hm
  refine ⟨by simpa using hown, h.2.grown hg h.2.size fun k hk => (h.1.lt k hk).1⟩
theorem cells_one {w : World} {b : Nat} {x : Value} (h : w.cell? ⟨b, 0, none⟩ = some x) : ∀ j u, [x][j]? = some u → w.cell? ((⟨b, 0, none⟩ : Addr).add j) = some u := by
  intro j u hj
  cases j with
  | zero => simp at hj; subst hj; simpa [Addr.add] using h
  | succ j => simp at hj

theorem bv_oneCell (l : List UInt8) : ∀ u ∈ l.map bv, u.oneCell' = true := by
  intro u hu
  obtain ⟨x, _, rfl⟩ := List.mem_map.1 hu
  rfl

/-- Appending to the call's own row whatever reads as bytes. -/
theorem wp_append_new {P : Program} {w wr : World} {o : Oper} {a : Act} {K : Act → World → Prop} {Q : Exit → Act → World → Prop} (s x : Operand) (t : TypeId)
    (ho : o.op = .call { callee := .builtin .append, args := #[s, x], argTypes := #[t, t] }) (e : TypeId) (ht : P.underlying t = some (.slice e))
    (hinfo : (P.info? e).map (fun i => (i.zero, i.size, i.bytes)) = some (some (.int .u8 0), 1, 1)) (v : Value) (l : List UInt8) (hs : a.eval s = v) (hN : New e w v l wr)
    (vx : Value) (l2 : List UInt8) (hx : a.eval x = vx) (hR : Rd wr vx l2) (hlen : l.length + l2.length ≤ 140737488355328)
    (h : ∀ v' w', New e w v' (l ++ l2) w' → wr.grownBy w' v.ownBlock → K (a.put o.dst v') w') : o.wp P a wr K Q := by
  obtain ⟨i, hi, hz0, hz1, hz2⟩ := info_parts hinfo
  obtain ⟨ax, cap, rfl, h2, h3, h4, h5⟩ := hR
  cases ax with
  | none =>
    have h0 := h4 rfl
    subst h0
    have hl2 : l2 = [] := List.eq_nil_of_length_eq_zero (by omega)
    subst hl2
    have hrun := run_append_owned_none (P := P) (w := wr) w.heap.size t o.type e i 1 ht hi v l.length _ hN.1
    have hx' : a.eval x = .slice none 0 0 := hx
    unfold Oper.wp
    simp [execOp, ho, resolve, invoke, builtin, hs, hx', hrun, Result.andThen]
    exact h v wr (by simpa using hN) (World.grownBy.refl _ _)
  | some ad =>
    refine wp_append_own wr s x t ho w.heap.size e i _ 1 1 ht hi hz0 hz1 hz2 rfl (by decide) v _ _ hs hN.1 ad l2.length cap (l2.map bv) hx (by simp) ?_ (bv_oneCell l2) (by unfold maxLen; omega) (by omega) hN.2.size ?_
    · intro j u hj
      have hjl : j < l2.length := by
        rcases Nat.lt_or_ge j l2.length with h | h
        · exact h
        · simp [List.getElem?_eq_none h] at hj
      rcases h5 with rfl | ⟨b, off, e1, hc⟩
      · simp at hjl
      · simp only [Option.some.injEq] at e1
        subst e1
        have hplain : (⟨b, off, none⟩ : Addr).add j = ⟨b, off + j, none⟩ := by unfold Addr.add; split <;> simp_all
        rw [hplain, hc j hjl]
        simp [List.getElem?_eq_getElem hjl] at hj
        subst hj
        simp [bv, hjl]
    · intro v' w' r1 r2 _
      exact h v' w' (hN.append r1 r2 rfl rfl) r2

theorem wpList_append_new {P : Program} {w wr : World} {ops : Array Oper} {rest : List Oper} {o : Oper} {a : Act} {Q : Exit → Act → World → Prop} (hg : o.guard = none) (s x : Operand) (t : TypeId)
    (ho : o.op = .call { callee := .builtin .append, args := #[s, x], argTypes := #[t, t] }) (e : TypeId) (ht : P.underlying t = some (.slice e))
    (hinfo : (P.info? e).map (fun i => (i.zero, i.size, i.bytes)) = some (some (.int .u8 0), 1, 1)) (v : Value) (l : List UInt8) (hs : a.eval s = v) (hN : New e w v l wr)
    (vx : Value) (l2 : List UInt8) (hx : a.eval x = vx) (hR : Rd wr vx l2) (hlen : l.length + l2.length ≤ 140737488355328)
    (h : ∀ v' w', New e w v' (l ++ l2) w' → wr.grownBy w' v.ownBlock → wpList P ops Q rest (a.put o.dst v') w') : wpList P ops Q (o :: rest) a wr :=
  wpList_plain hg fun _ hK => wp_append_new s x t ho e ht hinfo v l hs hN vx l2 hx hR hlen fun v' w' h1 h2 => hK _ _ (h v' w' h1 h2)

theorem step_append_new {P : Program} {w wr : World} {ops : Array Oper} {o : Oper} {a : Act} {K : Act → World → Prop} {Q : Exit → Act → World → Prop} (hg : o.guard = none) (s x : Operand) (t : TypeId)
    (ho : o.op = .call { callee := .builtin .append, args := #[s, x], argTypes := #[t, t] }) (e : TypeId) (ht : P.underlying t = some (.slice e))
    (hinfo : (P.info? e).map (fun i => (i.zero, i.size, i.bytes)) = some (some (.int .u8 0), 1, 1)) (v : Value) (l : List UInt8) (hs : a.eval s = v) (hN : New e w v l wr)
    (vx : Value) (l2 : List UInt8) (hx : a.eval x = vx) (hR : Rd wr vx l2) (hlen : l.length + l2.length ≤ 140737488355328)
    (h : ∀ v' w', New e w v' (l ++ l2) w' → wr.grownBy w' v.ownBlock → K (a.put o.dst v') w') :
    if Region.wanted o (yielded ops a.tmps) = true then Oper.wp P o a wr K Q else K (a.put o.dst undef) wr := by
  rw [if_pos (by simp [Region.wanted, hg])]
  exact wp_append_new s x t ho e ht hinfo v l hs hN vx l2 hx hR hlen h

/-- A literal of one byte. -/
theorem Rd.lit1 {w : World} {e : TypeId} {x : Int} (b : UInt8) (hx : x = (b.toNat : Int)) : Rd (w.alloc (.cells #[.int .u8 x] e)) (.slice (some ⟨w.heap.size, 0, none⟩) 1 1) [b] := by
  subst hx
  exact Rd.of_row (base := w.heap.size) (World.ownsRow_lit w #[bv b] 1 (Nat.le_refl _) (by simp [maxLen]) (by simp))
theorem Rd.lit {w : World} {e : TypeId} (l : List UInt8) (hm : l.length ≤ maxLen) : Rd (w.alloc (.cells (l.map bv).toArray e)) (.slice (some ⟨w.heap.size, 0, none⟩) l.length l.length) l :=
  Rd.of_row (base := w.heap.size) (World.ownsRow_lit w (l.map bv).toArray l.length (Nat.le_refl _) hm (by simp))

/-- The cell of place i of what reads as l. -/
theorem Rd.cellAt {w : World} {v : Value} {l : List UInt8} (h : Rd w v l) {i : Nat} (hi : i < l.length) :
    ∃ b off cap, v = .slice (some ⟨b, off, none⟩) l.length cap ∧ l.length ≤ cap ∧ w.cell? ⟨b, off + i, none⟩ = some (.int .u8 ((l.getD i 0).toNat : Int)) ∧ b < w.heap.size := by
  obtain ⟨a, cap, rfl, h2, h3, h4, h5⟩ := h
  rcases h5 with rfl | ⟨b, off, rfl, hc⟩
  · simp at hi
  · exact ⟨b, off, cap, rfl, h2, hc i hi, World.block_lt_of_cell? w _ (hc i hi)⟩

theorem byte_xor (x y : UInt8) : bits .xor .u8 (x.toNat : Int) (y.toNat : Int) = ((x ^^^ y).toNat : Int) := by
  rw [u8_xor_nat _ _ x.toNat_lt y.toNat_lt, UInt8.toNat_xor]
theorem byte_or (x y : UInt8) : bits .or .u8 (x.toNat : Int) (y.toNat : Int) = ((x ||| y).toNat : Int) := by
  rw [u8_or_nat _ _ x.toNat_lt y.toNat_lt, UInt8.toNat_or]
theorem byte_and (x y : UInt8) : bits .and .u8 (x.toNat : Int) (y.toNat : Int) = ((x &&& y).toNat : Int) := by
  rw [u8_and_nat _ _ x.toNat_lt y.toNat_lt, UInt8.toNat_and]
theorem wrapb_i64 (x : UInt8) : IntKind.i64.wrap (x.toNat : Int) = (x.toNat : Int) := by
  have := x.toNat_lt
  exact IntWalk.i64_in _ (by omega)
theorem wrapb_u8 (x : UInt8) : IntKind.u8.wrap (x.toNat : Int) = (x.toNat : Int) := by
  have := x.toNat_lt
  rw [IntKind.wrap_u8']; omega
theorem wrapb_u64 (x : UInt8) : IntKind.u64.wrap (x.toNat : Int) = (x.toNat : Int) := by
  have := x.toNat_lt
  rw [IntKind.wrap_u64]; omega
theorem byte_range (x : UInt8) : (0 : Int) ≤ (x.toNat : Int) ∧ (x.toNat : Int) < 256 := by have := x.toNat_lt; omega

/-- Two rows laid over one another. -/
def xorL (a b : List UInt8) : List UInt8 := (List.range (min a.length b.length)).map fun i => a.getD i 0 ^^^ b.getD i 0
theorem xorL_eq (a b : List UInt8) : xorL a b = List.zipWith (· ^^^ ·) a b := by
  refine List.ext_getElem (by simp [xorL]) fun i h1 h2 => ?_
  have h3 : i < min a.length b.length := by simpa [xorL] using h1
  simp [xorL, show i < a.length by omega, show i < b.length by omega]

/-! ### Bits one by one -/
theorem xor_bit (x y i : Nat) : (x ^^^ y) / 2 ^ i % 2 = if x / 2 ^ i % 2 = y / 2 ^ i % 2 then 0 else 1 := by
  have e := Nat.testBit_xor x y i
  simp only [Nat.testBit_eq_decide_div_mod_eq] at e
  have h1 := Nat.mod_two_eq_zero_or_one (x / 2 ^ i)
  have h2 := Nat.mod_two_eq_zero_or_one (y / 2 ^ i)
  have h3 := Nat.mod_two_eq_zero_or_one ((x ^^^ y) / 2 ^ i)
  rcases h1 with h1 | h1 <;> rcases h2 with h2 | h2 <;> rcases h3 with h3 | h3 <;> simp [h1, h2, h3] at e ⊢
theorem xor_mod_succ (x y i : Nat) : (x ^^^ y) % 2 ^ (i + 1) = (x ^^^ y) % 2 ^ i + (if x / 2 ^ i % 2 = y / 2 ^ i % 2 then 0 else 2 ^ i) := by
  rw [Nat.mod_pow_succ, xor_bit]
  split <;> simp
theorem pow2_succ (i : Nat) : 2 ^ i * 2 = 2 ^ (i + 1) := by rw [Nat.pow_succ]
theorem div2_succ (x i : Nat) : x / 2 ^ i / 2 = x / 2 ^ (i + 1) := by rw [Nat.div_div_eq_div_mul, Nat.pow_succ]
theorem pow2_le (i : Nat) (h : i ≤ 8) : 2 ^ i ≤ 256 := by
  have := Nat.pow_le_pow_right (show 0 < 2 by decide) h
  simpa using this

/-- All bytes, or-ed together. -/
def orL (l : List UInt8) : UInt8 := l.foldl (· ||| ·) 0
theorem orL_snoc (l : List UInt8) (x : UInt8) : orL (l ++ [x]) = orL l ||| x := by simp [orL]
theorem orL_take_succ (l : List UInt8) (k : Nat) (h : k < l.length) : orL (l.take (k + 1)) = orL (l.take k) ||| l.getD k 0 := by
  rw [List.take_succ_eq_append_getElem h, orL_snoc]; simp [h]
theorem u8_or_zero (x y : UInt8) : x ||| y = 0 ↔ x = 0 ∧ y = 0 := by
  constructor
  · intro h
    have h' : (x ||| y).toNat = 0 := by rw [h]; rfl
    rw [UInt8.toNat_or, Nat.or_eq_zero_iff] at h'
    exact ⟨UInt8.toNat_inj.1 h'.1, UInt8.toNat_inj.1 h'.2⟩
  · rintro ⟨rfl, rfl⟩; rfl
theorem orL_zero (l : List UInt8) : orL l = 0 ↔ ∀ x ∈ l, x = 0 := by
  suffices h : ∀ (l : List UInt8) (a : UInt8), l.foldl (· ||| ·) a = 0 ↔ a = 0 ∧ ∀ x ∈ l, x = 0 by
    unfold orL; rw [h]; simp
  intro l
  induction l with
  | nil => intro a; simp
  | cons y ys ih => intro a; simp only [List.foldl_cons, ih, u8_or_zero, List.mem_cons, forall_eq_or_imp, and_assoc]
theorem u8_xor_zero (x y : UInt8) : x ^^^ y = 0 ↔ x = y := by
  constructor
  · intro h
    have h' : (x ^^^ y).toNat = 0 := by rw [h]; rfl
    rw [UInt8.toNat_xor] at h'
    refine UInt8.toNat_inj.1 ?_
    have h2 : (x.toNat ^^^ y.toNat) ^^^ y.toNat = 0 ^^^ y.toNat := by rw [h']
    simpa [Nat.xor_assoc] using h2
  · rintro rfl; exact UInt8.toNat_inj.1 (by rw [UInt8.toNat_xor, Nat.xor_self]; rfl)
/-- Is all nought? -/
def zeroB (l : List UInt8) : Bool := decide (∀ x ∈ l, x = 0)
theorem orL_xorL (a b : List UInt8) (h : a.length = b.length) : orL (xorL a b) = 0 ↔ a = b := by
  rw [orL_zero]
  constructor
  · intro hz
    refine List.ext_getElem h fun i h1 h2 => ?_
    have := hz (a.getD i 0 ^^^ b.getD i 0) (by unfold xorL; exact List.mem_map.2 ⟨i, by simp; omega, rfl⟩)
    rw [u8_xor_zero] at this
    simpa [h1, h2] using this
  · rintro rfl x hx
    unfold xorL at hx
    obtain ⟨i, _, rfl⟩ := List.mem_map.1 hx
    rw [u8_xor_zero]
theorem xorL_take_succ (a b : List UInt8) (k : Nat) (h1 : k < a.length) (h2 : k < b.length) : (xorL a b).take (k + 1) = (xorL a b).take k ++ [a.getD k 0 ^^^ b.getD k 0] := by
  rw [List.take_succ_eq_append_getElem (by simp [xorL]; omega)]
  simp [xorL]
theorem xorL_length (a b : List UInt8) : (xorL a b).length = min a.length b.length := by simp [xorL]
theorem nat0_beq (x : UInt8) : (((x.toNat : Nat) : Int) == 0) = decide (x = 0) := by
  rw [Bool.eq_iff_iff]
  simp only [beq_iff_eq, decide_eq_true_eq]
  constructor
  · intro h; exact UInt8.toNat_inj.1 (by simp; omega)
  · rintro rfl; rfl

/-! ### Rows of rows -/
def RdL (w : World) (v : Value) (vs : List Value) (ls : List (List UInt8)) : Prop :=
  (∃ a cap, v = .slice a vs.length cap ∧ vs.length ≤ cap ∧ cap ≤ maxLen ∧
    (vs = [] ∨ ∃ b off, a = some ⟨b, off, none⟩ ∧ ∀ i, i < vs.length → w.cell? ⟨b, off + i, none⟩ = some (vs.getD i undef))) ∧
  vs.length = ls.length ∧ ∀ i, i < vs.length → Rd w (vs.getD i undef) (ls.getD i [])
theorem RdL.kept {w w' : World} {v : Value} {vs : List Value} {ls : List (List UInt8)} (h : RdL w v vs ls) (hb : Below w.heap.size w w') : RdL w' v vs ls := by
  obtain ⟨⟨a, cap, h1, h2, h3, h5⟩, h6, h7⟩ := h
  refine ⟨⟨a, cap, h1, h2, h3, h5.imp id ?_⟩, h6, fun i hi => (h7 i hi).kept hb⟩
  rintro ⟨b, off, e, hc⟩
  refine ⟨b, off, e, fun i hi => ?_⟩
  have := hc i hi
  rw [hb.cell (p := ⟨b, off + i, none⟩) (World.block_lt_of_cell? w _ this)]
  exact this
theorem RdL.cellAt {w : World} {v : Value} {vs : List Value} {ls : List (List UInt8)} (h : RdL w v vs ls) {i : Nat} (hi : i < vs.length) :
    ∃ b off cap a' cap', v = .slice (some ⟨b, off, none⟩) vs.length cap ∧ vs.length ≤ cap ∧ w.cell? ⟨b, off + i, none⟩ = some (.slice a' (ls.getD i []).length cap') ∧ Rd w (.slice a' (ls.getD i []).length cap') (ls.getD i []) := by
  obtain ⟨⟨a, cap, rfl, h2, h3, h5⟩, h6, h7⟩ := h
  rcases h5 with rfl | ⟨b, off, rfl, hc⟩
  · simp at hi
  · have hr := h7 i hi
    obtain ⟨a', cap', e, _⟩ := id hr
    rw [e] at hr
    exact ⟨b, off, cap, a', cap', rfl, h2, by rw [hc i hi, e], hr⟩
/-- How many bytes the rows have. -/
def totL (ls : List (List UInt8)) : Nat := ls.flatten.length
theorem totL_take_succ (ls : List (List UInt8)) (k : Nat) (h : k < ls.length) : totL (ls.take (k + 1)) = totL (ls.take k) + (ls.getD k []).length := by
  unfold totL
  rw [List.take_succ_eq_append_getElem h, List.flatten_append, List.length_append]
  simp [h]
theorem flat_take_succ (ls : List (List UInt8)) (k : Nat) (h : k < ls.length) : (ls.take (k + 1)).flatten = (ls.take k).flatten ++ ls.getD k [] := by
  rw [List.take_succ_eq_append_getElem h, List.flatten_append]
  simp [h]
theorem totL_take_le (ls : List (List UInt8)) (k : Nat) : totL (ls.take k) ≤ totL ls := by
  unfold totL
  have h : ls.flatten = (ls.take k).flatten ++ (ls.drop k).flatten := by rw [← List.flatten_append, List.take_append_drop]
  rw [h]
  simp
theorem New.rdl {e : TypeId} {w w1 : World} {r v : Value} {l : List UInt8} {vs : List Value} {ls : List (List UInt8)} (h : RdL w v vs ls) (hN : New e w r l w1) : RdL w1 v vs ls := h.kept hN.2

theorem Rd.litc {w : World} {e : TypeId} (l : List UInt8) {cs : Array Value} {n b : Nat} (h : cs = (l.map bv).toArray) (hn : n = l.length) (hb : b = w.heap.size) (hm : l.length ≤ maxLen) : Rd (w.alloc (.cells cs e)) (.slice (some ⟨b, 0, none⟩) n n) l := by
  subst h hn hb
  exact Rd.lit l hm
theorem below_alloc (w : World) (o : Obj) : Below w.heap.size w (w.alloc o) := (Below.refl _ _).alloc (Nat.le_refl _) o
theorem bstep {w w1 w2 : World} (h1 : Below w.heap.size w w1) (h2 : Below w1.heap.size w1 w2) : Below w.heap.size w w2 := h1.trans (h2.mono h1.size)

theorem RdL.lit {w : World} {e : TypeId} (vs : List Value) (ls : List (List UInt8)) {cs : Array Value} {n b : Nat} (h : cs = vs.toArray) (hn : n = vs.length) (hb : b = w.heap.size) (hm : vs.length ≤ maxLen)
    (hl : vs.length = ls.length) (hr : ∀ i, i < vs.length → Rd w (vs.getD i undef) (ls.getD i [])) : RdL (w.alloc (.cells cs e)) (.slice (some ⟨b, 0, none⟩) n n) vs ls := by
  subst h hn hb
  refine ⟨⟨_, _, rfl, Nat.le_refl _, hm, .inr ⟨_, 0, rfl, fun i hi => ?_⟩⟩, hl, fun i hi => (hr i hi).kept (below_alloc _ _)⟩
  have h1 : (w.alloc (.cells vs.toArray e)).ownsRow w.heap.size e 1 (.slice (some ⟨w.heap.size, 0, none⟩) vs.length vs.length) vs.length vs.toArray.toList :=
    World.ownsRow_lit w vs.toArray vs.length (Nat.le_refl _) hm (by simp)
  have := h1.cellAt i (by simpa using hi)
  simp only [Nat.zero_add]
  rw [this]
  simp [hi]

/-- A place of a row of the call's own: what it holds, that it may be written, and what the row is then. -/
theorem own_at {w : World} {base : Nat} {e : TypeId} {a : Option Addr} {cap : Nat} {l : List UInt8} {n : Nat} (hn : n = l.length) (h : w.ownsRow base e 1 (.slice a n cap) l.length (l.map bv)) {j : Nat} (hj : j < n) :
    ∃ g, a = some ⟨g, 0, none⟩ ∧ base ≤ g ∧ n ≤ cap ∧ w.cell? ⟨g, j, none⟩ = some (.int .u8 ((l.getD j 0).toNat : Int)) ∧ w.frozen? ⟨g, j, none⟩ = false ∧
      ∀ (u : UInt8) (x : Int), x = (u.toNat : Int) → (w.setCell ⟨g, j, none⟩ (.int .u8 x)).ownsRow base e 1 (.slice a n cap) (l.set j u).length ((l.set j u).map bv) := by
  subst hn
  rcases h.2 with ⟨h', h0⟩ | ⟨g, cap', cur, h', hb, hg, hn, hm, hs, ht⟩
  · omega
  · simp only [Value.slice.injEq, true_and] at h'
    obtain ⟨rfl, rfl⟩ := h'
    refine ⟨g, rfl, hb, hn, ?_, h.frozenAt j, fun u x hx => ?_⟩
    · rw [h.cellAt j (by simpa using hj)]
      simp [bv, hj]
    · subst hx
      have h1 := (h.stored j (bv u)).1
      rw [List.length_set, List.map_set]
      exact h1
theorem ownsRow_below {w w' : World} {base : Nat} {e : TypeId} {v : Value} {n : Nat} {xs : List Value} (h : w.ownsRow base e 1 v n xs) (hb : Below w.heap.size w w') : w'.ownsRow base e 1 v n xs := by
  refine ⟨h.1, h.2.imp id ?_⟩
  rintro ⟨g, cap, cur, h1, h2, h3, h4⟩
  refine ⟨g, cap, cur, h1, h2, ?_, h4⟩
  rw [hb.block g (Array.getElem?_eq_some_iff.1 h3).1, h3]

theorem str_toList (a : List UInt8) : (⟨a.toArray⟩ : ByteArray).toList = a := by
  rw [ByteArray.toList_eq]
theorem list_beq (a b : List UInt8) : (a == b) = decide (a = b) := by
  rw [Bool.eq_iff_iff, beq_iff_eq, decide_eq_true_eq]
theorem str_cat (a b : List UInt8) : (⟨a.toArray⟩ : ByteArray) ++ ⟨b.toArray⟩ = ⟨(a ++ b).toArray⟩ := by
  rw [ByteArray.ext_iff, ByteArray.data_append]
  simp

theorem Rd.take {w : World} {a : Option Addr} {len cap : Nat} {l : List UInt8} (h : Rd w (.slice a len cap) l) {n : Nat} (hn : n ≤ len) : Rd w (.slice a n cap) (l.take n) := by
  obtain ⟨a', cap', e, h2, h3, h4, h5⟩ := h
  simp only [Value.slice.injEq] at e
  obtain ⟨rfl, rfl, rfl⟩ := e
  have hl : (l.take n).length = n := by simp; omega
  refine ⟨a, cap, by rw [hl], by rw [hl]; omega, h3, h4, ?_⟩
  rcases h5 with rfl | ⟨b, off, e, hc⟩
  · exact .inl (by simp)
  · refine .inr ⟨b, off, e, fun i hi => ?_⟩
    rw [hl] at hi
    rw [hc i (by omega)]
    simp [hi]
theorem xorL_twice (a b : List UInt8) : xorL (xorL a b) b = a.take (min a.length b.length) := by
  refine List.ext_getElem (by simp [xorL]) fun i h1 h2 => ?_
  have h3 : i < min a.length b.length := by simpa using h2
  have h4 : i < (xorL a b).length := by rw [xorL_length]; exact h3
  have e1 : (xorL a b).getD i 0 = a.getD i 0 ^^^ b.getD i 0 := by simp [xorL, h3]
  have h5 : (xorL (xorL a b) b)[i] = (xorL a b).getD i 0 ^^^ b.getD i 0 := by simp [xorL]
  rw [h5, e1, UInt8.xor_assoc, UInt8.xor_self, UInt8.xor_zero]
  simp [show i < a.length by omega]
theorem leN_stB (x : Nat) : ∀ k, leN ((List.range k).map (stB x)) = x % 256 ^ k
  | 0 => by simp [leN, Nat.mod_one]
  | k + 1 => by
    rw [List.range_succ, List.map_append, List.map_singleton, leN_snoc, leN_stB x k, Nat.mod_pow_succ]
    simp [stB]

theorem and_small (z : Int) (m : Nat) (hm : m < 9223372036854775808) : ∃ X : Nat, X ≤ m ∧ bits .and .i64 z (m : Int) = (X : Int) := by
  have h : (BitVec.ofInt 64 z &&& BitVec.ofInt 64 (m : Int)).toNat ≤ m := by
    rw [BitVec.toNat_and]
    refine Nat.le_trans Nat.and_le_right ?_
    rw [ofInt_u64 m (by omega)]
    exact Nat.le_refl _
  refine ⟨(BitVec.ofInt 64 z &&& BitVec.ofInt 64 (m : Int)).toNat, h, ?_⟩
  show IntKind.i64.wrap ((BitVec.ofInt 64 z &&& BitVec.ofInt 64 (m : Int)).toNat : Int) = _
  exact IntWalk.i64_in _ (by constructor <;> omega)
theorem pow_mask (t : Nat) (h : t ≤ 7) : ∃ m : UInt8, m ≠ 0 ∧ (2 : Int) ^ t % 256 = (m.toNat : Int) := by
  have h' : t = 0 ∨ t = 1 ∨ t = 2 ∨ t = 3 ∨ t = 4 ∨ t = 5 ∨ t = 6 ∨ t = 7 := by omega
  rcases h' with rfl | rfl | rfl | rfl | rfl | rfl | rfl | rfl
  · exact ⟨1, by decide, by decide⟩
  · exact ⟨2, by decide, by decide⟩
  · exact ⟨4, by decide, by decide⟩
  · exact ⟨8, by decide, by decide⟩
  · exact ⟨16, by decide, by decide⟩
  · exact ⟨32, by decide, by decide⟩
  · exact ⟨64, by decide, by decide⟩
  · exact ⟨128, by decide, by decide⟩
theorem turned (l : List UInt8) (k : Nat) (hk : k < l.length) (y m : UInt8) (hy : l.getD k 0 = y) (hm : m ≠ 0) :
    l ≠ l.set k (y ^^^ m) ∧ (xorL l (l.set k (y ^^^ m))).getD k 0 = m ∧ orL (xorL l (l.set k (y ^^^ m))) ≠ 0 := by
  have hs : (l.set k (y ^^^ m)).getD k 0 = y ^^^ m := by simp [hk]
  have h1 : (xorL l (l.set k (y ^^^ m))).getD k 0 = m := by
    have : (xorL l (l.set k (y ^^^ m))).getD k 0 = l.getD k 0 ^^^ (l.set k (y ^^^ m)).getD k 0 := by simp [xorL, hk]
    rw [this, hs, hy, ← UInt8.xor_assoc, UInt8.xor_self, UInt8.zero_xor]
  have h2 : l ≠ l.set k (y ^^^ m) := by
    intro h
    have h3 : l.getD k 0 = (l.set k (y ^^^ m)).getD k 0 := by rw [← h]
    rw [hs, hy] at h3
    apply hm
    have h4 : y ^^^ y = y ^^^ (y ^^^ m) := by rw [← h3]
    rw [UInt8.xor_self, ← UInt8.xor_assoc, UInt8.xor_self, UInt8.zero_xor] at h4
    exact h4.symm
  refine ⟨h2, h1, fun h => h2 ?_⟩
  exact (orL_xorL _ _ (by simp)).1 h

/-! ### What came in -/
def IsRow (k : IntKind) (w : World) (a : Option Addr) (len cap : Nat) (zs : List Int) : Prop :=
  (a = none ∧ len = 0 ∧ cap = 0 ∧ zs = []) ∨
  ∃ x, a = some x ∧ len ≤ cap ∧ cap ≤ maxLen ∧ zs.length = cap ∧ (∀ i, i < zs.length → w.cell? (x.add i) = some (.int k (zs.getD i 0))) ∧ ∀ n ∈ zs, (Lit.int k n).wf = true

theorem wf_u8 {n : Int} (h : (Lit.int .u8 n).wf = true) : 0 ≤ n ∧ n < 256 := by
  have := bounds_u8 h
  omega
theorem IsRow.rd {w : World} {a : Option Addr} {len cap : Nat} {zs : List Int} (h : IsRow .u8 w a len cap zs) : ∃ l : List UInt8, l.length = len ∧ Rd w (.slice a len cap) l := by
  rcases h with ⟨rfl, rfl, rfl, rfl⟩ | ⟨x, rfl, hl, hm, hz, hc, hw⟩
  · exact ⟨[], rfl, Rd.nil w⟩
  · have hlen : ((zs.take len).map fun n => UInt8.ofNat n.toNat).length = len := by simp; omega
    refine ⟨(zs.take len).map fun n => UInt8.ofNat n.toNat, hlen, _, cap, by rw [hlen], by rw [hlen]; exact hl, hm, (fun h => by cases h), ?_⟩
    by_cases h0 : len = 0
    · left; exact List.eq_nil_of_length_eq_zero (by rw [hlen]; exact h0)
    · right
      obtain ⟨b, off, spot⟩ := x
      have hspot : spot = none := by simpa [Addr.add] using World.cell?_spot (hc 0 (by omega))
      subst hspot
      refine ⟨b, off, rfl, fun i hi => ?_⟩
      rw [hlen] at hi
      have h1 := hc i (by omega)
      have hplain : (⟨b, off, none⟩ : Addr).add i = ⟨b, off + i, none⟩ := by unfold Addr.add; split <;> simp_all
      rw [hplain] at h1
      rw [h1]
      have h2 : i < zs.length := by omega
      have h3 := wf_u8 (hw zs[i] (List.getElem_mem h2))
      congr 2
      have h4 : i < (zs.take len).length := by simp; omega
      simp only [List.getD_eq_getElem?_getD, List.getElem?_map, List.getElem?_take, hi, if_true, List.getElem?_eq_getElem h2, Option.map_some, Option.getD_some, UInt8.toNat_ofNat']
      omega

end Go.Proofs.YtkoecgoajbgkgaaDoor

/- Where a row lies behind an append: in its old block, or in a new one; two rows that grow side by side. No program's text is named. -/
namespace Go.Proofs.YtkoecgoajbgkgaaDoor
open Go.ChangeShapes Go.WideShapes Go.ChangeAt Go.RowKit
set_option linter.unusedSimpArgs false
set_option linter.unusedVariables false

/-- The row v' lies where v lay, or in memory that is new since w. -/
def Near (w : World) (v v' : Value) : Prop := v'.ownBlock = v.ownBlock ∨ ∀ g, v'.ownBlock = some g → w.heap.size ≤ g
theorem append_near {k : IntKind} {P : Program} (wr : World) (base : Nat) (t ty e : TypeId) (i : TypeInfo) (bytes : Nat) (ht : P.underlying t = some (.slice e)) (hi : P.info? e = some i) (hz : i.zero = some (.int k 0)) (hs1 : i.size = 1) (hby : i.bytes = bytes)
    (v : Value) (n : Nat) (xs : List Value) (hown : wr.ownsRow base e 1 v n xs) (ad : Addr) (m c : Nat) (news : List Value) (hl : news.length = m) (hnews : ∀ j u, news[j]? = some u → wr.cell? (ad.add j) = some u) (h1 : ∀ u ∈ news, u.oneCell' = true)
    (h63 : n + m ≤ maxLen) (hbytes : (n + m) * bytes ≤ 140737488355328) (v' : Value) (w' : World) (hr : (Builtin.append_ #[t, t] ty #[v, .slice (some ad) m c]).run P wr = .ok v' w') (hnil : v' = .slice none 0 0 ↔ v = .slice none 0 0 ∧ m = 0) : Near wr v v' := by
  have hsmall : n + m ≤ 9223372036854775807 := by simp only [maxLen] at h63; omega
  rcases hown.2 with ⟨rfl, h0⟩ | ⟨g, cap, cur, rfl, hb, hg, hn, hm, hss, htk⟩
  · subst h0
    by_cases hm0 : m = 0
    · left
      rw [hnil.2 ⟨rfl, hm0⟩]
    · right
      have := run_append_nil (P := P) wr t ty e i _ ht hi hz ad m c news (by rw [hs1]; omega) hnews (by omega) (by omega) (by rw [hby]; rw [Nat.zero_add] at hbytes; omega)
      rw [this] at hr
      simp only [Result.ok.injEq] at hr
      intro g hg
      rw [← hr.1] at hg
      simp only [Value.ownBlock, Option.some.injEq] at hg
      omega
  · have hxs : xs.length = n := by have := hown.1; simpa using this
    by_cases hroom : n + m ≤ cap
    · left
      have := run_append_room (P := P) wr t ty e i ht hi g n cap cur hg ad m c news (by rw [hs1]; omega) hnews h1 hroom (by rw [hs1, hss]; omega)
      rw [this] at hr
      simp only [Result.ok.injEq] at hr
      rw [← hr.1]
      rfl
    · right
      have := run_append_grow (P := P) wr t ty e i _ ht hi hz ⟨g, 0, none⟩ n cap xs (by rw [hs1, hxs, Nat.mul_one]) (fun j u hj => hown.cells rfl j u hj) ad m c news (by rw [hs1]; omega) hnews (by omega) (by omega)
        (by rw [hby]; exact growslice_fits (by omega) hbytes)
      rw [this] at hr
      simp only [Result.ok.injEq] at hr
      intro g' hg'
      rw [← hr.1] at hg'
      simp only [Value.ownBlock, Option.some.injEq] at hg'
      omega
/-- Appending, and where the row lies then. -/
theorem wp_append_near {k : IntKind} {P : Program} {w wr : World} {o : Oper} {a : Act} {K : Act → World → Prop} {Q : Exit → Act → World → Prop} (s x : Operand) (t : TypeId)
    (ho : o.op = .call { callee := .builtin .append, args := #[s, x], argTypes := #[t, t] }) (e : TypeId) (ht : P.underlying t = some (.slice e)) (bytes : Nat)
    (hinfo : (P.info? e).map (fun i => (i.zero, i.size, i.bytes)) = some (some (.int k 0), 1, bytes)) (v : Value) (l : List Int) (hs : a.eval s = v) (hN : NewI k e w v l wr)
    (vx : Value) (l2 : List Int) (hx : a.eval x = vx) (hR : RdI k wr vx l2) (hlen : (l.length + l2.length) * bytes ≤ 140737488355328) (hlen2 : l.length + l2.length ≤ 140737488355328)
    (h : ∀ v' w', NewI k e w v' (l ++ l2) w' → wr.grownBy w' v.ownBlock → Near wr v v' → K (a.put o.dst v') w') : o.wp P a wr K Q := by
  obtain ⟨i, hi, hz0, hz1, hz2⟩ := info_parts hinfo
  obtain ⟨ax, cap, rfl, h2, h3, h4, h5⟩ := hR
  cases ax with
  | none =>
    have h0 := h4 rfl
    subst h0
    have hl2 : l2 = [] := List.eq_nil_of_length_eq_zero (by omega)
    subst hl2
    have hrun := run_append_owned_none (P := P) (w := wr) w.heap.size t o.type e i 1 ht hi v l.length _ hN.1
    have hx' : a.eval x = .slice none 0 0 := hx
    unfold Oper.wp
    simp [execOp, ho, resolve, invoke, builtin, hs, hx', hrun, Result.andThen]
    exact h v wr (by simpa using hN) (World.grownBy.refl _ _) (.inl rfl)
  | some ad =>
    have hcells : ∀ j u, (l2.map (Value.int k))[j]? = some u → wr.cell? (ad.add j) = some u := by
      intro j u hj
      have hjl : j < l2.length := by
        rcases Nat.lt_or_ge j l2.length with h | h
        · exact h
        · simp [List.getElem?_eq_none h] at hj
      rcases h5 with rfl | ⟨b, off, e1, hc⟩
      · simp at hjl
      · simp only [Option.some.injEq] at e1
        subst e1
        have hplain : (⟨b, off, none⟩ : Addr).add j = ⟨b, off + j, none⟩ := by unfold Addr.add; split <;> simp_all
        rw [hplain, hc j hjl]
        simp [List.getElem?_eq_getElem hjl] at hj
        subst hj
        simp [hjl]
    obtain ⟨v', w', hr, r2, r3, r4⟩ := run_append_own (P := P) wr w.heap.size t o.type e i _ 1 bytes ht hi hz0 hz1 hz2 rfl (by decide) v l.length _ hN.1 ad l2.length cap (l2.map (Value.int k)) (by simp) hcells (ints_oneCell k l2) (by unfold maxLen; omega) hlen hN.2.size
    have hnear := append_near wr w.heap.size t o.type e i bytes ht hi hz0 hz1 hz2 v l.length _ hN.1 ad l2.length cap (l2.map (Value.int k)) (by simp) hcells (ints_oneCell k l2) (by unfold maxLen; omega) hlen v' w' hr r4
    unfold Oper.wp execOp
    simp only [ho, resolve, invoke, builtin, Sem.run_bind, Sem.run_pure, Result.andThen_ok, List.map_toArray, List.map_cons, List.map_nil, hs, hx, hr]
    exact h v' w' (hN.append r2 r3 rfl rfl) r3 hnear
theorem wpList_append_near {k : IntKind} {P : Program} {w wr : World} {ops : Array Oper} {rest : List Oper} {o : Oper} {a : Act} {Q : Exit → Act → World → Prop} (hg : o.guard = none) (s x : Operand) (t : TypeId)
    (ho : o.op = .call { callee := .builtin .append, args := #[s, x], argTypes := #[t, t] }) (e : TypeId) (ht : P.underlying t = some (.slice e)) (bytes : Nat)
    (hinfo : (P.info? e).map (fun i => (i.zero, i.size, i.bytes)) = some (some (.int k 0), 1, bytes)) (v : Value) (l : List Int) (hs : a.eval s = v) (hN : NewI k e w v l wr)
    (vx : Value) (l2 : List Int) (hx : a.eval x = vx) (hR : RdI k wr vx l2) (hlen : (l.length + l2.length) * bytes ≤ 140737488355328) (hlen2 : l.length + l2.length ≤ 140737488355328)
    (h : ∀ v' w', NewI k e w v' (l ++ l2) w' → wr.grownBy w' v.ownBlock → Near wr v v' → wpList P ops Q rest (a.put o.dst v') w') : wpList P ops Q (o :: rest) a wr :=
  wpList_plain hg fun _ hK => wp_append_near s x t ho e ht bytes hinfo v l hs hN vx l2 hx hR hlen hlen2 fun v' w' h1 h2 h3 => hK _ _ (h v' w' h1 h2 h3)

/-- Two rows lie apart. -/
def Apart (v u : Value) : Prop := ∀ g, v.ownBlock = some g → u.ownBlock ≠ some g
theorem Apart.symm {v u : Value} (h : Apart v u) : Apart u v := fun g hg hv => h g hv hg
theorem Apart.nil (u : Value) : Apart (.slice none 0 0) u := fun g hg => by cases hg
/-- One row grows: another one that lay apart is as it was, and lies apart still. -/
theorem NewI.beside {k k2 : IntKind} {e e2 : TypeId} {w w2 wr w' : World} {v v' u : Value} {l l' l2 : List Int} (hu : NewI k2 e2 w2 u l2 wr) (hv' : NewI k e w v' l' w') (hw2 : Below w2.heap.size w2 w') (hg : wr.grownBy w' v.ownBlock) (hap : Apart v u) (hn : Near wr v v') :
    NewI k2 e2 w2 u l2 w' ∧ Apart v' u := by
  have hlt := hu.1.lt
  refine ⟨⟨⟨hu.1.1, hu.1.2.imp id ?_⟩, hw2⟩, ?_⟩
  · rintro ⟨g, cap, cur, e1, h2, h3, h4⟩
    refine ⟨g, cap, cur, e1, h2, ?_, h4⟩
    rw [hg.block g (Array.getElem?_eq_some_iff.1 h3).1 ?_, h3]
    intro hc
    exact hap g hc.symm (by rw [e1]; rfl)
  · intro g hg' hug
    rcases hn with h1 | h1
    · rw [h1] at hg'
      exact hap g hg' hug
    · have h2 := h1 g hg'
      have h3 := (hlt g hug).2
      omega
end Go.Proofs.YtkoecgoajbgkgaaDoor

/- Blocks of memory held whole: what a block holds, how it is written in part, and what stays when only some blocks change. No program's text is named. -/
namespace Go.Proofs.YtkoecgoajbgkgaaDoor
open Go.ChangeShapes Go.WideShapes Go.ChangeAt Go.RowKit
set_option linter.unusedSimpArgs false
set_option linter.unusedVariables false

/-- Of the blocks that were there only those of S may have changed. -/
structure Chg (S : Nat → Prop) (w w' : World) : Prop where
  os : w'.os = w.os
  tape : w'.tape = w.tape
  output : w'.output = w.output
  size : w.heap.size ≤ w'.heap.size
  block : ∀ k, k < w.heap.size → ¬ S k → w'.heap[k]? = w.heap[k]?
theorem Chg.refl (S : Nat → Prop) (w : World) : Chg S w w := ⟨rfl, rfl, rfl, Nat.le_refl _, fun _ _ _ => rfl⟩
theorem Chg.trans {S : Nat → Prop} {a b c : World} (h : Chg S a b) (k : Chg S b c) : Chg S a c :=
  ⟨k.os.trans h.os, k.tape.trans h.tape, k.output.trans h.output, Nat.le_trans h.size k.size, fun i hi hs => (k.block i (Nat.lt_of_lt_of_le hi h.size) hs).trans (h.block i hi hs)⟩
theorem Chg.mono {S T : Nat → Prop} {a b : World} (h : Chg S a b) (hS : ∀ k, k < a.heap.size → S k → T k) : Chg T a b := ⟨h.os, h.tape, h.output, h.size, fun i hi hs => h.block i hi fun x => hs (hS i hi x)⟩
theorem Chg.of_below {S : Nat → Prop} {w w' : World} (h : Below w.heap.size w w') : Chg S w w' := ⟨h.os, h.tape, h.output, h.size, fun i hi _ => h.block i hi⟩
theorem Chg.of_wrote {g : Nat} {w w' : World} (h : Wrote g w w') : Chg (fun b => b = g) w w' := by
  have b := h.below 0 w (Nat.zero_le _) (Below.refl _ _)
  exact ⟨b.os, b.tape, b.output, b.size, fun i _ hs => h.other i hs⟩
theorem Chg.of_grown {r : Option Nat} {w w' : World} (h : w.grownBy w' r) : Chg (fun b => some b = r) w w' := ⟨h.os, h.tape, h.output, h.size, fun i hi hs => h.block i hi hs⟩
theorem Chg.drew {S : Nat → Prop} {w w' : World} (h : Chg S w w') : Chg S w w'.drew := ⟨h.os, h.tape, h.output, h.size, h.block⟩
theorem Chg.alloc {S : Nat → Prop} {w w' : World} (h : Chg S w w') (o : Obj) : Chg S w (w'.alloc o) := h.trans (.of_below (growB o))
theorem Chg.below {S : Nat → Prop} {B : Nat} {a w w' : World} (h : Below B a w) (c : Chg S w w') (hB : B ≤ w.heap.size) (hS : ∀ k, k < w.heap.size → S k → B ≤ k) : Below B a w' :=
  h.trans ⟨c.os, c.tape, c.output, c.size, fun i hi => c.block i (Nat.lt_of_lt_of_le hi hB) fun x => by
    have := hS i (Nat.lt_of_lt_of_le hi hB) x
    omega⟩
/-- What was there, but for S, is as it was: all of it, where S is nothing that was there. -/
theorem Chg.none {S : Nat → Prop} {w w' : World} (c : Chg S w w') (hS : ∀ k, k < w.heap.size → ¬ S k) : Below w.heap.size w w' := ⟨c.os, c.tape, c.output, c.size, fun i hi => c.block i hi (hS i hi)⟩
/-- Two steps: what the second one changes was changed before, or wasn't there before. -/
theorem Chg.step {S T : Nat → Prop} {a b c : World} (h : Chg S a b) (k : Chg T b c) (hT : ∀ i, i < a.heap.size → T i → S i) : Chg S a c :=
  ⟨k.os.trans h.os, k.tape.trans h.tape, k.output.trans h.output, Nat.le_trans h.size k.size, fun i hi hs => (k.block i (Nat.lt_of_lt_of_le hi h.size) fun x => hs (hT i hi x)).trans (h.block i hi hs)⟩

theorem own_chg {S : Nat → Prop} {w w' : World} {base : Nat} {e : TypeId} {v : Value} {n : Nat} {xs : List Value} (h : w.ownsRow base e 1 v n xs) (c : Chg S w w') (hS : ∀ g, v.ownBlock = some g → ¬ S g) : w'.ownsRow base e 1 v n xs := by
  refine ⟨h.1, h.2.imp id ?_⟩
  rintro ⟨g, cap, cur, rfl, h2, h3, h4⟩
  refine ⟨g, cap, cur, rfl, h2, ?_, h4⟩
  rw [c.block g (Array.getElem?_eq_some_iff.1 h3).1 (hS g rfl), h3]
theorem own_mono {w : World} {base base' : Nat} {e : TypeId} {v : Value} {n : Nat} {xs : List Value} (h : w.ownsRow base e 1 v n xs) (hb : base' ≤ base) : w.ownsRow base' e 1 v n xs := by
  refine ⟨h.1, h.2.imp id ?_⟩
  rintro ⟨g, cap, cur, rfl, h2, h3⟩
  exact ⟨g, cap, cur, rfl, Nat.le_trans hb h2, h3⟩
theorem RowAt.chg {S : Nat → Prop} {k : IntKind} {e : TypeId} {g cap : Nat} {l : List Int} {w w' : World} (h : RowAt k e g cap l w) (c : Chg S w w') (hS : ¬ S g) : RowAt k e g cap l w' := h.of_block (c.block g h.lt hS) c.size
theorem New.from {e : TypeId} {w wr w2 : World} {v : Value} {l : List UInt8} (h : New e wr v l w2) (hb : Below w.heap.size w wr) : New e w v l w2 := ⟨own_mono h.1 hb.size, hb.trans (h.2.mono hb.size)⟩

/-! ### A block and all of its cells -/
def BlkAt (g : Nat) (ty : TypeId) (cs : List Value) (w : World) : Prop := w.heap[g]? = some (.cells cs.toArray ty (0, 0))
theorem BlkAt.lt {g : Nat} {ty : TypeId} {cs : List Value} {w : World} (h : BlkAt g ty cs w) : g < w.heap.size := (Array.getElem?_eq_some_iff.1 h).1
theorem BlkAt.cell {g : Nat} {ty : TypeId} {cs : List Value} {w : World} (h : BlkAt g ty cs w) (j : Nat) : w.cell? ⟨g, j, none⟩ = cs[j]? := by
  unfold BlkAt at h
  simp [World.cell?, h]
theorem BlkAt.free {g : Nat} {ty : TypeId} {cs : List Value} {w : World} (h : BlkAt g ty cs w) (j : Nat) : w.frozen? ⟨g, j, none⟩ = false := by
  unfold BlkAt at h
  simp [World.frozen?, h]
theorem BlkAt.set {g : Nat} {ty : TypeId} {cs : List Value} {w : World} (h : BlkAt g ty cs w) (j : Nat) (v : Value) : BlkAt g ty (cs.set j v) (w.setCell ⟨g, j, none⟩ v) := by
  unfold BlkAt at h ⊢
  simp [World.setCell, Array.getElem?_modify, h]
theorem BlkAt.chg {S : Nat → Prop} {g : Nat} {ty : TypeId} {cs : List Value} {w w' : World} (h : BlkAt g ty cs w) (c : Chg S w w') (hS : ¬ S g) : BlkAt g ty cs w' := by
  unfold BlkAt at h ⊢
  rw [c.block g (Array.getElem?_eq_some_iff.1 h).1 hS, h]
theorem BlkAt.kept {g : Nat} {ty : TypeId} {cs : List Value} {w w' : World} (h : BlkAt g ty cs w) (c : Below w.heap.size w w') : BlkAt g ty cs w' := h.chg (Chg.of_below (S := fun _ => False) c) id
theorem BlkAt.drew {g : Nat} {ty : TypeId} {cs : List Value} {w : World} (h : BlkAt g ty cs w) : BlkAt g ty cs w.drew := h
theorem BlkAt.wrote {g g' : Nat} {ty : TypeId} {cs : List Value} {w w' : World} (h : BlkAt g ty cs w) (c : Wrote g' w w') (hg : g ≠ g') : BlkAt g ty cs w' := by
  unfold BlkAt at h ⊢
  rw [c.other g hg, h]
theorem BlkAt.fresh {w : World} {ty : TypeId} {cs : List Value} {c : Array Value} {b : Nat} (hc : c = cs.toArray) (hb : b = w.heap.size) : BlkAt b ty cs (w.alloc (.cells c ty)) := by
  subst hc hb
  show (w.heap.push (.cells cs.toArray ty))[w.heap.size]? = _
  simp
/-- Some cells in the middle are written. -/
theorem BlkAt.setCells {g : Nat} {ty : TypeId} : ∀ (xs pre mid post : List Value) (w : World), BlkAt g ty (pre ++ mid ++ post) w → xs.length = mid.length → BlkAt g ty (pre ++ xs ++ post) (w.setCells g pre.length xs)
  | [], pre, mid, post, w, h, hl => by
    have : mid = [] := List.eq_nil_of_length_eq_zero hl.symm
    subst this
    exact h
  | x :: xs, pre, [], post, w, h, hl => by simp at hl
  | x :: xs, pre, m :: mid, post, w, h, hl => by
    have h1 := h.set pre.length x
    rw [List.append_assoc, List.set_append_right _ _ (Nat.le_refl _), Nat.sub_self, List.cons_append, List.set_cons_zero] at h1
    have h2 := BlkAt.setCells xs (pre ++ [x]) mid post _ (by simpa using h1) (by simpa using hl)
    simpa [World.setCells] using h2
theorem BlkAt.range {g : Nat} {ty : TypeId} {w : World} {pre mid post : List Value} (h : BlkAt g ty (pre ++ mid ++ post) w) : w.rangeAt g pre.length mid := fun j v hv => by
  rw [h.cell, List.append_assoc, List.getElem?_append_right (by omega), Nat.add_sub_cancel_left, List.getElem?_append_left (by
    rcases Nat.lt_or_ge j mid.length with h | h
    · exact h
    · simp [List.getElem?_eq_none h] at hv), hv]
theorem BlkAt.there {g : Nat} {ty : TypeId} {w : World} {pre mid post : List Value} (h : BlkAt g ty (pre ++ mid ++ post) w) : w.there g pre.length mid.length := fun j hj => by
  refine ⟨?_, h.free _⟩
  rw [h.cell, List.append_assoc, List.getElem?_append_right (by omega), Nat.add_sub_cancel_left, List.getElem?_append_left hj]
  simp [hj]
/-- A part of a block that is an array or a struct, loaded as a whole. -/
theorem wpList_load_blk {P : Program} {ops : Array Oper} {rest : List Oper} {op : Oper} {a : Act} {w : World} {Q : Exit → Act → World → Prop} (hgd : op.guard = none) (ty : TypeId) (x : Operand) (ho : op.op = .load ty x)
    {g o : Nat} (hx : a.eval x = .pointer (some ⟨g, o, none⟩)) {bt : TypeId} {pre mid post : List Value} (hb : BlkAt g bt (pre ++ mid ++ post) w) (hp : pre.length = o) {d : TypeDesc}
    (hu : P.underlying ty = some d) (hd : d.isRow = true) (hi : (P.info? ty).map (·.size) = some mid.length) (h : wpList P ops Q rest (a.put op.dst (.agg mid.toArray)) w) : wpList P ops Q (op :: rest) a w := by
  subst hp
  exact wpList_load_mid hgd ty x ho g _ hx mid d hb.range hu hd hi h
/-- .. and stored as a whole. -/
theorem wpList_store_blk {P : Program} {ops : Array Oper} {rest : List Oper} {op : Oper} {a : Act} {w : World} {Q : Exit → Act → World → Prop} (hgd : op.guard = none) (ty : TypeId) (x y : Operand) (ho : op.op = .store ty x y)
    {g o : Nat} (hx : a.eval x = .pointer (some ⟨g, o, none⟩)) (xs : List Value) (hy : a.eval y = .agg xs.toArray) {bt : TypeId} {pre mid post : List Value} (hb : BlkAt g bt (pre ++ mid ++ post) w) (hp : pre.length = o)
    (hl : xs.length = mid.length) (hi : (P.info? ty).map (·.size) = some mid.length) (h1 : xs.toArray.all (·.oneCell') = true)
    (h : ∀ w', BlkAt g bt (pre ++ xs ++ post) w' → Wrote g w w' → wpList P ops Q rest (a.put op.dst undef) w') : wpList P ops Q (op :: rest) a w := by
  subst hp
  refine wpList_plain hgd fun K hK => wp_store_mid ty x y ho g _ _ hx hy (by simpa [hl] using hb.there) (by simp [hl, hi]) h1 (hK _ _ (h _ ?_ (Wrote.setCells g _ _ w)))
  exact BlkAt.setCells xs pre mid post w hb hl
/-- A part of a block, loaded as a whole in a region whose order is open. -/
theorem exec_load_blk {P : Program} {op : Oper} {a : Act} {W : World} (ty : TypeId) (x : Operand) (ho : op.op = .load ty x) {g o : Nat} (hx : a.eval x = .pointer (some ⟨g, o, none⟩))
    {bt : TypeId} {pre mid post : List Value} (hb : BlkAt g bt (pre ++ mid ++ post) W) (hp : pre.length = o) {d : TypeDesc} (hu : P.underlying ty = some d) (hd : d.isRow = true) (hi : (P.info? ty).map (·.size) = some mid.length) :
    (execOp a.eval op).run P W = .ok (.value (.agg mid.toArray)) W := by
  subst hp
  have h1 := run_loadVar_mid (P := P) W g pre.length ty mid d hb.range hu hd hi
  unfold execOp
  simp only [ho, hx, Instr.loadAt, Instr.sureAddr, Sem.run_bind, Sem.run_pure, Result.andThen_ok, h1]
/-! ### Rows of bytes that are made, and copied into -/
theorem New.made {e : TypeId} {w w1 : World} {n : Nat} (hown : w1.ownsRow w.heap.size e 1 (.slice (some ⟨w.heap.size, 0, none⟩) n n) n (madeCells #[.int .u8 0] n).toList) (hgr : w.grownBy w1 none) : New e w (.slice (some ⟨w.heap.size, 0, none⟩) n n) (List.replicate n 0) w1 := by
  have h := Fill.start (fun _ => 0) hown hgr
  have h2 : Fill e w w.heap.size n (fun _ => 0) n w1 := by
    have e1 : rowV (fun _ => 0) n 0 = rowV (fun _ => 0) n n := by
      refine List.ext_getElem (by simp [rowV]) fun i h1 h2 => ?_
      simp [rowV]
    exact ⟨e1 ▸ h.1, h.2⟩
  have h3 := h2.done
  have e2 : (List.range n).map (fun _ => (0 : UInt8)) = List.replicate n 0 := by
    refine List.ext_getElem (by simp) fun i h1 h2 => ?_
    simp
  rwa [e2] at h3
/-- Bytes copied to the head of a row of the call's own. -/
theorem wpList_copy_new {P : Program} {w wr : World} {ops : Array Oper} {rest : List Oper} {o : Oper} {a : Act} {Q : Exit → Act → World → Prop} (hg : o.guard = none) (d s : Operand) (t : TypeId)
    (ho : o.op = .call { callee := .builtin .copy, args := #[d, s], argTypes := #[t, t] }) (e : TypeId) (ht : P.underlying t = some (.slice e)) (hsz : (P.info? e).map (·.size) = some 1)
    (v : Value) (l : List UInt8) (hs : a.eval d = v) (hN : New e w v l wr) (vx : Value) (l2 : List UInt8) (hx : a.eval s = vx) (hR : Rd wr vx l2) (hlen : l2.length ≤ l.length) (hne : l ≠ [])
    (h : ∀ w', New e w v (l2 ++ l.drop l2.length) w' → wpList P ops Q rest (a.put o.dst (goInt l2.length)) w') : wpList P ops Q (o :: rest) a wr := by
  have hpos : 0 < l.length := List.length_pos_iff.2 hne
  obtain ⟨ax, cap2, rfl, h2, h3, h4, h5⟩ := hR
  rcases hN.1.2 with ⟨h', h0⟩ | ⟨g, cap, cur, rfl, hb, hgh, hn, hm, hss, htk⟩
  · omega
  have hsz2 : cur.size = cap := by simpa using hss
  have hcl : (l2.map bv).length = Nat.min l2.length l.length := by rw [List.length_map]; exact (Nat.min_eq_left hlen).symm
  refine wpList_copy_splice hg d s t t ho e ht hsz _ ax l.length cap l2.length cap2 hs hx g 0 cur.toList e (by simpa using hgh) (l2.map bv) hcl ?_ (by simp; omega) (bv_oneCell l2) _ w hN.2 hb ?_
  · intro hp
    refine ⟨rfl, ?_⟩
    rcases h5 with rfl | ⟨b, off, rfl, hc⟩
    · simp at hp
    · refine ⟨_, rfl, fun j u hj => ?_⟩
      have hjl : j < l2.length := by
        rcases Nat.lt_or_ge j l2.length with h | h
        · exact h
        · simp [List.getElem?_eq_none h] at hj
      have hplain : (⟨b, off, none⟩ : Addr).add j = ⟨b, off + j, none⟩ := by unfold Addr.add; split <;> simp_all
      rw [hplain, hc j hjl]
      simp [List.getElem?_eq_getElem hjl] at hj
      subst hj
      simp [bv, hjl]
  · intro w' hw' hb'
    rw [List.length_map]
    refine h w' ⟨⟨by simp, .inr ⟨g, cap, _, ?_, hb, hw'.out, ?_, hm, ?_, ?_⟩⟩, hb'⟩
    · rw [show (l2 ++ l.drop l2.length).length = l.length by simp; omega]
    · simp; omega
    · simp [splice]; omega
    · have e1 : cur.toList.take l.length = l.map bv := by simpa using htk
      rw [show (l2 ++ l.drop l2.length).length * 1 = l2.length + (l.length - l2.length) by simp]
      simp only [splice, List.take_zero, List.nil_append, Nat.zero_add, List.length_map]
      rw [show l2.length + (l.length - l2.length) = (l2.map bv).length + (l.length - l2.length) by simp, List.take_length_add_append, List.map_append, List.map_drop, ← e1, List.drop_take]
theorem Rd.sub {w : World} {b off n cap : Nat} {l : List UInt8} (h : Rd w (.slice (some ⟨b, off, none⟩) n cap) l) (i k : Nat) (hi : i ≤ k) (hk : k ≤ n) :
    Rd w (.slice (some ⟨b, off + i, none⟩) (k - i) (cap - i)) ((l.drop i).take (k - i)) := by
  obtain ⟨a', cap', e, h2, h3, h4, h5⟩ := h
  simp only [Value.slice.injEq] at e
  obtain ⟨rfl, rfl, rfl⟩ := e
  have hl : ((l.drop i).take (k - i)).length = k - i := by simp; omega
  refine ⟨_, _, by rw [hl], by rw [hl]; omega, by omega, (fun h => by cases h), ?_⟩
  by_cases h0 : k - i = 0
  · left
    rw [h0]
    simp
  · rcases h5 with rfl | ⟨b', off', e, hc⟩
    · simp at hk; omega
    · simp only [Option.some.injEq, Addr.mk.injEq, and_true] at e
      obtain ⟨rfl, rfl⟩ := e
      refine .inr ⟨b, off + i, rfl, fun j hj => ?_⟩
      rw [hl] at hj
      rw [show off + i + j = off + (i + j) by omega, hc (i + j) (by omega)]
      simp [hj]
theorem New.kept {e : TypeId} {w wr w2 : World} {v : Value} {l : List UInt8} (h : New e w v l wr) (hb : Below wr.heap.size wr w2) : New e w v l w2 :=
  ⟨ownsRow_below h.1 hb, h.2.trans (hb.mono h.2.size)⟩

/-! ### Appending, whatever else has changed -/
theorem append_near8 {P : Program} (wr : World) (base : Nat) (t ty e : TypeId) (i : TypeInfo) (ht : P.underlying t = some (.slice e)) (hi : P.info? e = some i) (hz : i.zero = some (.int .u8 0)) (hs1 : i.size = 1) (hby : i.bytes = 1)
    (v : Value) (n : Nat) (xs : List Value) (hown : wr.ownsRow base e 1 v n xs) (ad : Addr) (m c : Nat) (news : List Value) (hl : news.length = m) (hnews : ∀ j u, news[j]? = some u → wr.cell? (ad.add j) = some u) (h1 : ∀ u ∈ news, u.oneCell' = true)
    (h63 : n + m ≤ maxLen) (hbytes : n + m ≤ 140737488355328) (v' : Value) (w' : World) (hr : (Builtin.append_ #[t, t] ty #[v, .slice (some ad) m c]).run P wr = .ok v' w') (hnil : v' = .slice none 0 0 ↔ v = .slice none 0 0 ∧ m = 0) : Near wr v v' :=
  append_near wr base t ty e i 1 ht hi hz hs1 hby v n xs hown ad m c news hl hnews h1 h63 (by omega) v' w' hr hnil
theorem wp_append_base {P : Program} {base : Nat} {wr : World} {o : Oper} {a : Act} {K : Act → World → Prop} {Q : Exit → Act → World → Prop} (s x : Operand) (t : TypeId)
    (ho : o.op = .call { callee := .builtin .append, args := #[s, x], argTypes := #[t, t] }) (e : TypeId) (ht : P.underlying t = some (.slice e))
    (hinfo : (P.info? e).map (fun i => (i.zero, i.size, i.bytes)) = some (some (.int .u8 0), 1, 1)) (v : Value) (l : List UInt8) (hs : a.eval s = v) (hN : wr.ownsRow base e 1 v l.length (l.map bv)) (hbase : base ≤ wr.heap.size)
    (vx : Value) (l2 : List UInt8) (hx : a.eval x = vx) (hR : Rd wr vx l2) (hlen : l.length + l2.length ≤ 140737488355328)
    (h : ∀ v' w', w'.ownsRow base e 1 v' (l ++ l2).length ((l ++ l2).map bv) → wr.grownBy w' v.ownBlock → Near wr v v' → K (a.put o.dst v') w') : o.wp P a wr K Q := by
  obtain ⟨i, hi, hz0, hz1, hz2⟩ := info_parts hinfo
  obtain ⟨ax, cap, rfl, h2, h3, h4, h5⟩ := hR
  cases ax with
  | none =>
    have h0 := h4 rfl
    subst h0
    have hl2 : l2 = [] := List.eq_nil_of_length_eq_zero (by omega)
    subst hl2
    have hrun := run_append_owned_none (P := P) (w := wr) base t o.type e i 1 ht hi v l.length _ hN
    have hx' : a.eval x = .slice none 0 0 := hx
    unfold Oper.wp
    simp [execOp, ho, resolve, invoke, builtin, hs, hx', hrun, Result.andThen]
    exact h v wr (by simpa using hN) (World.grownBy.refl _ _) (.inl rfl)
  | some ad =>
    have hcells : ∀ j u, (l2.map bv)[j]? = some u → wr.cell? (ad.add j) = some u := by
      intro j u hj
      have hjl : j < l2.length := by
        rcases Nat.lt_or_ge j l2.length with h | h
        · exact h
        · simp [List.getElem?_eq_none h] at hj
      rcases h5 with rfl | ⟨b, off, e1, hc⟩
      · simp at hjl
      · simp only [Option.some.injEq] at e1
        subst e1
        have hplain : (⟨b, off, none⟩ : Addr).add j = ⟨b, off + j, none⟩ := by unfold Addr.add; split <;> simp_all
        rw [hplain, hc j hjl]
        simp [List.getElem?_eq_getElem hjl] at hj
        subst hj
        simp [bv, hjl]
    obtain ⟨v', w', hr, r2, r3, r4⟩ := run_append_own (P := P) wr base t o.type e i _ 1 1 ht hi hz0 hz1 hz2 rfl (by decide) v l.length _ hN ad l2.length cap (l2.map bv) (by simp) hcells (bv_oneCell l2) (by unfold maxLen; omega) (by omega) hbase
    have hnear := append_near8 wr base t o.type e i ht hi hz0 hz1 hz2 v l.length _ hN ad l2.length cap (l2.map bv) (by simp) hcells (bv_oneCell l2) (by unfold maxLen; omega) hlen v' w' hr r4
    unfold Oper.wp execOp
    simp only [ho, resolve, invoke, builtin, Sem.run_bind, Sem.run_pure, Result.andThen_ok, List.map_toArray, List.map_cons, List.map_nil, hs, hx, hr]
    exact h v' w' (by simpa using r2) r3 hnear
theorem wpList_append_base {P : Program} {base : Nat} {wr : World} {ops : Array Oper} {rest : List Oper} {o : Oper} {a : Act} {Q : Exit → Act → World → Prop} (hg : o.guard = none) (s x : Operand) (t : TypeId)
    (ho : o.op = .call { callee := .builtin .append, args := #[s, x], argTypes := #[t, t] }) (e : TypeId) (ht : P.underlying t = some (.slice e))
    (hinfo : (P.info? e).map (fun i => (i.zero, i.size, i.bytes)) = some (some (.int .u8 0), 1, 1)) (v : Value) (l : List UInt8) (hs : a.eval s = v) (hN : wr.ownsRow base e 1 v l.length (l.map bv)) (hbase : base ≤ wr.heap.size)
    (vx : Value) (l2 : List UInt8) (hx : a.eval x = vx) (hR : Rd wr vx l2) (hlen : l.length + l2.length ≤ 140737488355328)
    (h : ∀ v' w', w'.ownsRow base e 1 v' (l ++ l2).length ((l ++ l2).map bv) → wr.grownBy w' v.ownBlock → Near wr v v' → wpList P ops Q rest (a.put o.dst v') w') : wpList P ops Q (o :: rest) a wr :=
  wpList_plain hg fun _ hK => wp_append_base s x t ho e ht hinfo v l hs hN hbase vx l2 hx hR hlen fun v' w' h1 h2 h3 => hK _ _ (h v' w' h1 h2 h3)
theorem Apart.near {wr : World} {v v' u : Value} (hn : Near wr v v') (hap : Apart v u) (hlt : ∀ g, u.ownBlock = some g → g < wr.heap.size) : Apart v' u := by
  intro g hg hu
  rcases hn with h1 | h1
  · rw [h1] at hg
    exact hap g hg hu
  · have h2 := h1 g hg
    have h3 := hlt g hu
    omega
theorem Apart.lt {B : Nat} {v u : Value} (hv : ∀ g, v.ownBlock = some g → g < B) (hu : ∀ g, u.ownBlock = some g → B ≤ g) : Apart v u := by
  intro g h1 h2
  have := hv g h1
  have := hu g h2
  omega

/-! ### Several rows of the call's own, side by side -/
/-- Rows of bytes that were made since w0, none of which lies where another one lies; of what was there at w0 nothing has changed. -/
structure Own (e : TypeId) (w0 : World) (L : List (Value × List UInt8)) (w : World) : Prop where
  rows : ∀ p ∈ L, w.ownsRow w0.heap.size e 1 p.1 p.2.length (p.2.map bv)
  apart : L.Pairwise fun p q => Apart p.1 q.1
  below : Below w0.heap.size w0 w
theorem Own.start (e : TypeId) (w0 : World) : Own e w0 [] w0 := ⟨(fun p hp => by cases hp), .nil, Below.refl _ _⟩
theorem Own.kept {e : TypeId} {w0 w w' : World} {L : List (Value × List UInt8)} (h : Own e w0 L w) (hb : Below w.heap.size w w') : Own e w0 L w' :=
  ⟨fun p hp => ownsRow_below (h.rows p hp) hb, h.apart, stepB h.below hb⟩
theorem Own.drew {e : TypeId} {w0 w : World} {L : List (Value × List UInt8)} (h : Own e w0 L w) : Own e w0 L w.drew := h.kept (Below.refl _ _).drew
theorem Own.perm {e : TypeId} {w0 w : World} {L L' : List (Value × List UInt8)} (h : Own e w0 L w) (hp : L'.Perm L) : Own e w0 L' w :=
  ⟨fun p hp' => h.rows p (hp.subset hp'), (hp.pairwise_iff (fun h => h.symm)).2 h.apart, h.below⟩
theorem Own.tail {e : TypeId} {w0 w : World} {p : Value × List UInt8} {L : List (Value × List UInt8)} (h : Own e w0 (p :: L) w) : Own e w0 L w :=
  ⟨fun q hq => h.rows q (List.mem_cons_of_mem _ hq), (List.pairwise_cons.1 h.apart).2, h.below⟩
theorem Own.rd {e : TypeId} {w0 w : World} {v : Value} {l : List UInt8} {L : List (Value × List UInt8)} (h : Own e w0 L w) (hp : (v, l) ∈ L) : Rd w v l := Rd.of_row (h.rows _ hp)
theorem Own.nil {e : TypeId} {w0 w : World} {L : List (Value × List UInt8)} (h : Own e w0 L w) : Own e w0 ((.slice none 0 0, []) :: L) w :=
  ⟨fun p hp => by
    rcases List.mem_cons.1 hp with rfl | hp
    · exact World.ownsRow_nil _ _ _ _
    · exact h.rows p hp, List.pairwise_cons.2 ⟨fun q _ => Apart.nil _, h.apart⟩, h.below⟩
/-- What a call gives in new memory lies apart from all others. -/
theorem Own.new {e : TypeId} {w0 w w' : World} {v : Value} {l : List UInt8} {L : List (Value × List UInt8)} (h : Own e w0 L w) (hN : New e w v l w') : Own e w0 ((v, l) :: L) w' := by
  have hk := h.kept hN.2
  refine ⟨fun p hp => ?_, List.pairwise_cons.2 ⟨fun q hq => ?_, h.apart⟩, hk.below⟩
  · rcases List.mem_cons.1 hp with rfl | hp
    · exact own_mono hN.1 h.below.size
    · exact hk.rows p hp
  · refine Apart.symm (Apart.lt (B := w.heap.size) (fun g hg => ((h.rows q hq).lt g hg).2) fun g hg => (hN.1.lt g hg).1)
theorem Own.append {e : TypeId} {w0 wr w' : World} {v v' : Value} {l l' : List UInt8} {L : List (Value × List UInt8)} (h : Own e w0 ((v, l) :: L) wr) (h1 : w'.ownsRow w0.heap.size e 1 v' l'.length (l'.map bv)) (hg : wr.grownBy w' v.ownBlock) (hn : Near wr v v') : Own e w0 ((v', l') :: L) w' := by
  have hp := List.pairwise_cons.1 h.apart
  have hv := h.rows (v, l) (List.mem_cons_self ..)
  refine ⟨fun p hp' => ?_, List.pairwise_cons.2 ⟨fun q hq => ?_, hp.2⟩, h.below.grown hg h.below.size fun k hk => (hv.lt k hk).1⟩
  · rcases List.mem_cons.1 hp' with rfl | hp'
    · exact h1
    · exact own_chg (h.rows p (List.mem_cons_of_mem _ hp')) (Chg.of_grown hg) fun g hg' e => hp.1 p hp' g e.symm hg'
  · exact Apart.near hn (hp.1 q hq) fun g hg' => ((h.rows q (List.mem_cons_of_mem _ hq)).lt g hg').2
theorem wpList_append_Own {P : Program} {e : TypeId} {w0 wr : World} {L : List (Value × List UInt8)} {ops : Array Oper} {rest : List Oper} {o : Oper} {a : Act} {Q : Exit → Act → World → Prop} (hg : o.guard = none) (s x : Operand) (t : TypeId)
    (ho : o.op = .call { callee := .builtin .append, args := #[s, x], argTypes := #[t, t] }) (ht : P.underlying t = some (.slice e))
    (hinfo : (P.info? e).map (fun i => (i.zero, i.size, i.bytes)) = some (some (.int .u8 0), 1, 1)) (v : Value) (l : List UInt8) (hs : a.eval s = v) (hO : Own e w0 ((v, l) :: L) wr)
    (vx : Value) (l2 : List UInt8) (hx : a.eval x = vx) (hR : Rd wr vx l2) (hlen : l.length + l2.length ≤ 140737488355328)
    (h : ∀ v' w', Own e w0 ((v', l ++ l2) :: L) w' → wpList P ops Q rest (a.put o.dst v') w') : wpList P ops Q (o :: rest) a wr :=
  wpList_append_base hg s x t ho e ht hinfo v l hs (hO.rows _ (List.mem_cons_self ..)) hO.below.size vx l2 hx hR hlen fun v' w' h1 h2 h3 => h v' w' (hO.append h1 h2 h3)
end Go.Proofs.YtkoecgoajbgkgaaDoor

/- A whole array by value, loaded in a region whose order is open. No program's text is named. -/
namespace Go.Proofs.YtkoecgoajbgkgaaDoor
set_option linter.unusedSimpArgs false
open Go.ChangeShapes Go.WideShapes Go.ChangeAt Go.RowKit
set_option linter.unusedVariables false

/-- A whole array is loaded in a region whose order is open. -/
theorem exec_load_row {k : IntKind} {e : TypeId} {g cap : Nat} {l : List Int} {P : Program} {w W : World} {op : Oper} {a : Act} (ty : TypeId) (x : Operand) (ho : op.op = .load ty x) (hx : a.eval x = .pointer (some ⟨g, 0, none⟩)) (hr : RowAt k e g cap l w)
    (hb : Below w.drew.heap.size w.drew W) (d : TypeDesc) (hu : P.underlying ty = some d) (hd : d.isRow = true) (hi : (P.info? ty).map (·.size) = some l.length) :
    (execOp a.eval op).run P W = .ok (.value (.agg (l.map (Value.int k)).toArray)) W := by
  have h1 := (hr.drew.kept hb).load (P := P) hu hd hi
  unfold execOp
  simp only [ho, hx, Instr.loadAt, Instr.sureAddr, Sem.run_bind, Sem.run_pure, Result.andThen_ok, h1]
theorem exec_load_row' {k : IntKind} {e : TypeId} {g cap : Nat} {l : List Int} {P : Program} {w W : World} {op : Oper} {a : Act} (ty : TypeId) (x : Operand) (ho : op.op = .load ty x) (hx : a.eval x = .pointer (some ⟨g, 0, none⟩)) (hr : RowAt k e g cap l w)
    (hb : Below w.heap.size w W) (d : TypeDesc) (hu : P.underlying ty = some d) (hd : d.isRow = true) (hi : (P.info? ty).map (·.size) = some l.length) :
    (execOp a.eval op).run P W = .ok (.value (.agg (l.map (Value.int k)).toArray)) W := by
  have h1 := (hr.kept hb).load (P := P) hu hd hi
  unfold execOp
  simp only [ho, hx, Instr.loadAt, Instr.sureAddr, Sem.run_bind, Sem.run_pure, Result.andThen_ok, h1]
end Go.Proofs.YtkoecgoajbgkgaaDoor

/- Arrays of bytes held in a block: made, laid down, copied into, cut. No program's text is named. -/
namespace Go.Proofs.YtkoecgoajbgkgaaDoor
open Go.ChangeShapes Go.WideShapes Go.ChangeAt Go.RowKit
set_option linter.unusedSimpArgs false
set_option linter.unusedVariables false

/-- Bytes as numbers. -/
def byI (l : List UInt8) : List Int := l.map fun x => (x.toNat : Int)
theorem byI_length (l : List UInt8) : (byI l).length = l.length := by simp [byI]
theorem byI_bv (l : List UInt8) : (byI l).map (Value.int .u8) = l.map bv := by simp [byI, bv, Function.comp_def]
theorem byI_get (l : List UInt8) (j : Nat) : (byI l).getD j 0 = ((l.getD j 0).toNat : Int) := by
  simp only [byI, List.getD_eq_getElem?_getD, List.getElem?_map]
  cases l[j]? <;> simp
theorem byI_set (l : List UInt8) (j : Nat) (x : UInt8) : (byI l).set j (x.toNat : Int) = byI (l.set j x) := by simp [byI, List.map_set]
theorem byI_ne {l : List UInt8} (h : l ≠ []) : byI l ≠ [] := by simpa [byI] using h
/-- An array of bytes as a value. -/
def arB (l : List UInt8) : Value := .agg ((byI l).map (Value.int .u8)).toArray
theorem RowAt.rdB {e : TypeId} {g cap : Nat} {l : List UInt8} {w : World} (h : RowAt .u8 e g cap (byI l) w) : Rd w (.slice (some ⟨g, 0, none⟩) l.length cap) l := by
  have := h.own
  rw [byI_bv, byI_length] at this
  exact Rd.of_row this
theorem RowAt.cellB {e : TypeId} {g cap : Nat} {l : List UInt8} {w : World} (h : RowAt .u8 e g cap (byI l) w) {j : Nat} (hj : j < l.length) : w.cell? ⟨g, j, none⟩ = some (.int .u8 ((l.getD j 0).toNat : Int)) := by
  rw [h.cell (by rw [byI_length]; exact hj), byI_get]
theorem RowAt.setB {e : TypeId} {g cap : Nat} {l : List UInt8} {w : World} (h : RowAt .u8 e g cap (byI l) w) (j : Nat) (x : UInt8) : RowAt .u8 e g cap (byI (l.set j x)) (w.setCell ⟨g, j, none⟩ (.int .u8 (x.toNat : Int))) := by
  rw [← byI_set]
  exact h.set j _
theorem RowAt.newB {e : TypeId} {g cap : Nat} {l : List UInt8} {w wr : World} (h : RowAt .u8 e g cap (byI l) wr) (hg : w.heap.size ≤ g) (hb : Below w.heap.size w wr) : New e w (.slice (some ⟨g, 0, none⟩) l.length cap) l wr := by
  have := h.own
  rw [byI_bv, byI_length] at this
  exact ⟨own_mono this hg, hb⟩
theorem New.rowB {e : TypeId} {g n cap : Nat} {l : List UInt8} {w wr : World} (h : New e w (.slice (some ⟨g, 0, none⟩) n cap) l wr) (hl : l ≠ []) : RowAt .u8 e g cap (byI l) wr := by
  have hN : NewI .u8 e w (.slice (some ⟨g, 0, none⟩) n cap) (byI l) wr := by
    unfold NewI
    rw [byI_bv, byI_length]
    exact h
  obtain ⟨gs, caps, es, hgs, hrow⟩ := hN.row (byI_ne hl)
  simp only [Value.slice.injEq, Option.some.injEq, Addr.mk.injEq, and_true, true_and] at es
  obtain ⟨rfl, -, rfl⟩ := es
  exact hrow
/-- A variable is made, all noughts. -/
theorem wpList_alloc_row {k : IntKind} {P : Program} {ops : Array Oper} {rest : List Oper} {op : Oper} {a : Act} {w : World} {Q : Exit → Act → World → Prop} (hgd : op.guard = none) (ty : TypeId) (ho : op.op = .alloc ty) (l : List Int)
    (hrun : (Instr.alloc ty true (.tuple #[])).run P w = .ok (.pointer (some ⟨w.heap.size, 0, none⟩)) (w.alloc (.cells (l.map (Value.int k)).toArray ty))) (hne : l ≠ []) (hm : l.length ≤ maxLen)
    (h : ∀ w', RowAt k ty w.heap.size l.length l w' → Below w.heap.size w w' → Hid (w'.heap.size = w.heap.size + 1) → wpList P ops Q rest (a.put op.dst (.pointer (some ⟨w.heap.size, 0, none⟩))) w') : wpList P ops Q (op :: rest) a w := by
  refine wpList_plain hgd fun K hK => ?_
  unfold Oper.wp execOp
  simp only [ho, Sem.run_bind, hrun, Result.andThen_ok, Sem.run_pure]
  exact hK _ _ (h _ (RowAt.fresh l rfl rfl rfl hne hm) (growB _) (show _ = _ by simp))
theorem run_box (P : Program) (w : World) (ty : TypeId) (cs : Array Value) : (Instr.box ty (.agg cs)).run P w = .ok (.pointer (some ⟨w.heap.size, 0, none⟩)) (w.alloc (.cells cs ty)) := rfl
/-- A value is laid into a new variable. -/
theorem wpList_box_row {k : IntKind} {P : Program} {ops : Array Oper} {rest : List Oper} {op : Oper} {a : Act} {w : World} {Q : Exit → Act → World → Prop} (hgd : op.guard = none) (ty : TypeId) (x : Operand) (ho : op.op = .box ty x) (l : List Int)
    (hx : a.eval x = .agg (l.map (Value.int k)).toArray) (hne : l ≠ []) (hm : l.length ≤ maxLen)
    (h : ∀ w', RowAt k ty w.heap.size l.length l w' → Below w.heap.size w w' → Hid (w'.heap.size = w.heap.size + 1) → wpList P ops Q rest (a.put op.dst (.pointer (some ⟨w.heap.size, 0, none⟩))) w') : wpList P ops Q (op :: rest) a w := by
  refine wpList_plain hgd fun K hK => ?_
  unfold Oper.wp execOp
  simp only [ho, hx, Sem.run_bind, run_box, Result.andThen_ok, Sem.run_pure]
  exact hK _ _ (h _ (RowAt.fresh l rfl rfl rfl hne hm) (growB _) (show _ = _ by simp))
/-- Bytes copied to the head of an own row, whatever its block's type. -/
theorem wpList_copy_row {P : Program} {w wr : World} {ops : Array Oper} {rest : List Oper} {o : Oper} {a : Act} {Q : Exit → Act → World → Prop} (hg : o.guard = none) (d s : Operand) (t : TypeId)
    (ho : o.op = .call { callee := .builtin .copy, args := #[d, s], argTypes := #[t, t] }) (e : TypeId) (ht : P.underlying t = some (.slice e)) (hsz : (P.info? e).map (·.size) = some 1)
    {bt : TypeId} {gb n cap : Nat} (l : List UInt8) (hs : a.eval d = .slice (some ⟨gb, 0, none⟩) n cap) (hn : n = l.length) (hR0 : RowAt .u8 bt gb cap (byI l) wr) (vx : Value) (l2 : List UInt8) (hx : a.eval s = vx) (hR : Rd wr vx l2) (hlen : l2.length ≤ l.length) (hne : l ≠ [])
    (hbw : Below w.heap.size w wr) (hgw : w.heap.size ≤ gb)
    (h : ∀ w', RowAt .u8 bt gb cap (byI (l2 ++ l.drop l2.length)) w' → Below w.heap.size w w' → wpList P ops Q rest (a.put o.dst (goInt l2.length)) w') : wpList P ops Q (o :: rest) a wr := by
  subst hn
  have hpos : 0 < l.length := List.length_pos_iff.2 hne
  have hN := hR0.newB hgw hbw
  obtain ⟨ax, cap2, rfl, h2, h3, h4, h5⟩ := hR
  rcases hN.1.2 with ⟨h', h0⟩ | ⟨g, cap', cur, h', hb, hgh, hn, hm, hss, htk⟩
  · omega
  simp only [Value.slice.injEq, Option.some.injEq, Addr.mk.injEq, and_true, true_and] at h'
  obtain ⟨rfl, rfl⟩ := h'
  have hsz2 : cur.size = cap := by simpa using hss
  have hcl : (l2.map bv).length = Nat.min l2.length l.length := by rw [List.length_map]; exact (Nat.min_eq_left hlen).symm
  refine wpList_copy_splice hg d s t t ho e ht hsz _ ax l.length cap l2.length cap2 hs hx gb 0 cur.toList bt (by simpa using hgh) (l2.map bv) hcl ?_ (by simp; omega) (bv_oneCell l2) _ w hN.2 hb ?_
  · intro hp
    refine ⟨rfl, ?_⟩
    rcases h5 with rfl | ⟨b, off, rfl, hc⟩
    · simp at hp
    · refine ⟨_, rfl, fun j u hj => ?_⟩
      have hjl : j < l2.length := by
        rcases Nat.lt_or_ge j l2.length with h | h
        · exact h
        · simp [List.getElem?_eq_none h] at hj
      have hplain : (⟨b, off, none⟩ : Addr).add j = ⟨b, off + j, none⟩ := by unfold Addr.add; split <;> simp_all
      rw [hplain, hc j hjl]
      simp [List.getElem?_eq_getElem hjl] at hj
      subst hj
      simp [bv, hjl]
  · intro w' hw' hb'
    rw [List.length_map]
    have hll : (l2 ++ l.drop l2.length).length = l.length := by simp; omega
    have hN2 : New bt w (.slice (some ⟨gb, 0, none⟩) l.length cap) (l2 ++ l.drop l2.length) w' := by
      refine ⟨⟨by simp, .inr ⟨gb, cap, _, ?_, hb, hw'.out, ?_, hm, ?_, ?_⟩⟩, hb'⟩
      · rw [hll]
      · omega
      · simp [splice]; omega
      · have e1 : cur.toList.take l.length = l.map bv := by simpa using htk
        rw [show (l2 ++ l.drop l2.length).length * 1 = l2.length + (l.length - l2.length) by simp]
        simp only [splice, List.take_zero, List.nil_append, Nat.zero_add, List.length_map]
        rw [show l2.length + (l.length - l2.length) = (l2.map bv).length + (l.length - l2.length) by simp, List.take_length_add_append, List.map_append, List.map_drop, ← e1, List.drop_take]
    exact h w' (hN2.rowB (by rw [← List.length_pos_iff]; omega)) hb'
end Go.Proofs.YtkoecgoajbgkgaaDoor

/- What follows of the permutation: three steps add up, every step can be taken back, turning and putting elsewhere keep how many bits are 1, noughts stay noughts: plain mathematics. No program's text is named. -/
namespace Go.Proofs.YtkoecgoajbgkgaaDoor
set_option linter.unusedSimpArgs false
set_option linter.unusedVariables false

/-! ### Sums of two states -/
def addS (f g : Nat → Nat) (i : Nat) : Nat := f i ^^^ g i
theorem addS_lt (f g : Nat → Nat) (hf : ∀ i, f i < 18446744073709551616) (hg : ∀ i, g i < 18446744073709551616) (i : Nat) : addS f g i < 18446744073709551616 := xor_lt64 (hf i) (hg i)
theorem xor_four (a b c d : Nat) : a ^^^ b ^^^ (c ^^^ d) = a ^^^ c ^^^ (b ^^^ d) := by
  apply Nat.eq_of_testBit_eq
  intro i
  simp only [Nat.testBit_xor]
  cases a.testBit i <;> cases b.testBit i <;> cases c.testBit i <;> cases d.testBit i <;> rfl
theorem turnN_add (x y n : Nat) (hx : x < 18446744073709551616) (hy : y < 18446744073709551616) (hn : n < 64) : turnN (x ^^^ y) n = turnN x n ^^^ turnN y n := by
  refine ext64 (turnN_lt _ _ (xor_lt64 hx hy) hn) (xor_lt64 (turnN_lt _ _ hx hn) (turnN_lt _ _ hy hn)) fun z hz => ?_
  rw [turnN_bit _ _ _ (xor_lt64 hx hy) hn hz, bt_xor, bt_xor, turnN_bit _ _ _ hx hn hz, turnN_bit _ _ _ hy hn hz]
theorem colN_add (f g : Nat → Nat) (x : Nat) : colN (addS f g) x = colN f x ^^^ colN g x := by
  unfold colN addS
  apply Nat.eq_of_testBit_eq
  intro i
  simp only [Nat.testBit_xor]
  generalize (f x).testBit i = a1
  generalize (f (x + 5)).testBit i = a2
  generalize (f (x + 10)).testBit i = a3
  generalize (f (x + 15)).testBit i = a4
  generalize (f (x + 20)).testBit i = a5
  generalize (g x).testBit i = b1
  generalize (g (x + 5)).testBit i = b2
  generalize (g (x + 10)).testBit i = b3
  generalize (g (x + 15)).testBit i = b4
  generalize (g (x + 20)).testBit i = b5
  revert a1 a2 a3 a4 a5 b1 b2 b3 b4 b5
  decide +kernel
theorem thL_add (f g : Nat → Nat) (hf : ∀ i, f i < 18446744073709551616) (hg : ∀ i, g i < 18446744073709551616) (k : Nat) : thL (addS f g) k = thL f k ^^^ thL g k := by
  unfold thL
  rw [colN_add, colN_add, turnN_add _ _ _ (colN_lt f hf _) (colN_lt g hg _) (by decide)]
  unfold addS
  rw [xor_four (f k), xor_four (f k ^^^ _)]
theorem rhL_add (f g : Nat → Nat) (hf : ∀ i, f i < 18446744073709551616) (hg : ∀ i, g i < 18446744073709551616) (k : Nat) : rhL (addS f g) k = rhL f k ^^^ rhL g k := by
  unfold rhL
  split
  · rfl
  · exact turnN_add _ _ _ (hf _) (hg _) (rhBy_lt _)
theorem piF_add (f g : Nat → Nat) (k : Nat) : piF (addS f g) k = piF f k ^^^ piF g k := rfl

/-! ### Noughts -/
theorem turnN_zero (n : Nat) : turnN 0 n = 0 := by
  unfold turnN rotN
  split <;> simp
theorem thL_zero (f : Nat → Nat) (h : ∀ i, f i = 0) (k : Nat) : thL f k = 0 := by
  unfold thL colN
  simp [h, turnN_zero]
theorem rhL_zero (f : Nat → Nat) (h : ∀ i, f i = 0) (k : Nat) : rhL f k = 0 := by
  unfold rhL
  simp [h, turnN_zero]
theorem piF_zero (f : Nat → Nat) (h : ∀ i, f i = 0) (k : Nat) : piF f k = 0 := h _
theorem chL_zero (f : Nat → Nat) (h : ∀ i, f i = 0) (k : Nat) : chL f k = 0 := by
  unfold chL
  simp [h]
theorem noughts_kept (k : Nat) : chL (piF (rhL (thL fun _ => 0))) k = 0 := chL_zero _ (piF_zero _ (rhL_zero _ (thL_zero _ fun _ => rfl))) k
theorem rdL_noughts (i : Nat) : rdL (fun _ => 0) i = ioK (fun _ => 0) i := by
  unfold rdL
  congr 1
  funext k
  exact noughts_kept k

/-! ### Every step can be taken back -/
theorem tri_zero : ∀ a b c d e : Bool, a = (b ^^ e) → b = (c ^^ a) → c = (d ^^ b) → d = (e ^^ c) → e = (a ^^ d) → a = false := by decide
theorem double_step (E : Nat → Nat → Bool) (s t : Nat) (h : ∀ x z, E x z = (E (x + 4 * s) z ^^ E (x + s) (z + 63 * t))) :
    ∀ x z, E x z = (E (x + 4 * (2 * s)) z ^^ E (x + 2 * s) (z + 63 * (2 * t))) := by
  intro x z
  rw [h x z, h (x + 4 * s) z, h (x + s) (z + 63 * t)]
  rw [show x + 4 * s + 4 * s = x + 4 * (2 * s) by omega, show x + s + 4 * s = x + 4 * s + s by omega, show x + s + s = x + 2 * s by omega, show z + 63 * t + 63 * t = z + 63 * (2 * t) by omega]
  generalize E (x + 4 * s + s) (z + 63 * t) = a
  generalize E (x + 4 * (2 * s)) z = b
  generalize E (x + 2 * s) (z + 63 * (2 * t)) = c
  cases a <;> cases b <;> cases c <;> rfl
theorem wheel_zero (E : Nat → Nat → Bool) (h5 : ∀ x z, E (x % 5) z = E x z) (h64 : ∀ x z, E x (z % 64) = E x z)
    (h : ∀ x z, E x z = (E (x + 4) z ^^ E (x + 1) (z + 63))) (x z : Nat) : E x z = false := by
  have r1 := double_step E 1 1 h
  have r2 := double_step E 2 2 r1
  have r3 := double_step E 4 4 r2
  have r4 := double_step E 8 8 r3
  have r5 := double_step E 16 16 r4
  have r6 := double_step E 32 32 r5
  have r : ∀ x z, E x z = (E (x + 1) z ^^ E (x + 4) z) := by
    intro x z
    rw [r6 x z]
    rw [← h5 (x + 4 * (2 * 32)) z, ← h5 (x + 1) z, ← h5 (x + 4) z, ← h64 (x + 2 * 32), ← h5 (x + 2 * 32)]
    rw [show (x + 4 * (2 * 32)) % 5 = (x + 1) % 5 by omega, show (x + 2 * 32) % 5 = (x + 4) % 5 by omega, show (z + 63 * (2 * 32)) % 64 = z % 64 by omega, h64]
  have p : ∀ n, E (x + (n + 5)) z = E (x + n) z := fun n => by rw [← h5 (x + (n + 5)), ← h5 (x + n), show (x + (n + 5)) % 5 = (x + n) % 5 by omega]
  have q0 := r x z
  have q1 := r (x + 1) z
  have q2 := r (x + 2) z
  have q3 := r (x + 3) z
  have q4 := r (x + 4) z
  have p0 := p 0
  have p1 := p 1
  have p2 := p 2
  have p3 := p 3
  simp only [Nat.add_assoc] at q0 q1 q2 q3 q4
  simp only [show 1 + 4 = 0 + 5 from rfl, show 2 + 4 = 1 + 5 from rfl, show 3 + 4 = 2 + 5 from rfl, show 4 + 4 = 3 + 5 from rfl, show 4 + 1 = 0 + 5 from rfl, show 1 + 1 = 2 from rfl, show 2 + 1 = 3 from rfl, show 3 + 1 = 4 from rfl, p0, p1, p2, p3, Nat.add_zero] at q0 q1 q2 q3 q4
  exact tri_zero _ _ _ _ _ q0 q1 q2 q3 q4
theorem xor_zero_eq {a b : Nat} (h : a ^^^ b = 0) : a = b := by
  apply Nat.eq_of_testBit_eq
  intro i
  have := congrArg (fun n => n.testBit i) h
  simp only [Nat.testBit_xor, Nat.zero_testBit] at this
  cases ha : a.testBit i <;> cases hb : b.testBit i <;> simp_all
theorem thL_ker (f : Nat → Nat) (hf : ∀ i, f i < 18446744073709551616) (h : ∀ k, k < 25 → thL f k = 0) (k : Nat) (hk : k < 25) : f k = 0 := by
  have h1 : ∀ k, k < 25 → f k = colN f ((k % 5 + 4) % 5) ^^^ turnN (colN f ((k % 5 + 1) % 5)) 1 := fun k hk => by
    have := h k hk
    unfold thL at this
    rw [Nat.xor_assoc] at this
    exact xor_zero_eq this
  have h2 : ∀ x, x < 5 → colN f x = colN f ((x + 4) % 5) ^^^ turnN (colN f ((x + 1) % 5)) 1 := fun x hx => by
    have e0 := h1 x (by omega)
    have e1 := h1 (x + 5) (by omega)
    have e2 := h1 (x + 10) (by omega)
    have e3 := h1 (x + 15) (by omega)
    have e4 := h1 (x + 20) (by omega)
    rw [show x % 5 = x by omega] at e0
    rw [show (x + 5) % 5 = x by omega] at e1
    rw [show (x + 10) % 5 = x by omega] at e2
    rw [show (x + 15) % 5 = x by omega] at e3
    rw [show (x + 20) % 5 = x by omega] at e4
    generalize hD : colN f ((x + 4) % 5) ^^^ turnN (colN f ((x + 1) % 5)) 1 = D at *
    unfold colN
    rw [e0, e1, e2, e3, e4]
    simp
  have hE := wheel_zero (fun x z => (colN f (x % 5)).testBit (z % 64)) (fun x z => by simp) (fun x z => by simp) (fun x z => by
    have := h2 (x % 5) (by omega)
    show (colN f (x % 5)).testBit (z % 64) = ((colN f ((x + 4) % 5)).testBit (z % 64) ^^ (colN f ((x + 1) % 5)).testBit ((z + 63) % 64))
    conv => lhs; rw [this]
    rw [Nat.testBit_xor, bt_test (turnN _ _), turnN_bit _ _ _ (colN_lt f hf _) (by decide) (by omega), ← bt_test]
    rw [show (x % 5 + 4) % 5 = (x + 4) % 5 by omega, show (x % 5 + 1) % 5 = (x + 1) % 5 by omega, show (z % 64 + 64 - 1) % 64 = (z + 63) % 64 by omega])
  have hC : ∀ x, x < 5 → colN f x = 0 := fun x hx => by
    refine ext64 (colN_lt f hf x) (by decide) fun z hz => ?_
    have : (colN f (x % 5)).testBit (z % 64) = false := hE x z
    rw [show x % 5 = x by omega, show z % 64 = z by omega] at this
    rw [bt_of, this]
    unfold bt
    simp
  rw [h1 k hk, hC _ (by omega), hC _ (by omega), turnN_zero]
  rfl
theorem thL_inj (f g : Nat → Nat) (hf : ∀ i, f i < 18446744073709551616) (hg : ∀ i, g i < 18446744073709551616) (h : ∀ k, k < 25 → thL f k = thL g k) (k : Nat) (hk : k < 25) : f k = g k := by
  refine xor_zero_eq (thL_ker (addS f g) (addS_lt f g hf hg) (fun j hj => ?_) k hk)
  rw [thL_add f g hf hg, h j hj, Nat.xor_self]
theorem turnN_inj {x y n : Nat} (hx : x < 18446744073709551616) (hy : y < 18446744073709551616) (hn : n < 64) (h : turnN x n = turnN y n) : x = y := by
  refine ext64 hx hy fun z hz => ?_
  have e1 := turnN_bit x n ((z + n) % 64) hx hn (by omega)
  have e2 := turnN_bit y n ((z + n) % 64) hy hn (by omega)
  rw [show ((z + n) % 64 + 64 - n) % 64 = z by omega] at e1 e2
  rw [← e1, ← e2, h]
theorem rhL_inj (f g : Nat → Nat) (hf : ∀ i, f i < 18446744073709551616) (hg : ∀ i, g i < 18446744073709551616) (h : ∀ k, k < 25 → rhL f k = rhL g k) (k : Nat) (hk : k < 25) : f k = g k := by
  have := h k hk
  unfold rhL at this
  by_cases e : k = 0
  · subst e; simpa using this
  · rw [if_neg e, if_neg e] at this
    exact turnN_inj (hf k) (hg k) (rhBy_lt _) this
theorem pi_back : ∀ j, j < 25 → ((j / 5 + 3 * ((2 * (j % 5) + 3 * (j / 5)) % 5)) % 5 = j % 5) := by decide
theorem piF_inj (f g : Nat → Nat) (h : ∀ k, k < 25 → piF f k = piF g k) (k : Nat) (hk : k < 25) : f k = g k := by
  have := h (k / 5 + 5 * ((2 * (k % 5) + 3 * (k / 5)) % 5)) (by omega)
  unfold piF at this
  have hb := pi_back k hk
  rw [show (k / 5 + 5 * ((2 * (k % 5) + 3 * (k / 5)) % 5)) % 5 = k / 5 by omega, show (k / 5 + 5 * ((2 * (k % 5) + 3 * (k / 5)) % 5)) / 5 = (2 * (k % 5) + 3 * (k / 5)) % 5 by omega, hb, show k % 5 + 5 * (k / 5) = k by omega] at this
  exact this
theorem chi_five : ∀ a0 a1 a2 a3 a4 b0 b1 b2 b3 b4 : Bool, (a0 ^^ (a2 ^^ (a2 && a1))) = (b0 ^^ (b2 ^^ (b2 && b1))) → (a1 ^^ (a3 ^^ (a3 && a2))) = (b1 ^^ (b3 ^^ (b3 && b2))) → (a2 ^^ (a4 ^^ (a4 && a3))) = (b2 ^^ (b4 ^^ (b4 && b3))) →
    (a3 ^^ (a0 ^^ (a0 && a4))) = (b3 ^^ (b0 ^^ (b0 && b4))) → (a4 ^^ (a1 ^^ (a1 && a0))) = (b4 ^^ (b1 ^^ (b1 && b0))) → a0 = b0 ∧ a1 = b1 ∧ a2 = b2 ∧ a3 = b3 ∧ a4 = b4 := by decide +kernel
theorem chL_test (f : Nat → Nat) (k z : Nat) : (chL f k).testBit z = ((f k).testBit z ^^ ((f (k - k % 5 + (k % 5 + 2) % 5)).testBit z ^^ ((f (k - k % 5 + (k % 5 + 2) % 5)).testBit z && (f (k - k % 5 + (k % 5 + 1) % 5)).testBit z))) := by
  unfold chL
  rw [sub_and, Nat.testBit_xor, Nat.testBit_xor, Nat.testBit_and]
theorem chL_inj (f g : Nat → Nat) (h : ∀ k, k < 25 → chL f k = chL g k) (k : Nat) (hk : k < 25) : f k = g k := by
  apply Nat.eq_of_testBit_eq
  intro z
  obtain ⟨y, hy⟩ : ∃ y, y = k / 5 := ⟨_, rfl⟩
  have e : ∀ x, x < 5 → (chL f (x + 5 * y)).testBit z = (chL g (x + 5 * y)).testBit z := fun x hx => by rw [h (x + 5 * y) (by omega)]
  have t : ∀ (u : Nat → Nat) x, x < 5 → (chL u (x + 5 * y)).testBit z = ((u (x + 5 * y)).testBit z ^^ ((u ((x + 2) % 5 + 5 * y)).testBit z ^^ ((u ((x + 2) % 5 + 5 * y)).testBit z && (u ((x + 1) % 5 + 5 * y)).testBit z))) := fun u x hx => by
    rw [chL_test, show x + 5 * y - (x + 5 * y) % 5 + ((x + 5 * y) % 5 + 2) % 5 = (x + 2) % 5 + 5 * y by omega, show x + 5 * y - (x + 5 * y) % 5 + ((x + 5 * y) % 5 + 1) % 5 = (x + 1) % 5 + 5 * y by omega]
  have e0 := e 0 (by decide)
  have e1 := e 1 (by decide)
  have e2 := e 2 (by decide)
  have e3 := e 3 (by decide)
  have e4 := e 4 (by decide)
  rw [t f 0 (by decide), t g 0 (by decide)] at e0
  rw [t f 1 (by decide), t g 1 (by decide)] at e1
  rw [t f 2 (by decide), t g 2 (by decide)] at e2
  rw [t f 3 (by decide), t g 3 (by decide)] at e3
  rw [t f 4 (by decide), t g 4 (by decide)] at e4
  obtain ⟨r0, r1, r2, r3, r4⟩ := chi_five _ _ _ _ _ _ _ _ _ _ e0 e1 e2 e3 e4
  have hx : k % 5 = 0 ∨ k % 5 = 1 ∨ k % 5 = 2 ∨ k % 5 = 3 ∨ k % 5 = 4 := by omega
  rcases hx with hx | hx | hx | hx | hx
  · rw [show k = 0 + 5 * y by omega]; exact r0
  · rw [show k = 1 + 5 * y by omega]; exact r1
  · rw [show k = 2 + 5 * y by omega]; exact r2
  · rw [show k = 3 + 5 * y by omega]; exact r3
  · rw [show k = 4 + 5 * y by omega]; exact r4
theorem ioK_inj (f g : Nat → Nat) (i : Nat) (h : ∀ k, k < 25 → ioK f i k = ioK g i k) (k : Nat) (hk : k < 25) : f k = g k := by
  have := h k hk
  unfold ioK at this
  by_cases e : k = 0
  · subst e
    simp only [if_true] at this
    refine xor_zero_eq ?_
    have h2 := congrArg (fun n => n ^^^ (g 0 ^^^ kst.getD i 0)) this
    simp only [Nat.xor_self] at h2
    rwa [xor_four, Nat.xor_self, Nat.xor_zero] at h2
  · rwa [if_neg e, if_neg e] at this
theorem rdL_inj (f g : Nat → Nat) (hf : ∀ i, f i < 18446744073709551616) (hg : ∀ i, g i < 18446744073709551616) (i : Nat) (h : ∀ k, k < 25 → rdL f i k = rdL g i k) (k : Nat) (hk : k < 25) : f k = g k :=
  thL_inj f g hf hg (fun _ h1 => rhL_inj _ _ (thL_lt f hf) (thL_lt g hg) (fun _ h2 => piF_inj _ _ (fun _ h3 => chL_inj _ _ (fun _ h4 => ioK_inj _ _ i h _ h4) _ h3) _ h2) _ h1) k hk
theorem rdsL_inj (f g : Nat → Nat) (hf : ∀ i, f i < 18446744073709551616) (hg : ∀ i, g i < 18446744073709551616) : ∀ n, n ≤ 24 → (∀ k, k < 25 → rdsL f n k = rdsL g n k) → ∀ k, k < 25 → f k = g k
  | 0, _, h => h
  | n + 1, hn, h => rdsL_inj f g hf hg n (by omega) fun k hk => rdL_inj _ _ (rdsL_lt f hf n (by omega)) (rdsL_lt g hg n (by omega)) n h k hk
/-- All rounds of two states are the same just if they are. -/
theorem same_just (f g : Nat → Nat) (hf : ∀ i, f i < 18446744073709551616) (hg : ∀ i, g i < 18446744073709551616) : (stL (rdsL f 24) = stL (rdsL g 24)) ↔ stL f = stL g := by
  refine ⟨fun h => stL_congr fun k hk => rdsL_inj f g hf hg 24 (Nat.le_refl _) (fun j hj => stL_inj h j hj) k hk, fun h => ?_⟩
  refine stL_congr fun k hk => ?_
  rw [rdsL_eq f hf 24 (Nat.le_refl _) k hk, rdsL_eq g hg 24 (Nat.le_refl _) k hk]
  exact rdsF_congr (fun j hj => stL_inj h j hj) 24 k hk

/-! ### How many bits are 1 -/
def pc : Nat → Nat
  | 0 => 0
  | n + 1 => (n + 1) % 2 + pc ((n + 1) / 2)
decreasing_by omega
theorem pc_zero : pc 0 = 0 := by unfold pc; rfl
theorem pc_step (n : Nat) : pc n = n % 2 + pc (n / 2) := by
  cases n with
  | zero => simp [pc_zero]
  | succ n => rw [pc]
theorem pc_join (a b : Nat) : ∀ n, b < 2 ^ n → ∀ b', b' = b → pc (2 ^ n * a + b') = pc a + pc b' := by
  intro n
  induction n generalizing b with
  | zero =>
    intro h b' e
    have : b' = 0 := by simp at h; omega
    subst this
    simp [pc_zero]
  | succ n ih =>
    intro h b' e
    subst e
    rw [pc_step (2 ^ (n + 1) * a + b'), pc_step b']
    have e1 : (2 ^ (n + 1) * a + b') % 2 = b' % 2 := by
      rw [Nat.pow_succ, Nat.mul_comm (2 ^ n) 2, Nat.mul_assoc, Nat.mul_add_mod]
    have e2 : (2 ^ (n + 1) * a + b') / 2 = 2 ^ n * a + b' / 2 := by
      rw [Nat.pow_succ, Nat.mul_comm (2 ^ n) 2, Nat.mul_assoc, Nat.mul_add_div (by decide)]
    rw [e1, e2, ih (b' / 2) (by rw [Nat.pow_succ] at h; omega) _ rfl]
    omega
theorem pc_turn (x n : Nat) (hx : x < 18446744073709551616) (hn : n < 64) : pc (turnN x n) = pc x := by
  unfold turnN
  split
  · rfl
  · have h64 : (18446744073709551616 : Nat) = 2 ^ n * 2 ^ (64 - n) := by rw [← Nat.pow_add, show n + (64 - n) = 64 by omega]
    have hB : x / 2 ^ (64 - n) < 2 ^ n := by
      refine Nat.div_lt_of_lt_mul ?_
      rw [Nat.mul_comm, ← h64]
      exact hx
    have e1 : rotN x n = 2 ^ n * (x % 2 ^ (64 - n)) + x / 2 ^ (64 - n) := by
      unfold rotN
      rw [h64, Nat.mul_comm x, Nat.mul_mod_mul_left]
    rw [e1, pc_join _ _ n hB _ rfl]
    have h2 := pc_join (x / 2 ^ (64 - n)) (x % 2 ^ (64 - n)) (64 - n) (Nat.mod_lt _ (Nat.pow_pos (by decide))) _ rfl
    rw [Nat.div_add_mod] at h2
    omega
theorem pc_le (n : Nat) : ∀ x, x < 2 ^ n → pc x ≤ n := by
  induction n with
  | zero => intro x h; have : x = 0 := by simp at h; exact h
            subst this; simp [pc_zero]
  | succ n ih =>
    intro x h
    rw [pc_step]
    have := ih (x / 2) (by rw [Nat.pow_succ] at h; omega)
    omega
/-- How many bits of the first n lanes are 1. -/
def pcs (f : Nat → Nat) : Nat → Nat
  | 0 => 0
  | n + 1 => pcs f n + pc (f n)
theorem pcs_le (f : Nat → Nat) (hf : ∀ i, f i < 18446744073709551616) : ∀ n, pcs f n ≤ 64 * n
  | 0 => by simp [pcs]
  | n + 1 => by
    have h1 := pcs_le f hf n
    have h2 := pc_le 64 (f n) (hf n)
    unfold pcs
    omega
theorem pcs_rho (f : Nat → Nat) (hf : ∀ i, f i < 18446744073709551616) : ∀ n, pcs (rhL f) n = pcs f n
  | 0 => rfl
  | n + 1 => by
    unfold pcs
    rw [pcs_rho f hf n]
    congr 1
    unfold rhL
    split
    · rename_i h; subst h; rfl
    · exact pc_turn _ _ (hf n) (rhBy_lt _)
theorem pcs_pi (f : Nat → Nat) : pcs (piF f) 25 = pcs f 25 := by
  simp only [pcs, piF]
  simp only [Nat.reduceMod, Nat.reduceDiv, Nat.reduceMul, Nat.reduceAdd, Nat.mul_zero, Nat.add_zero, Nat.zero_add]
  omega
end Go.Proofs.YtkoecgoajbgkgaaDoor

/- A region whose order is open, walked once, where one operation waits for all others and may write what it likes (a store behind all reads). No program's text is named. -/
namespace Go.Proofs.YtkoecgoajbgkgaaDoor
set_option linter.unusedSimpArgs false
set_option linter.unusedVariables false
open Go.RowKit

section
variable {P : Program} {ops : Array Oper} {Q : Exit → Act → World → Prop} {md : Region.Mode} {S : World → Prop} {n : Nat}

/-- Whatever order is picked from here on; S holds behind every operation but number n. -/
def wpAnyE (P : Program) (md : Region.Mode) (ops : Array Oper) (Q : Exit → Act → World → Prop) (S : World → Prop) (n : Nat) : Nat → Array Bool → Act → World → Prop
  | 0, listed, a, w => Region.ready md ops listed = [] ∧ Q .normal a w
  | fuel + 1, listed, a, w =>
    (Region.ready md ops listed = [] → Q .normal a w) ∧
    ∀ i ∈ Region.ready md ops listed, wpOp P ops Q i (fun a' w' => (i = n ∨ S w') ∧ wpAnyE P md ops Q S n fuel (listed.setIfInBounds i true) a' w') a w

theorem wpAny_of_E : ∀ (fuel : Nat) (listed : Array Bool) (a : Act) (w : World), wpAnyE P md ops Q S n fuel listed a w → wpAny P md ops Q fuel listed a w
  | 0, _, _, _, h => h
  | fuel + 1, _, _, _, h => ⟨h.1, fun i hi => wpOp_mono (fun a' w' h' => wpAny_of_E fuel _ a' w' h'.2) (h.2 i hi)⟩

theorem wpAnyE_weaken {S' : World → Prop} (hS : ∀ W, S' W → S W) : ∀ (fuel : Nat) (listed : Array Bool) (a : Act) (w : World), wpAnyE P md ops Q S' n fuel listed a w → wpAnyE P md ops Q S n fuel listed a w
  | 0, _, _, _, h => h
  | fuel + 1, _, _, _, h => ⟨h.1, fun i hi => wpOp_mono (fun a' w' h' => ⟨h'.1.imp id (hS _), wpAnyE_weaken hS fuel _ a' w' h'.2⟩) (h.2 i hi)⟩

/-- Number n waits for all others. -/
def lastB (md : Region.Mode) (ops : Array Oper) (n : Nat) : Bool :=
  (List.range ops.size).all fun j => j == n || match ops[n]? with
    | some o => o.after.any fun e => Region.binds md e && e.on == j
    | none => false

theorem lastB_spec (h : lastB md ops n = true) {listed : Array Bool} (hn : n ∈ Region.ready md ops listed) {j : Nat} (hj : j < ops.size) (hne : j ≠ n) : listed.getD j true = true := by
  obtain ⟨_, o, ho, hall⟩ := mem_ready.1 hn
  have h1 := List.all_eq_true.1 h j (List.mem_range.2 hj)
  simp only [ho, Bool.or_eq_true, beq_iff_eq, hne, false_or] at h1
  obtain ⟨e, he, hb⟩ := Array.any_eq_true'.1 h1
  simp only [Bool.and_eq_true, beq_iff_eq] at hb
  have h2 := hall e he hb.1
  rw [hb.2] at h2
  rcases Nat.lt_or_ge j listed.size with h' | h'
  · simp [h'] at h2 ⊢; exact h2
  · simp [Array.getElem?_eq_none h'] at h2

theorem wpAnyE_first {i : Nat} {oi : Oper} {v : Value} (hi : ops[i]? = some oi) (hin : i ≠ n) (hl : lastB md ops n = true) (hsel : ∀ (j : Nat) (o : Oper) cs b, ops[j]? = some o → o.op ≠ .select cs b)
    (hQ : ∀ c a w, Q (.panic c) (a.put oi.dst v) w → Q (.panic c) a w) :
    ∀ (fuel : Nat) (listed : Array Bool) (a : Act) (w : World),
      (∀ j oj, ops[j]? = some oj → j ≠ i → listed.getD j true = false → (∀ e ∈ oj.after, Region.binds md e = true → e.on ≠ i) → oi.apart ops oj = true) →
      i ∈ Region.ready md ops listed → YieldsIf P ops S oi v a → S w →
      wpAnyE P md ops Q S n fuel (listed.setIfInBounds i true) (a.put oi.dst v) w → wpAnyE P md ops Q S n (fuel + 1) listed a w := by
  intro fuel
  induction fuel with
  | zero =>
    intro listed a w _ hr hy hS H
    refine ⟨fun h => (by rw [h] at hr; cases hr), fun j hj => ?_⟩
    by_cases hji : j = i
    · subst hji; exact hy.wpOp hi hS ⟨.inr hS, H⟩
    · have := ready_mono hj hji
      rw [H.1] at this
      cases this
  | succ fuel ih =>
    intro listed a w hfree hr hy hS H
    refine ⟨fun h => (by rw [h] at hr; cases hr), fun j hj => ?_⟩
    by_cases hji : j = i
    · subst hji; exact hy.wpOp hi hS ⟨.inr hS, H⟩
    · have hjn : j ≠ n := by
        intro e
        subst e
        have h1 := lastB_spec hl hj (Array.getElem?_eq_some_iff.1 hi).1 hin
        have h0 := (mem_ready.1 hr).1
        rw [h1] at h0
        cases h0
      have h1 := H.2 j (ready_mono hj hji)
      obtain ⟨hjun, oj, hoj, hall⟩ := mem_ready.1 hj
      have hnot : ∀ e ∈ oj.after, Region.binds md e = true → e.on ≠ i := fun e he hb heq => by
        have h1 := hall e he hb
        have h0 := (mem_ready.1 hr).1
        rw [heq] at h1
        rcases Nat.lt_or_ge i listed.size with h' | h'
        · simp [h'] at h0 h1; rw [h0] at h1; cases h1
        · simp [Array.getElem?_eq_none h'] at h1
      have h2 := wpOp_putIf hoj (hfree j oj hoj hji hjun hnot) (fun cs b => hsel i oi cs b hi) (fun cs b => hsel j oj cs b hoj) hQ hy h1
      have hfree' : ∀ k ok, ops[k]? = some ok → k ≠ i → (listed.setIfInBounds j true).getD k true = false →
          (∀ e ∈ ok.after, Region.binds md e = true → e.on ≠ i) → oi.apart ops ok = true := fun k ok hk hki hun hno => by
        refine hfree k ok hk hki ?_ hno
        by_cases hjk : j = k
        · subst hjk; exact hjun
        · rw [getD_set_ne true hjk] at hun; exact hun
      refine wpOp_mono (fun a' w' h3 => ?_) h2
      have hS' : S w' := h3.2.1.resolve_left hjn
      refine ⟨.inr hS', ih (listed.setIfInBounds j true) a' w' hfree' (ready_mono hr (Ne.symm hji)) h3.1 hS' ?_⟩
      rw [Array.setIfInBounds_comm _ _ hji]
      exact h3.2.2

/-- Whatever order is picked from here on; the world only grows, till number n comes. -/
def wpE (P : Program) (md : Region.Mode) (ops : Array Oper) (Q : Exit → Act → World → Prop) (n fuel : Nat) (listed : Array Bool) (a : Act) (w : World) : Prop :=
  wpAnyE P md ops Q (fun W => Below w.heap.size w W) n fuel listed a w

theorem wpE_begin (n : Nat) {id : Nat} {a : Act} {w : World} (hm : P.follows .mixedOrders = true)
    (h : wpE P .any ops (NoPanic Q) n ops.size (Array.replicate ops.size false) a w.drew) : (Code.region id ops true).wp P Q a w :=
  wp_region_noPanic (wp_region_any hm (wpAny_of_E _ _ _ _ h))
theorem wpE_take {i : Nat} {oi : Oper} {v : Value} {fuel : Nat} {listed : Array Bool} {a : Act} {w : World} (hi : ops[i]? = some oi) (hin : i ≠ n) (hl : lastB md ops n = true)
    (hs : Region.noSelect ops = true) (hf : Region.free md ops listed i = true) (hr : (Region.ready md ops listed).contains i = true)
    (hw : Region.wanted oi (yielded ops a.tmps) = true) (hy : ∀ W, Below w.heap.size w W → (execOp a.eval oi).run P W = .ok (.value v) W)
    (h : wpE P md ops (NoPanic Q) n fuel (listed.setIfInBounds i true) (a.put oi.dst v) w) : wpE P md ops (NoPanic Q) n (fuel + 1) listed a w :=
  wpAnyE_first hi hin hl (Region.noSelect_spec hs) (fun _ _ _ h => h) fuel listed a w (Region.free_spec hi hf) (by simpa using hr) (.inl ⟨hw, hy⟩) (Below.refl _ _) h
theorem wpE_do {i : Nat} {o : Oper} {fuel : Nat} {listed : Array Bool} {a : Act} {w : World} (hr : Region.ready md ops listed = [i]) (hi : ops[i]? = some o)
    (hw : Region.wanted o (yielded ops a.tmps) = true)
    (h : ∀ K : Act → World → Prop, Shut (∀ a' w', Below w.heap.size w w' → wpE P md ops Q n fuel (listed.setIfInBounds i true) a' w' → K a' w') → o.wp P a w K Q) : wpE P md ops Q n (fuel + 1) listed a w := by
  refine ⟨(fun h0 => by rw [hr] at h0; cases h0), fun j hj => ?_⟩
  rw [hr] at hj
  obtain rfl : j = i := by simpa using hj
  have h1 := h (fun a' w' => (j = n ∨ Below w.heap.size w w') ∧ wpAnyE P md ops Q (fun W => Below w.heap.size w W) n fuel (listed.setIfInBounds j true) a' w')
    (fun a' w' hb hg => ⟨.inr hb, wpAnyE_weaken (fun W hW => hb.trans (hW.mono hb.size)) fuel _ a' w' hg⟩)
  unfold wpOp
  simp only [hi, hw, if_true]
  exact .inl h1
theorem wpE_last {o : Oper} {fuel : Nat} {listed : Array Bool} {a : Act} {w : World} (hr : Region.ready md ops listed = [n]) (hr2 : Region.ready md ops (listed.setIfInBounds n true) = []) (hi : ops[n]? = some o)
    (hw : Region.wanted o (yielded ops a.tmps) = true)
    (h : ∀ K : Act → World → Prop, Shut (∀ a' w', Q .normal a' w' → K a' w') → o.wp P a w K (NoPanic Q)) : wpE P md ops (NoPanic Q) n (fuel + 1) listed a w := by
  refine ⟨(fun h0 => by rw [hr] at h0; cases h0), fun j hj => ?_⟩
  rw [hr] at hj
  obtain rfl : j = n := by simpa using hj
  have hdone : ∀ fuel a' w', Q .normal a' w' → wpAnyE P md ops (NoPanic Q) (fun W => Below w.heap.size w W) j fuel (listed.setIfInBounds j true) a' w' := by
    intro fuel a' w' hq
    cases fuel with
    | zero => exact ⟨hr2, hq⟩
    | succ fuel => exact ⟨fun _ => hq, by rw [hr2]; intro i hi; cases hi⟩
  have h1 := h (fun a' w' => (j = j ∨ Below w.heap.size w w') ∧ wpAnyE P md ops (NoPanic Q) (fun W => Below w.heap.size w W) j fuel (listed.setIfInBounds j true) a' w')
    (fun a' w' hq => ⟨.inl rfl, hdone fuel a' w' hq⟩)
  unfold wpOp
  simp only [hi, hw, if_true]
  exact .inl (Oper.wp_mono (fun a' w' h => ⟨.inl trivial, h.2⟩) h1)
end
end Go.Proofs.YtkoecgoajbgkgaaDoor

/- A region whose order is open, walked once: what only reads is taken first, what changes the world comes up in its one order; the world only grows. No program's text is named. -/
namespace Go.Proofs.YtkoecgoajbgkgaaDoor
set_option linter.unusedSimpArgs false
set_option linter.unusedVariables false
open Go.RowKit

section
variable {P : Program} {ops : Array Oper} {Q : Exit → Act → World → Prop} {md : Region.Mode}

theorem wpAnyH_weaken {S S' : World → Prop} (hS : ∀ W, S' W → S W) : ∀ (fuel : Nat) (listed : Array Bool) (a : Act) (w : World), wpAnyH P md ops Q S' fuel listed a w → wpAnyH P md ops Q S fuel listed a w
  | 0, _, _, _, h => h
  | fuel + 1, _, _, _, h => ⟨h.1, fun i hi => wpOp_mono (fun a' w' h' => ⟨hS _ h'.1, wpAnyH_weaken hS fuel _ a' w' h'.2⟩) (h.2 i hi)⟩

/-- Whatever order is picked from here on; the world only grows. -/
def wpG (P : Program) (md : Region.Mode) (ops : Array Oper) (Q : Exit → Act → World → Prop) (fuel : Nat) (listed : Array Bool) (a : Act) (w : World) : Prop :=
  wpAnyH P md ops Q (fun W => Below w.heap.size w W) fuel listed a w

theorem wpG_begin {id : Nat} {a : Act} {w : World} (hm : P.follows .mixedOrders = true)
    (h : wpG P .any ops (NoPanic Q) ops.size (Array.replicate ops.size false) a w.drew) : (Code.region id ops true).wp P Q a w :=
  wp_region_noPanic (wp_region_held hm h)

/-- An operation that only reads is taken first. -/
theorem wpG_take {i : Nat} {oi : Oper} {v : Value} {fuel : Nat} {listed : Array Bool} {a : Act} {w : World} (hi : ops[i]? = some oi)
    (hs : Region.noSelect ops = true) (hf : Region.free md ops listed i = true) (hr : (Region.ready md ops listed).contains i = true)
    (hw : Region.wanted oi (yielded ops a.tmps) = true) (hy : ∀ W, Below w.heap.size w W → (execOp a.eval oi).run P W = .ok (.value v) W)
    (h : wpG P md ops (NoPanic Q) fuel (listed.setIfInBounds i true) (a.put oi.dst v) w) : wpG P md ops (NoPanic Q) (fuel + 1) listed a w :=
  wpAnyH_take hi hs hf hr (fun _ _ _ h => h) (.inl ⟨hw, hy⟩) (Below.refl _ _) h

/-- An operation whose guard says no. -/
theorem wpG_skip {i : Nat} {oi : Oper} {fuel : Nat} {listed : Array Bool} {a : Act} {w : World} (hi : ops[i]? = some oi)
    (hs : Region.noSelect ops = true) (hf : Region.free md ops listed i = true) (hr : (Region.ready md ops listed).contains i = true)
    (hw : Region.wanted oi (yielded ops a.tmps) = false)
    (h : wpG P md ops (NoPanic Q) fuel (listed.setIfInBounds i true) (a.put oi.dst undef) w) : wpG P md ops (NoPanic Q) (fuel + 1) listed a w :=
  wpAnyH_take hi hs hf hr (fun _ _ _ h => h) (.inr ⟨hw, rfl⟩) (Below.refl _ _) h

/-- The one operation that may come up changes the world: it only grows. -/
theorem wpG_do {i : Nat} {o : Oper} {fuel : Nat} {listed : Array Bool} {a : Act} {w : World} (hr : Region.ready md ops listed = [i]) (hi : ops[i]? = some o)
    (hw : Region.wanted o (yielded ops a.tmps) = true)
    (h : ∀ K : Act → World → Prop, Shut (∀ a' w', Below w.heap.size w w' → wpG P md ops Q fuel (listed.setIfInBounds i true) a' w' → K a' w') → o.wp P a w K Q) : wpG P md ops Q (fuel + 1) listed a w := by
  refine wpAnyH_all hr (by simp) fun j hj => ?_
  obtain rfl : j = i := by simpa using hj
  have h1 := h (fun a' w' => Below w.heap.size w w' ∧ wpAnyH P md ops Q (fun W => Below w.heap.size w W) fuel (listed.setIfInBounds j true) a' w')
    (fun a' w' hb hg => ⟨hb, wpAnyH_weaken (fun W hW => hb.trans (hW.mono hb.size)) fuel _ a' w' hg⟩)
  unfold wpOp
  simp only [hi, hw, if_true]
  exact .inl h1

theorem wpG_done {fuel : Nat} {listed : Array Bool} {a : Act} {w : World} (hr : Region.ready md ops listed = []) (h : Q .normal a w) : wpG P md ops (NoPanic Q) fuel listed a w :=
  wpAnyH_done (Q := NoPanic Q) hr h fuel
/-- The same, but only what was there at an earlier moment w0 is known to stay. -/
def wpB (P : Program) (md : Region.Mode) (ops : Array Oper) (Q : Exit → Act → World → Prop) (w0 : World) (fuel : Nat) (listed : Array Bool) (a : Act) (w : World) : Prop :=
  wpAnyH P md ops Q (fun W => Below w0.heap.size w0 W) fuel listed a w
theorem wpB_take {w0 : World} {i : Nat} {oi : Oper} {v : Value} {fuel : Nat} {listed : Array Bool} {a : Act} {w : World} (hb : Below w0.heap.size w0 w) (hi : ops[i]? = some oi)
    (hs : Region.noSelect ops = true) (hf : Region.free md ops listed i = true) (hr : (Region.ready md ops listed).contains i = true)
    (hw : Region.wanted oi (yielded ops a.tmps) = true) (hy : ∀ W, Below w0.heap.size w0 W → (execOp a.eval oi).run P W = .ok (.value v) W)
    (h : wpB P md ops (NoPanic Q) w0 fuel (listed.setIfInBounds i true) (a.put oi.dst v) w) : wpB P md ops (NoPanic Q) w0 (fuel + 1) listed a w :=
  wpAnyH_take hi hs hf hr (fun _ _ _ h => h) (.inl ⟨hw, hy⟩) hb h
theorem wpB_skip {w0 : World} {i : Nat} {oi : Oper} {fuel : Nat} {listed : Array Bool} {a : Act} {w : World} (hb : Below w0.heap.size w0 w) (hi : ops[i]? = some oi)
    (hs : Region.noSelect ops = true) (hf : Region.free md ops listed i = true) (hr : (Region.ready md ops listed).contains i = true)
    (hw : Region.wanted oi (yielded ops a.tmps) = false)
    (h : wpB P md ops (NoPanic Q) w0 fuel (listed.setIfInBounds i true) (a.put oi.dst undef) w) : wpB P md ops (NoPanic Q) w0 (fuel + 1) listed a w :=
  wpAnyH_take hi hs hf hr (fun _ _ _ h => h) (.inr ⟨hw, rfl⟩) hb h
/-- The one operation that may come up; only what was there at w0 is known to stay. -/
theorem wpB_do {w0 : World} {i : Nat} {o : Oper} {fuel : Nat} {listed : Array Bool} {a : Act} {w : World} (hr : Region.ready md ops listed = [i]) (hi : ops[i]? = some o)
    (hw : Region.wanted o (yielded ops a.tmps) = true)
    (h : ∀ K : Act → World → Prop, Shut (∀ a' w', Below w0.heap.size w0 w' → wpB P md ops Q w0 fuel (listed.setIfInBounds i true) a' w' → K a' w') → o.wp P a w K Q) : wpB P md ops Q w0 (fuel + 1) listed a w := by
  refine wpAnyH_all hr (by simp) fun j hj => ?_
  obtain rfl : j = i := by simpa using hj
  have h1 := h (fun a' w' => Below w0.heap.size w0 w' ∧ wpAnyH P md ops Q (fun W => Below w0.heap.size w0 W) fuel (listed.setIfInBounds j true) a' w') (fun a' w' hb hg => ⟨hb, hg⟩)
  unfold wpOp
  simp only [hi, hw, if_true]
  exact .inl h1
/-- From here on no longer all that is there is known to stay. -/
theorem wpG_keep {fuel : Nat} {listed : Array Bool} {a : Act} {w : World} (h : wpB P md ops Q w fuel listed a w) : wpG P md ops Q fuel listed a w := h
/-- From here on all that is there stays. -/
theorem wpB_renew {w0 : World} {fuel : Nat} {listed : Array Bool} {a : Act} {w : World} (hb : Below w0.heap.size w0 w) (h : wpG P md ops Q fuel listed a w) : wpB P md ops Q w0 fuel listed a w :=
  wpAnyH_weaken (fun W hW => hb.trans (hW.mono hb.size)) fuel _ a w h
end
end Go.Proofs.YtkoecgoajbgkgaaDoor

/- Arrays of numbers by value, compared: they are equal just if their numbers are. No program's text is named. -/
namespace Go.Proofs.YtkoecgoajbgkgaaDoor
set_option linter.unusedSimpArgs false
open Go.ChangeShapes Go.WideShapes Go.ChangeAt Go.RowKit
set_option linter.unusedVariables false

theorem run_eqItems_row {P : Program} (w : World) {k : IntKind} {e : TypeId} (d : Nat) (he : P.underlying e = some (.int k)) (l1 l2 : List Int) (n : Nat) (h1 : l1.length = n) (h2 : l2.length = n) :
    ∀ is : List Nat, (∀ i ∈ is, i < n) → (Op.eqItems (d + 1) e 1 (l1.map (Value.int k)).toArray (l2.map (Value.int k)).toArray is).run P w = .ok (is.all fun i => l1.getD i 0 == l2.getD i 0) w
  | [], _ => by simp [Op.eqItems]
  | i :: is, h => by
    have hi := h i (by simp)
    have hp : P.plainKey e = true := by simp [Program.plainKey, he]
    have e1 : ((l1.map (Value.int k)).toArray)[i * 1]? = some (.int k (l1.getD i 0)) := by simp [h1, hi]
    have e2 : ((l2.map (Value.int k)).toArray)[i * 1]? = some (.int k (l2.getD i 0)) := by simp [h2, hi]
    have ih := run_eqItems_row w d he l1 l2 n h1 h2 is (fun j hj => h j (by simp [hj]))
    simp only [Op.eqItems, Sem.run_bind, run_part_plain w hp e1, run_part_plain w hp e2, Result.andThen_ok, run_equalIn_int w d e k k _ _ he, List.all_cons]
    by_cases hq : l1.getD i 0 = l2.getD i 0
    · simp only [hq, BEq.rfl, Bool.true_and]
      simpa using ih
    · have hb : (l1.getD i 0 == l2.getD i 0) = false := by simpa using hq
      simp only [hb, Bool.false_and]
      simp
theorem all_eq (l1 l2 : List Int) (n : Nat) (h1 : l1.length = n) (h2 : l2.length = n) : ((List.range n).all fun i => l1.getD i 0 == l2.getD i 0) = decide (l1 = l2) := by
  by_cases h : l1 = l2
  · subst h
    simp
  · rw [decide_eq_false h, List.all_eq_false]
    refine Classical.byContradiction fun hc => h ?_
    refine List.ext_getElem (by omega) fun i a b => ?_
    refine Classical.byContradiction fun hne => hc ⟨i, List.mem_range.2 (by omega), ?_⟩
    simp [a, b, hne]
/-- Two arrays of numbers. -/
theorem run_equal_row {P : Program} (w : World) {k : IntKind} {t e : TypeId} {n : Nat} (d : Nat) (ht : P.underlying t = some (.array n e)) (he : P.underlying e = some (.int k)) (hc : P.cellsOf e = 1) (l1 l2 : List Int) (h1 : l1.length = n) (h2 : l2.length = n) :
    (Op.equalIn (d + 2) t (.agg (l1.map (Value.int k)).toArray) (.agg (l2.map (Value.int k)).toArray)).run P w = .ok (decide (l1 = l2)) w := by
  obtain ⟨i, hi⟩ := info_of_underlying he
  rw [run_equalIn_array w (d + 1) _ _ ht hi, hc, run_eqItems_row w d he l1 l2 n h1 h2 _ (fun i hi => List.mem_range.1 hi), all_eq l1 l2 n h1 h2]
end Go.Proofs.YtkoecgoajbgkgaaDoor

/- The permutation of noughts, round by round, reckoned: plain mathematics. No program's text is named. -/
namespace Go.Proofs.YtkoecgoajbgkgaaDoor
set_option linter.unusedSimpArgs false
set_option linter.unusedVariables false
/-- A row of lanes as a state. -/
def evS (l : List Nat) (k : Nat) : Nat := l.getD k 0
theorem evS_lt (l : List Nat) (h : ∀ x ∈ l, x < 18446744073709551616) (k : Nat) : evS l k < 18446744073709551616 := by
  unfold evS
  rcases Nat.lt_or_ge k l.length with hk | hk
  · simp only [List.getD_eq_getElem?_getD, List.getElem?_eq_getElem hk, Option.getD_some]
    exact h _ (List.getElem_mem hk)
  · simp [List.getElem?_eq_none hk]
theorem evS_step (f : Nat → Nat) (i : Nat) (hi : i < 24) (l m : List Nat) (hl : ∀ k, evS l k < 18446744073709551616) (hs : ∀ k, k < 25 → rdL (evS l) i k = evS m k) (h : ∀ k, k < 25 → rdsF f i k = evS l k) : ∀ k, k < 25 → rdsF f (i + 1) k = evS m k :=
  fun k hk => (rdF_congr h i k hk).trans ((rdL_eq (evS l) hl i hi k hk).symm.trans (hs k hk))
def kz0 : List Nat := [0, 0, 0, 0, 0, 0, 0, 0, 0, 0, 0, 0, 0, 0, 0, 0, 0, 0, 0, 0, 0, 0, 0, 0, 0]
def kz1 : List Nat := [1, 0, 0, 0, 0, 0, 0, 0, 0, 0, 0, 0, 0, 0, 0, 0, 0, 0, 0, 0, 0, 0, 0, 0, 0]
def kz2 : List Nat := [32899, 17592186044416, 32768, 1, 17592186077184, 0, 35184374185984, 0, 35184372088832, 2097152, 2, 512, 0, 514, 0, 268436480, 0, 1024, 268435456, 0, 1099511627776, 0, 1099511627780, 0, 4]
def kz3 : List Nat := [9236970796698600460, 4092250545529553158, 626057523912327425, 2306538108895626371, 1173341635645358336, 1293304092434976, 1266393375296193026, 4612686711565066480, 3572814934320349200, 6918386853474468034, 181437471070544, 17451689225912448, 14123431978033217603, 9612137362626578, 14131171423402623105, 109225863298950544, 4469910934709993472, 291608492588557700, 4143342752895270928, 722898250671538564, 9260980282462904729, 14339470011802853602, 37581858268459548, 4683770000893804961, 432358761588732518]
def kz4 : List Nat := [592319258926211651, 14940587067404002452, 6163873250186209783, 9133172271835791495, 13983250434949586883, 10037245043040796116, 14625807227073111006, 9517639169617348992, 10802803781493464979, 1170967630360556906, 4833658608200494670, 14411270558251773425, 10413092914151648788, 6324505867985343017, 15456637871614865798, 15961727220218474669, 12219779720573097889, 13453918774002596887, 11249665490274026413, 16763947842887530834, 9348458261315236693, 11269932799224724130, 5725669273397430228, 16793563075160212879, 7296601056617420707]
def kz5 : List Nat := [7638250137956199023, 17990125325728205105, 7906499215270811140, 10861036725959346835, 11195520138696188958, 8358174899797462070, 8135952663530915624, 1143978644753002443, 15662404937588594201, 16535557756827863490, 2821756897662528488, 12114361851460063201, 8845673958919045506, 13942698502943567537, 11656387723772272466, 13322614738909770079, 2086432298574777049, 17543636310180418713, 1178364895537752846, 10832164025006223835, 2030143342952750111, 12360607886846421348, 10479039689777663018, 16563260862735374768, 7279885679800479721]
def kz6 : List Nat := [4891766363406797400, 15439122233753343804, 13823342620960621853, 11746433691194652646, 4017314498112237324, 815207819430446539, 4967747420293129338, 3818588911347179217, 12982395987346120149, 8831006501622048216, 3273200702990303769, 11925911941096385939, 11818410238024184151, 6855937196075990472, 6813782227838587502, 5749709705375199086, 198532287281302992, 3986921420170929948, 2084732521627207926, 3955984847012879536, 17540298648724239738, 14973796877054370773, 9207394463793105740, 13336242423054526618, 2223831538796077986]
def kz7 : List Nat := [898454936699210940, 8026835929569667841, 7594412717710188589, 17691297879001667639, 12039682773981733750, 4806751406901749727, 11830785691895369039, 6215100860000502273, 3084694277248389144, 16700214332683074198, 1701067029580549681, 2935021215067160996, 10064659787097191500, 7604822824502759976, 1494105689337672248, 12626178481354463734, 2395136601172298592, 4068135589652482799, 15567196270789777948, 4732526861918809121, 2821496240805205513, 5710775155925759758, 9794593245826189275, 17281148776925903127, 7447477925633355381]
def kz8 : List Nat := [16652500485267009945, 10958849981877258258, 8853714237097736841, 2003963211515332167, 18104358148906917239, 11379445100294208094, 10437317241808364805, 8212908831415405867, 9091928497337800534, 14059751231478270153, 15001885449949867721, 6759228644865529140, 11075707692260412524, 3034373526708073059, 4872532784904879032, 4459999803740524546, 41374170015054282, 7214229506690688943, 13879932992727109603, 15786098323946766905, 12482833305138999423, 7737943208738395468, 10835449165856946809, 6784889229701620112, 2508743159882295470]
def kz9 : List Nat := [3501041463853948136, 10866310098799002248, 13309280585677824928, 8654994258840324854, 6845067337239913332, 10088136376365509866, 8098513356096791269, 6638350475764314625, 16001711104195941451, 10607400498603605150, 5131225480281754274, 5160469520704435485, 15018657285952792984, 16484085553422753372, 5931322006392875968, 3577803676181472141, 4870467447592949037, 5364253307864407449, 3089172411618606127, 16799288664504418060, 17410098619877022889, 17855808120993975832, 4231817637990851498, 8355222551094640687, 5005734266266153514]
def kz10 : List Nat := [3588163770990522304, 16479335626328639697, 11358907911893817070, 9119139129432285044, 13070366473402436328, 892731343442222162, 3690821324981009122, 15080028204771130150, 10354797854562857201, 10559463638913953956, 1883451539796691472, 2574107618984411294, 8774546256790412988, 17323304761403437493, 6567054393697289103, 8473902787459112510, 11348671707764966528, 10848509050259388225, 11998475766630087972, 13057299392584623156, 7315709613345793070, 2954040636079341264, 13505517057123953559, 6991998196266149583, 1779899004829303985]
def kz11 : List Nat := [8317352591327817587, 3347101423491892088, 13812284588227636790, 6672945709382097013, 14828349229463845968, 17723229868831098326, 17401130588186959855, 16478565068789518457, 6492452647977334912, 11881899180789479218, 16234817029224417455, 15219752985751753243, 7353976000907867650, 14188031598247865105, 15212311666827251122, 11629652489896499652, 9435989968869629838, 3918343313233240239, 7628695717460153542, 12309003921403265649, 345338872853187944, 12040357248728011954, 3576113714317971609, 6768822272106030756, 5816751084285246094]
def kz12 : List Nat := [4650443609753860646, 9514407034135748299, 1325603491995511509, 5593257647634540243, 4316689694591141959, 7056436588513633967, 3922974518795920519, 9361284003398536963, 12348570714043139801, 9410505497913992340, 3614675582850630850, 6265106893083717952, 15812212848177019826, 5971330993120196744, 10998285978683370913, 11166777828240479175, 7385351289822635840, 13873470266315090419, 6746683412968993695, 16204117485081817578, 8627448812002334210, 5809981248579074143, 17919282347891220598, 3921880343594863541, 4864618403575458388]
def kz13 : List Nat := [7245703133969760514, 7308377745558090787, 3024039199793975669, 10475161913693405315, 2229594443943537715, 1378705438878885022, 8836084697270343616, 11673226748516941160, 18083512963210699487, 12838525556441833447, 5648153304207930123, 200746312536593849, 7587304358451870209, 653040454587139786, 1931695478642165446, 3646385758086716037, 12146637998669364084, 17157368884712978469, 149421579872863289, 4990703509122231361, 15561585888115575213, 8444020517878950322, 591672357007603357, 17168445266072961336, 4351942371301754975]
def kz14 : List Nat := [17439252233509255564, 225517064072369678, 15197560361869801136, 8492230603760171635, 10118468664873174202, 12554236390675866429, 12173151878110805572, 9455058762890676721, 9002967087103684324, 9992720627576564325, 17592825898690150793, 4755568919312351197, 9828710851794728048, 16554068888394836059, 8580092000238620822, 4104430996807219279, 11083037563608643568, 16029629053423442691, 18027075810091538878, 321245942758965115, 12925451596010538097, 3580536083181318658, 13705588460631989968, 2207116526748302063, 11336349477551892250]
def kz15 : List Nat := [499396319318338511, 16598296433848699861, 15691981808115297129, 10697062245742628075, 17662185775433183365, 15198026603042879035, 17681084710937697917, 17755093159386811165, 14547892052690005938, 15104501572478572213, 286948984759750043, 4662839012690330110, 7340557698684567957, 6044892770335615963, 10415756869583199755, 17381047550606275810, 5486050556617844861, 5053899052200358206, 1279029575438066304, 5815463311262729061, 11540426632486290650, 3026182386453255318, 16537225085018891701, 7167013066012819519, 10141258868901884673]
def kz16 : List Nat := [186002755084198633, 7875549592229816171, 9703448628059580448, 6646444096150176270, 3615341345388919404, 3313702318915902065, 10134537690255397471, 8650438741776573648, 4390978572871648799, 14217650920017756974, 9087041697269418990, 14373159467704673966, 5255045852942200727, 10258247457295693610, 15892810380627109876, 14111119864122843793, 7843847541910009792, 8089379539919030870, 1834752850737808486, 14947608865877749509, 110835202157518283, 4177540581383386439, 8393105401651434609, 3159292081379106824, 13891385438665554005]
def kz17 : List Nat := [6716291398528649463, 16391965146650181165, 2794497005640006125, 11710730763712689336, 4037405288066120869, 3403361017319292852, 13180373384165051230, 10233231434755573125, 10963788867206603626, 8589604176294192504, 3829608956599346575, 17426361824248781213, 16313352582187060622, 4388287183312660536, 9780889371646087808, 11263013982753163662, 1208546673079813604, 8050592666418949312, 272947985853373533, 9534150378871926847, 10754727055769708014, 16852918939728349808, 6914530605635947640, 3357021228669245880, 8102025041947792827]
def kz18 : List Nat := [18149280721822949722, 539526793548296401, 11661866098113585304, 7100884252528479893, 7469495395882332108, 5460818120427043918, 8742384449443698268, 1361554367008491383, 7085858075342652681, 11138928806790670707, 10459659801701106666, 6179385343127973987, 5123603521173107509, 9266642088453662825, 3610247510912169124, 17535552123380205002, 6248378395162313301, 9561200739418372520, 9600864127987880469, 5804043717017853077, 8306236823340613794, 9785417608908625087, 4206999055586865845, 7900798310843028543, 14412064137475721620]
def kz19 : List Nat := [6457439440067997249, 13777849160320812261, 616247764888011782, 18194773996632560686, 4317179055567775779, 10083899805088772974, 7405719902982344870, 16100953298539987401, 12973085787754562031, 11972577103329552289, 7125480735910323634, 8219049419739706134, 3736733898207096611, 5913531013532143610, 3781114905091265875, 6693617783122012049, 10606185885997594585, 1219971372489852293, 10293467154871768158, 14810438646472817735, 11677429713754339580, 7135791663349222731, 13948538720430871162, 8962078475333775097, 10458764881410098076]
def kz20 : List Nat := [1881051358956524749, 8572342599578983420, 11933814230067883054, 16408968794787853844, 14082361430812143700, 7538106832265153721, 8793108538781928194, 10043264159957555297, 3887159526106900527, 10326454849488601812, 7145899200533365357, 3103641480972357220, 6151549654018979848, 7808537864706395097, 426832309038534551, 1752534105689487068, 12346090185973467920, 12393401280729133898, 3970681348523150730, 6388263871030754969, 12292229775085606426, 2429580131723667355, 12176686534785315901, 6767971518393992046, 5431456042628866740]
def kz21 : List Nat := [14670043827740809541, 10264481673677809263, 17289506751991670883, 14686210873594737935, 17309737919434675575, 8558224471215489306, 9867857203901322237, 665584300878412199, 12663381835802215442, 4375065056720982241, 6610362230856625798, 17129996464193748975, 17482660416114875713, 16106443241972327496, 12838202336223410952, 10866956683475865697, 5817714534208750732, 14903195188729727398, 1181230696816515997, 7674637775517888862, 11697750878443596454, 17842043107102873364, 12213993094098217275, 14655586352935638098, 15842378043616538049]
def kz22 : List Nat := [2149020316059959583, 4480083049744348910, 1273588417966463296, 15766972460458433346, 8560527992384500625, 3686627936143892766, 8755611411202149012, 2832524706795739853, 11201653529761616664, 9520020058357152317, 17377655190274623177, 3088928373660210309, 9529232775671115915, 16066398500001929518, 13818642385023979371, 6938803179744280570, 6153620101357422073, 9113291186175413007, 598736750830588311, 6631432716220780029, 12726974436539949356, 5810384416721007283, 3145999531509890666, 14700409590898811427, 835051425122426489]
def kz23 : List Nat := [1021834983209491063, 271587765569717919, 4776059245685303294, 6929972956618907976, 15632760037079799599, 335373011243745427, 4458191160998101431, 1054086133152375554, 2747216341432570284, 16716089959809353091, 18427037088977732910, 8502882582543089190, 15262916258997799331, 1649067881221390653, 16305756012321036251, 6396788823285448910, 16280709970257755463, 968684198036765735, 17453107891981340679, 14208300252181521039, 8344225276973693085, 15466940913106191879, 9691424745450112199, 11326521537916162858, 14617465633943149704]
def kz24 : List Nat := [17376452488221285863, 9571781953733019530, 15391093639620504046, 13624874521033984333, 10027350355371872343, 18417369716475457492, 10448040663659726788, 10113917136857017974, 12479658147685402012, 3500241080921619556, 16959053435453822517, 12224711289652453635, 9342009439668884831, 4879704952849025062, 140226327413610143, 424854978622500449, 7259519967065370866, 7004910057750291985, 13293599522548616907, 10105770293752443592, 10668034807192757780, 1747952066141424100, 1654286879329379778, 8500057116360352059, 16929593379567477321]
theorem kz_step0 : ∀ k, k < 25 → rdL (evS kz0) 0 k = evS kz1 k := by decide +kernel
theorem kz_step1 : ∀ k, k < 25 → rdL (evS kz1) 1 k = evS kz2 k := by decide +kernel
theorem kz_step2 : ∀ k, k < 25 → rdL (evS kz2) 2 k = evS kz3 k := by decide +kernel
theorem kz_step3 : ∀ k, k < 25 → rdL (evS kz3) 3 k = evS kz4 k := by decide +kernel
theorem kz_step4 : ∀ k, k < 25 → rdL (evS kz4) 4 k = evS kz5 k := by decide +kernel
theorem kz_step5 : ∀ k, k < 25 → rdL (evS kz5) 5 k = evS kz6 k := by decide +kernel
theorem kz_step6 : ∀ k, k < 25 → rdL (evS kz6) 6 k = evS kz7 k := by decide +kernel
theorem kz_step7 : ∀ k, k < 25 → rdL (evS kz7) 7 k = evS kz8 k := by decide +kernel
theorem kz_step8 : ∀ k, k < 25 → rdL (evS kz8) 8 k = evS kz9 k := by decide +kernel
theorem kz_step9 : ∀ k, k < 25 → rdL (evS kz9) 9 k = evS kz10 k := by decide +kernel
theorem kz_step10 : ∀ k, k < 25 → rdL (evS kz10) 10 k = evS kz11 k := by decide +kernel
theorem kz_step11 : ∀ k, k < 25 → rdL (evS kz11) 11 k = evS kz12 k := by decide +kernel
theorem kz_step12 : ∀ k, k < 25 → rdL (evS kz12) 12 k = evS kz13 k := by decide +kernel
theorem kz_step13 : ∀ k, k < 25 → rdL (evS kz13) 13 k = evS kz14 k := by decide +kernel
theorem kz_step14 : ∀ k, k < 25 → rdL (evS kz14) 14 k = evS kz15 k := by decide +kernel
theorem kz_step15 : ∀ k, k < 25 → rdL (evS kz15) 15 k = evS kz16 k := by decide +kernel
theorem kz_step16 : ∀ k, k < 25 → rdL (evS kz16) 16 k = evS kz17 k := by decide +kernel
theorem kz_step17 : ∀ k, k < 25 → rdL (evS kz17) 17 k = evS kz18 k := by decide +kernel
theorem kz_step18 : ∀ k, k < 25 → rdL (evS kz18) 18 k = evS kz19 k := by decide +kernel
theorem kz_step19 : ∀ k, k < 25 → rdL (evS kz19) 19 k = evS kz20 k := by decide +kernel
theorem kz_step20 : ∀ k, k < 25 → rdL (evS kz20) 20 k = evS kz21 k := by decide +kernel
theorem kz_step21 : ∀ k, k < 25 → rdL (evS kz21) 21 k = evS kz22 k := by decide +kernel
theorem kz_step22 : ∀ k, k < 25 → rdL (evS kz22) 22 k = evS kz23 k := by decide +kernel
theorem kz_step23 : ∀ k, k < 25 → rdL (evS kz23) 23 k = evS kz24 k := by decide +kernel
theorem kz_lt0 : ∀ k, evS kz0 k < 18446744073709551616 := evS_lt _ (by decide)
theorem kz_lt1 : ∀ k, evS kz1 k < 18446744073709551616 := evS_lt _ (by decide)
theorem kz_lt2 : ∀ k, evS kz2 k < 18446744073709551616 := evS_lt _ (by decide)
theorem kz_lt3 : ∀ k, evS kz3 k < 18446744073709551616 := evS_lt _ (by decide)
theorem kz_lt4 : ∀ k, evS kz4 k < 18446744073709551616 := evS_lt _ (by decide)
theorem kz_lt5 : ∀ k, evS kz5 k < 18446744073709551616 := evS_lt _ (by decide)
theorem kz_lt6 : ∀ k, evS kz6 k < 18446744073709551616 := evS_lt _ (by decide)
theorem kz_lt7 : ∀ k, evS kz7 k < 18446744073709551616 := evS_lt _ (by decide)
theorem kz_lt8 : ∀ k, evS kz8 k < 18446744073709551616 := evS_lt _ (by decide)
theorem kz_lt9 : ∀ k, evS kz9 k < 18446744073709551616 := evS_lt _ (by decide)
theorem kz_lt10 : ∀ k, evS kz10 k < 18446744073709551616 := evS_lt _ (by decide)
theorem kz_lt11 : ∀ k, evS kz11 k < 18446744073709551616 := evS_lt _ (by decide)
theorem kz_lt12 : ∀ k, evS kz12 k < 18446744073709551616 := evS_lt _ (by decide)
theorem kz_lt13 : ∀ k, evS kz13 k < 18446744073709551616 := evS_lt _ (by decide)
theorem kz_lt14 : ∀ k, evS kz14 k < 18446744073709551616 := evS_lt _ (by decide)
theorem kz_lt15 : ∀ k, evS kz15 k < 18446744073709551616 := evS_lt _ (by decide)
theorem kz_lt16 : ∀ k, evS kz16 k < 18446744073709551616 := evS_lt _ (by decide)
theorem kz_lt17 : ∀ k, evS kz17 k < 18446744073709551616 := evS_lt _ (by decide)
theorem kz_lt18 : ∀ k, evS kz18 k < 18446744073709551616 := evS_lt _ (by decide)
theorem kz_lt19 : ∀ k, evS kz19 k < 18446744073709551616 := evS_lt _ (by decide)
theorem kz_lt20 : ∀ k, evS kz20 k < 18446744073709551616 := evS_lt _ (by decide)
theorem kz_lt21 : ∀ k, evS kz21 k < 18446744073709551616 := evS_lt _ (by decide)
theorem kz_lt22 : ∀ k, evS kz22 k < 18446744073709551616 := evS_lt _ (by decide)
theorem kz_lt23 : ∀ k, evS kz23 k < 18446744073709551616 := evS_lt _ (by decide)
theorem kz_lt24 : ∀ k, evS kz24 k < 18446744073709551616 := evS_lt _ (by decide)
theorem kz_all (f : Nat → Nat) (hf : ∀ k, k < 25 → f k = evS kz0 k) : ∀ k, k < 25 → rdsF f 24 k = evS kz24 k := by
  have h0 := hf
  have h1 : ∀ k, k < 25 → rdsF f 1 k = evS kz1 k := evS_step f 0 (by decide) kz0 kz1 kz_lt0 kz_step0 h0
  have h2 : ∀ k, k < 25 → rdsF f 2 k = evS kz2 k := evS_step f 1 (by decide) kz1 kz2 kz_lt1 kz_step1 h1
  have h3 : ∀ k, k < 25 → rdsF f 3 k = evS kz3 k := evS_step f 2 (by decide) kz2 kz3 kz_lt2 kz_step2 h2
  have h4 : ∀ k, k < 25 → rdsF f 4 k = evS kz4 k := evS_step f 3 (by decide) kz3 kz4 kz_lt3 kz_step3 h3
  have h5 : ∀ k, k < 25 → rdsF f 5 k = evS kz5 k := evS_step f 4 (by decide) kz4 kz5 kz_lt4 kz_step4 h4
  have h6 : ∀ k, k < 25 → rdsF f 6 k = evS kz6 k := evS_step f 5 (by decide) kz5 kz6 kz_lt5 kz_step5 h5
  have h7 : ∀ k, k < 25 → rdsF f 7 k = evS kz7 k := evS_step f 6 (by decide) kz6 kz7 kz_lt6 kz_step6 h6
  have h8 : ∀ k, k < 25 → rdsF f 8 k = evS kz8 k := evS_step f 7 (by decide) kz7 kz8 kz_lt7 kz_step7 h7
  have h9 : ∀ k, k < 25 → rdsF f 9 k = evS kz9 k := evS_step f 8 (by decide) kz8 kz9 kz_lt8 kz_step8 h8
  have h10 : ∀ k, k < 25 → rdsF f 10 k = evS kz10 k := evS_step f 9 (by decide) kz9 kz10 kz_lt9 kz_step9 h9
  have h11 : ∀ k, k < 25 → rdsF f 11 k = evS kz11 k := evS_step f 10 (by decide) kz10 kz11 kz_lt10 kz_step10 h10
  have h12 : ∀ k, k < 25 → rdsF f 12 k = evS kz12 k := evS_step f 11 (by decide) kz11 kz12 kz_lt11 kz_step11 h11
  have h13 : ∀ k, k < 25 → rdsF f 13 k = evS kz13 k := evS_step f 12 (by decide) kz12 kz13 kz_lt12 kz_step12 h12
  have h14 : ∀ k, k < 25 → rdsF f 14 k = evS kz14 k := evS_step f 13 (by decide) kz13 kz14 kz_lt13 kz_step13 h13
  have h15 : ∀ k, k < 25 → rdsF f 15 k = evS kz15 k := evS_step f 14 (by decide) kz14 kz15 kz_lt14 kz_step14 h14
  have h16 : ∀ k, k < 25 → rdsF f 16 k = evS kz16 k := evS_step f 15 (by decide) kz15 kz16 kz_lt15 kz_step15 h15
  have h17 : ∀ k, k < 25 → rdsF f 17 k = evS kz17 k := evS_step f 16 (by decide) kz16 kz17 kz_lt16 kz_step16 h16
  have h18 : ∀ k, k < 25 → rdsF f 18 k = evS kz18 k := evS_step f 17 (by decide) kz17 kz18 kz_lt17 kz_step17 h17
  have h19 : ∀ k, k < 25 → rdsF f 19 k = evS kz19 k := evS_step f 18 (by decide) kz18 kz19 kz_lt18 kz_step18 h18
  have h20 : ∀ k, k < 25 → rdsF f 20 k = evS kz20 k := evS_step f 19 (by decide) kz19 kz20 kz_lt19 kz_step19 h19
  have h21 : ∀ k, k < 25 → rdsF f 21 k = evS kz21 k := evS_step f 20 (by decide) kz20 kz21 kz_lt20 kz_step20 h20
  have h22 : ∀ k, k < 25 → rdsF f 22 k = evS kz22 k := evS_step f 21 (by decide) kz21 kz22 kz_lt21 kz_step21 h21
  have h23 : ∀ k, k < 25 → rdsF f 23 k = evS kz23 k := evS_step f 22 (by decide) kz22 kz23 kz_lt22 kz_step22 h22
  have h24 : ∀ k, k < 25 → rdsF f 24 k = evS kz24 k := evS_step f 23 (by decide) kz23 kz24 kz_lt23 kz_step23 h23
  exact h24
end Go.Proofs.YtkoecgoajbgkgaaDoor

/- A state's bytes, bytes' state, bytes that are padded and taken in, and what comes out without end: plain mathematics. No program's text is named. -/
namespace Go.Proofs.YtkoecgoajbgkgaaDoor
set_option linter.unusedSimpArgs false
set_option linter.unusedVariables false

/-! ### A state's bytes -/
def byF (f : Nat → Nat) (k : Nat) : UInt8 := stB (f (k / 8)) (k % 8)
def bsP (f : Nat → Nat) (n : Nat) : List UInt8 := (List.range n).map (byF f)
theorem bsP_length (f : Nat → Nat) (n : Nat) : (bsP f n).length = n := by simp [bsP]
theorem bsP_next (f : Nat → Nat) (i : Nat) : bsP f (8 * i) ++ (List.range 8).map (stB (f i)) = bsP f (8 * (i + 1)) := by
  unfold bsP
  rw [show 8 * (i + 1) = 8 * i + 8 by omega, List.range_add, List.map_append, List.map_map]
  congr 1
  refine List.map_congr_left fun t ht => ?_
  have := List.mem_range.1 ht
  simp only [Function.comp, byF]
  rw [show (8 * i + t) / 8 = i by omega, show (8 * i + t) % 8 = t by omega]
theorem bsP_get (f : Nat → Nat) (n k : Nat) (hk : k < n) : (bsP f n).getD k 0 = byF f k := by simp [bsP, hk]

/-! ### Bytes' state -/
def stF (l : List UInt8) (i : Nat) : Nat := leN ((l.drop (8 * i)).take 8)
theorem stF_lt (l : List UInt8) (i : Nat) : stF l i < 18446744073709551616 := by
  unfold stF
  exact leN_take_lt _ 8 (Nat.le_refl _)
def stP (l : List UInt8) (n : Nat) : List Int := (List.range n).map fun i => ((stF l i : Nat) : Int)
theorem stP_next (l : List UInt8) (n : Nat) : stP l n ++ [((stF l n : Nat) : Int)] = stP l (n + 1) := by
  unfold stP
  rw [List.range_succ, List.map_append]
  rfl
theorem stP_length (l : List UInt8) (n : Nat) : (stP l n).length = n := by simp [stP]
theorem stP_done (l : List UInt8) : stP l 25 = stL (stF l) := rfl

/-! ### One byte laid over another, as far as that has come -/
def xhP (s p : List UInt8) (i K : Nat) : List UInt8 := (List.range 200).map fun k => if k < K then s.getD k 0 ^^^ p.getD (i + k) 0 else s.getD k 0
theorem xhP_length (s p : List UInt8) (i K : Nat) : (xhP s p i K).length = 200 := by simp [xhP]
theorem xhP_zero (s p : List UInt8) (i : Nat) (hs : s.length = 200) : s = xhP s p i 0 := by
  refine List.ext_getElem (by simp [xhP, hs]) fun k h1 h2 => ?_
  simp [xhP, h1]
theorem xhP_get (s p : List UInt8) (i K : Nat) (hK : K < 200) : (xhP s p i K).getD K 0 = s.getD K 0 := by simp [xhP, hK]
theorem xhP_set (s p : List UInt8) (i K : Nat) : (xhP s p i K).set K (s.getD K 0 ^^^ p.getD (i + K) 0) = xhP s p i (K + 1) := by
  refine List.ext_getElem (by simp [xhP]) fun k h1 h2 => ?_
  simp only [xhP, List.getElem_set, List.getElem_map, List.getElem_range]
  by_cases e : K = k
  · subst e; simp
  · have : (k < K + 1) ↔ k < K := by omega
    simp [e, this]

/-! ### Padded bytes -/
/-- How many noughts stand behind the suffix. -/
def zN (r n : Nat) : Nat := (r - (n + 1) % r) % r
theorem zN_full (r n : Nat) (hr : 0 < r) : (n + 1 + zN r n) % r = 0 := by
  unfold zN
  have h1 : (n + 1) % r < r := Nat.mod_lt _ hr
  by_cases h : (n + 1) % r = 0
  · rw [h, Nat.sub_zero, Nat.mod_self, Nat.add_zero, h]
  · rw [Nat.mod_eq_of_lt (by omega : r - (n + 1) % r < r)]
    have h2 := Nat.div_add_mod (n + 1) r
    have h3 : n + 1 + (r - (n + 1) % r) = r * ((n + 1) / r + 1) := by rw [Nat.mul_add, Nat.mul_one]; omega
    rw [h3, Nat.mul_mod_right]
theorem zN_least (r n z : Nat) (hr : 0 < r) (hz : z < zN r n) : (n + 1 + z) % r ≠ 0 := by
  unfold zN at hz
  have h1 : (n + 1) % r < r := Nat.mod_lt _ hr
  by_cases h : (n + 1) % r = 0
  · rw [h, Nat.sub_zero, Nat.mod_self] at hz
    omega
  · rw [Nat.mod_eq_of_lt (by omega : r - (n + 1) % r < r)] at hz
    have h2 := Nat.div_add_mod (n + 1) r
    have h3 : n + 1 + z = r * ((n + 1) / r) + ((n + 1) % r + z) := by omega
    rw [h3, Nat.mul_add_mod, Nat.mod_eq_of_lt (by omega)]
    omega
theorem zN_lt (r n : Nat) (hr : 0 < r) : zN r n < r := Nat.mod_lt _ hr
/-- Padded, but for the last byte's highest bit. -/
def pdP (s : UInt8) (l : List UInt8) (z : Nat) : List UInt8 := l ++ [s] ++ List.replicate z 0
theorem pdP_length (s : UInt8) (l : List UInt8) (z : Nat) : (pdP s l z).length = l.length + 1 + z := by simp [pdP]; omega
theorem pdP_next (s : UInt8) (l : List UInt8) (z : Nat) : pdP s l z ++ [0] = pdP s l (z + 1) := by
  unfold pdP
  rw [List.append_assoc, List.replicate_succ']
def padL (r : Nat) (s : UInt8) (l : List UInt8) : List UInt8 := (pdP s l (zN r l.length)).set (l.length + zN r l.length) ((pdP s l (zN r l.length)).getD (l.length + zN r l.length) 0 ^^^ 128)
theorem padL_length (r : Nat) (s : UInt8) (l : List UInt8) : (padL r s l).length = l.length + 1 + zN r l.length := by simp [padL, pdP_length]
/-- How many blocks. -/
def blN (r : Nat) (l : List UInt8) : Nat := (l.length + 1 + zN r l.length) / r
theorem blN_mul (r : Nat) (l : List UInt8) (hr : 0 < r) : blN r l * r = l.length + 1 + zN r l.length := by
  unfold blN
  exact Nat.div_mul_cancel (Nat.dvd_of_mod_eq_zero (zN_full r _ hr))

/-! ### Taken in -/
def abN (r : Nat) (p : List UInt8) : Nat → Nat → Nat
  | 0 => fun _ => 0
  | b + 1 => rdsF (stF (xhP (bsP (abN r p b) 200) p (b * r) r)) 24
def abF (r : Int) (s : UInt8) (l : List UInt8) : Nat → Nat := if 1 ≤ r ∧ r ≤ 200 then abN r.toNat (padL r.toNat s l) (blN r.toNat l) else fun _ => 0

/-! ### What comes out -/
def itF (f : Nat → Nat) : Nat → Nat → Nat
  | 0 => f
  | t + 1 => rdsF (itF f t) 24
def smF (f : Nat → Nat) (r k : Nat) : UInt8 := byF (itF f (k / r)) (k % r)
def otL (f : Nat → Nat) (r n : Nat) : List UInt8 := (List.range n).map (smF f r)
theorem otL_length (f : Nat → Nat) (r n : Nat) : (otL f r n).length = n := by simp [otL]
theorem otL_take (f : Nat → Nat) (r n m : Nat) (h : n ≤ m) : (otL f r m).take n = otL f r n := by
  unfold otL
  rw [← List.map_take, List.take_range, Nat.min_eq_left h]
theorem bsP_take (f : Nat → Nat) (n m : Nat) (h : n ≤ m) : (bsP f m).take n = bsP f n := by
  unfold bsP
  rw [← List.map_take, List.take_range, Nat.min_eq_left h]
theorem otL_next (f : Nat → Nat) (r m : Nat) (hr : 0 < r) : otL f r (m * r) ++ bsP (itF f m) r = otL f r ((m + 1) * r) := by
  unfold otL bsP
  rw [Nat.add_mul, Nat.one_mul, List.range_add, List.map_append, List.map_map]
  congr 1
  refine List.map_congr_left fun t ht => ?_
  have h := List.mem_range.1 ht
  simp only [Function.comp, smF]
  rw [Nat.mul_comm m r, Nat.mul_add_div hr, Nat.mul_add_mod, Nat.div_eq_of_lt h, Nat.mod_eq_of_lt h, Nat.add_zero]
end Go.Proofs.YtkoecgoajbgkgaaDoor

/- Bytes taken in block by block and lane by lane: plain mathematics. No program's text is named. -/
namespace Go.Proofs.YtkoecgoajbgkgaaDoor
set_option linter.unusedSimpArgs false
set_option linter.unusedVariables false

/-! ### Laid over one another, lane by lane -/
theorem leN_xor : ∀ (a b : List UInt8), a.length = b.length → leN (List.zipWith (· ^^^ ·) a b) = leN a ^^^ leN b
  | [], [], _ => rfl
  | x :: a, y :: b, h => by
    have ih := leN_xor a b (by simpa using h)
    have e : ∀ (u : UInt8) (n : Nat), u.toNat + 256 * n = 2 ^ 8 * n ||| u.toNat := fun u n => by
      rw [← Nat.two_pow_add_eq_or_of_lt (show u.toNat < 2 ^ 8 from u.toNat_lt)]
      omega
    show (x ^^^ y).toNat + 256 * leN (List.zipWith (· ^^^ ·) a b) = (x.toNat + 256 * leN a) ^^^ (y.toNat + 256 * leN b)
    rw [ih, e, e, e]
    apply Nat.eq_of_testBit_eq
    intro i
    simp only [Nat.testBit_or, Nat.testBit_xor, Nat.testBit_two_pow_mul, UInt8.toNat_xor]
    by_cases hi : 8 ≤ i
    · have h8 : ∀ u : UInt8, u.toNat.testBit i = false := fun u => Nat.testBit_lt_two_pow (Nat.lt_of_lt_of_le u.toNat_lt (Nat.pow_le_pow_right (by decide) hi))
      simp [hi, h8]
    · simp [hi]
  | [], _ :: _, h => by simp at h
  | _ :: _, [], h => by simp at h
theorem leN_cons (x : UInt8) (l : List UInt8) : leN (x :: l) = x.toNat + 256 * leN l := rfl
/-- Lane j of the first r bytes of a block. -/
def xbl (blk : Nat → UInt8) (r j : Nat) : Nat := leN ((List.range 8).map fun t => if 8 * j + t < r then blk (8 * j + t) else 0)
theorem xbl_lt (blk : Nat → UInt8) (r j : Nat) : xbl blk r j < 18446744073709551616 := by
  have h := leN_lt ((List.range 8).map fun t => if 8 * j + t < r then blk (8 * j + t) else 0)
  have e : (256 : Nat) ^ ((List.range 8).map fun t => if 8 * j + t < r then blk (8 * j + t) else 0).length = 18446744073709551616 := by
    rw [List.length_map, List.length_range]
  rw [e] at h
  exact h
theorem xbl_congr {b1 b2 : Nat → UInt8} (r j : Nat) (h : ∀ k, k < r → b1 k = b2 k) : xbl b1 r j = xbl b2 r j := by
  unfold xbl
  congr 1
  refine List.map_congr_left fun t _ => ?_
  by_cases e : 8 * j + t < r
  · rw [if_pos e, if_pos e, h _ e]
  · rw [if_neg e, if_neg e]
theorem stF_xor (f : Nat → Nat) (hf : ∀ i, f i < 18446744073709551616) (p : List UInt8) (i r j : Nat) (hj : j < 25) :
    stF (xhP (bsP f 200) p i r) j = f j ^^^ xbl (fun k => p.getD (i + k) 0) r j := by
  have e1 : ((xhP (bsP f 200) p i r).drop (8 * j)).take 8 = List.zipWith (· ^^^ ·) ((List.range 8).map (stB (f j))) ((List.range 8).map fun t => if 8 * j + t < r then p.getD (i + (8 * j + t)) 0 else 0) := by
    refine List.ext_getElem (by simp [xhP_length]; omega) fun t h1 h2 => ?_
    have ht : t < 8 := by simp at h1; omega
    have hk : 8 * j + t < 200 := by omega
    have e2 : byF f (8 * j + t) = stB (f j) t := by
      unfold byF
      rw [show (8 * j + t) / 8 = j by omega, show (8 * j + t) % 8 = t by omega]
    simp only [List.getElem_take, List.getElem_drop, xhP, List.getElem_map, List.getElem_range, List.getElem_zipWith]
    rw [bsP_get f 200 _ hk, e2]
    split
    · rfl
    · simp
  unfold stF
  have h8 : f j < 256 ^ 8 := hf j
  rw [e1, leN_xor _ _ (by simp), leN_stB, Nat.mod_eq_of_lt h8]
  rfl

/-! ### The blocks of padded bytes -/
/-- Byte k of the last block. -/
def lasB (r : Nat) (s : UInt8) (l : List UInt8) (k : Nat) : UInt8 :=
  (if k < l.length % r then l.getD (l.length / r * r + k) 0 else if k = l.length % r then s else 0) ^^^ (if k = r - 1 then 128 else 0)
theorem zN_eq (r n : Nat) (hr : 0 < r) : zN r n = r - 1 - n % r := by
  unfold zN
  have h1 : n % r < r := Nat.mod_lt _ hr
  have h2 := Nat.div_add_mod n r
  have h3 : n + 1 = r * (n / r) + (n % r + 1) := by omega
  rw [h3, Nat.mul_add_mod]
  by_cases h : n % r + 1 = r
  · rw [h, Nat.mod_self, Nat.sub_zero, Nat.mod_self]
    omega
  · rw [Nat.mod_eq_of_lt (by omega : n % r + 1 < r), Nat.mod_eq_of_lt (by omega)]
    omega
theorem blN_eq (r : Nat) (l : List UInt8) (hr : 0 < r) : blN r l = l.length / r + 1 := by
  unfold blN
  rw [zN_eq r _ hr]
  have h1 : l.length % r < r := Nat.mod_lt _ hr
  have h2 := Nat.div_add_mod l.length r
  have h3 : l.length + 1 + (r - 1 - l.length % r) = r * (l.length / r + 1) := by rw [Nat.mul_add, Nat.mul_one]; omega
  rw [h3, Nat.mul_div_cancel_left _ hr]
theorem pdP_get (s : UInt8) (l : List UInt8) (z k : Nat) : (pdP s l z).getD k 0 = if k < l.length then l.getD k 0 else if k = l.length then s else 0 := by
  unfold pdP
  by_cases h : k < l.length
  · rw [if_pos h]
    simp [List.getElem?_append, h, show k < l.length + 1 by omega]
  · rw [if_neg h]
    by_cases h2 : k = l.length
    · subst h2
      simp [List.getElem?_append]
    · rw [if_neg h2]
      have h3 : ¬ k < l.length + 1 := by omega
      obtain ⟨d, hd⟩ : ∃ d, k - l.length = d + 1 := ⟨k - l.length - 1, by omega⟩
      by_cases h4 : d < z
      · simp [List.getElem?_append, h, hd, List.getElem?_replicate, h4]
      · simp [List.getElem?_append, h, hd, List.getElem?_replicate, h4]
theorem padL_get (r : Nat) (s : UInt8) (l : List UInt8) (k : Nat) (hk : k < l.length + 1 + zN r l.length) :
    (padL r s l).getD k 0 = (if k < l.length then l.getD k 0 else if k = l.length then s else 0) ^^^ (if k = l.length + zN r l.length then 128 else 0) := by
  unfold padL
  rw [← pdP_get s l (zN r l.length)]
  have hlen := pdP_length s l (zN r l.length)
  by_cases e : k = l.length + zN r l.length
  · rw [if_pos e, ← e]
    have h1 : k < (pdP s l (zN r l.length)).length := by omega
    simp [List.getElem?_set, h1]
  · rw [if_neg e]
    simp [List.getElem?_set, Ne.symm e]
theorem pad_full (r : Nat) (s : UInt8) (l : List UInt8) (hr : 0 < r) (b k : Nat) (hb : b < l.length / r) (hk : k < r) : (padL r s l).getD (b * r + k) 0 = l.getD (b * r + k) 0 := by
  have h1 : (b + 1) * r ≤ l.length / r * r := Nat.mul_le_mul_right r hb
  have h2 := Nat.div_mul_le_self l.length r
  rw [Nat.add_mul, Nat.one_mul] at h1
  rw [padL_get r s l _ (by omega), if_pos (by omega), if_neg (by omega)]
  simp
theorem pad_last (r : Nat) (s : UInt8) (l : List UInt8) (hr : 0 < r) (k : Nat) (hk : k < r) : (padL r s l).getD (l.length / r * r + k) 0 = lasB r s l k := by
  have h0 := Nat.div_add_mod l.length r
  rw [Nat.mul_comm] at h0
  have h1 : l.length % r < r := Nat.mod_lt _ hr
  have hz := zN_eq r l.length hr
  rw [padL_get r s l _ (by omega)]
  unfold lasB
  have c1 : (l.length / r * r + k < l.length) ↔ k < l.length % r := by omega
  have c2 : (l.length / r * r + k = l.length) ↔ k = l.length % r := by omega
  have c3 : (l.length / r * r + k = l.length + zN r l.length) ↔ k = r - 1 := by omega
  simp only [c1, c2, c3]
/-- One block taken in. -/
def tkF (f : Nat → Nat) (blk : Nat → UInt8) (r : Nat) : Nat → Nat := rdsF (fun j => f j ^^^ xbl blk r j) 24
theorem abN_tk (r : Nat) (p : List UInt8) (b : Nat) (k : Nat) (hk : k < 25) : abN r p (b + 1) k = tkF (abN r p b) (fun t => p.getD (b * r + t) 0) r k := by
  show rdsF (stF (xhP (bsP (abN r p b) 200) p (b * r) r)) 24 k = _
  have hlt : ∀ b k, abN r p b k < 18446744073709551616 := by
    intro b
    cases b with
    | zero => intro k; simp [abN]
    | succ b => intro k; exact rdsF_lt _ (stF_lt _) 24 k
  exact rdsF_congr (fun j hj => stF_xor _ (hlt b) p (b * r) r j hj) 24 k hk
theorem tkF_congr {f g : Nat → Nat} {b1 b2 : Nat → UInt8} (r : Nat) (h : ∀ j, j < 25 → f j = g j) (hb : ∀ k, k < r → b1 k = b2 k) (k : Nat) (hk : k < 25) : tkF f b1 r k = tkF g b2 r k :=
  rdsF_congr (fun j hj => by rw [h j hj, xbl_congr r j hb]) 24 k hk
/-- The whole blocks of the bytes themselves, taken in. -/
def fuN (r : Nat) (l : List UInt8) : Nat → Nat → Nat
  | 0 => fun _ => 0
  | b + 1 => tkF (fuN r l b) (fun t => l.getD (b * r + t) 0) r
theorem fuN_eq (r : Nat) (s : UInt8) (l : List UInt8) (hr : 0 < r) : ∀ b, b ≤ l.length / r → ∀ k, k < 25 → abN r (padL r s l) b k = fuN r l b k
  | 0, _, _, _ => rfl
  | b + 1, hb, k, hk => (abN_tk r _ b k hk).trans (tkF_congr r (fuN_eq r s l hr b (by omega)) (fun t ht => pad_full r s l hr b t (by omega) ht) k hk)
/-- All blocks: the whole ones, then the last. -/
theorem abs_eq (r : Nat) (s : UInt8) (l : List UInt8) (hr : 0 < r) (k : Nat) (hk : k < 25) : abN r (padL r s l) (blN r l) k = tkF (fuN r l (l.length / r)) (lasB r s l) r k := by
  rw [blN_eq r l hr]
  exact (abN_tk r _ _ k hk).trans (tkF_congr r (fuN_eq r s l hr _ (Nat.le_refl _)) (fun t ht => pad_last r s l hr t ht) k hk)
theorem fuN_lt (r : Nat) (l : List UInt8) : ∀ b k, fuN r l b k < 18446744073709551616
  | 0, _ => by simp [fuN]
  | b + 1, k => rdsF_lt _ (fun j => xor_lt64 (fuN_lt r l b j) (xbl_lt _ _ _)) 24 k

/-! ### Read in pieces -/
theorem otL_split (f : Nat → Nat) (r a b : Nat) : otL f r (a + b) = otL f r a ++ (List.range b).map (fun k => smF f r (a + k)) := by
  unfold otL
  rw [List.range_add, List.map_append, List.map_map]
  rfl
end Go.Proofs.YtkoecgoajbgkgaaDoor

/- The code of a key and bytes, and the keys that follow from a chaining key: plain mathematics. No program's text is named. -/
namespace Go.Proofs.YtkoecgoajbgkgaaDoor
set_option linter.unusedSimpArgs false
set_option linter.unusedVariables false

/-- The sum of 32 bytes. -/
def s2L (l : List UInt8) : List UInt8 := otL (abF 136 6 l) 136 32
theorem s2L_length (l : List UInt8) : (s2L l).length = 32 := otL_length _ _ _
/-- A key as it counts, without noughts behind it, and with them. -/
def kyS (k : List UInt8) : List UInt8 := if 136 < k.length then s2L k else k
theorem kyS_length (k : List UInt8) : (kyS k).length ≤ 136 := by
  unfold kyS
  split
  · rw [s2L_length]; decide
  · omega
def kyL (k : List UInt8) : List UInt8 := kyS k ++ List.replicate (136 - (kyS k).length) 0
theorem kyL_length (k : List UInt8) : (kyL k).length = 136 := by
  have := kyS_length k
  simp [kyL]
  omega
def mxP (K : List UInt8) (c : UInt8) (j : Nat) : List UInt8 := (List.range j).map fun t => K.getD t 0 ^^^ c
theorem mxP_next (K : List UInt8) (c : UInt8) (j : Nat) : mxP K c j ++ [K.getD j 0 ^^^ c] = mxP K c (j + 1) := by
  unfold mxP
  rw [List.range_succ, List.map_append]
  rfl
theorem mxP_length (K : List UInt8) (c : UInt8) (j : Nat) : (mxP K c j).length = j := by simp [mxP]
/-- The code. -/
def mcF (k b : List UInt8) : List UInt8 := s2L (mxP (kyL k) 92 136 ++ s2L (mxP (kyL k) 54 136 ++ b))
theorem mcF_length (k b : List UInt8) : (mcF k b).length = 32 := s2L_length _
theorem mxP_get (K : List UInt8) (c : UInt8) (j t : Nat) (h : t < j) : (mxP K c j).getD t 0 = K.getD t 0 ^^^ c := by simp [mxP, h]
/-- The three keys. -/
def k1F (ck b : List UInt8) : List UInt8 := mcF (mcF ck b) [1]
def k2F (ck b : List UInt8) : List UInt8 := mcF (mcF ck b) (k1F ck b ++ [2])
def k3F (ck b : List UInt8) : List UInt8 := mcF (mcF ck b) (k2F ck b ++ [3])
/-- Noughts behind a key change nothing. -/
theorem kyL_noughts (k : List UInt8) (n : Nat) (h : k.length + n ≤ 136) : kyL (k ++ List.replicate n 0) = kyL k := by
  have e1 : kyS (k ++ List.replicate n 0) = k ++ List.replicate n 0 := by
    unfold kyS
    rw [if_neg (by simp; omega)]
  have e2 : kyS k = k := by
    unfold kyS
    rw [if_neg (by omega)]
  unfold kyL
  rw [e1, e2, List.append_assoc, List.replicate_append_replicate]
  congr 2
  simp
  omega
theorem mcF_noughts (k b : List UInt8) (n : Nat) (h : k.length + n ≤ 136) : mcF (k ++ List.replicate n 0) b = mcF k b := by
  unfold mcF
  rw [kyL_noughts k n h]
/-- A longer key counts as its sum. -/
theorem mcF_long (k b : List UInt8) (h : 136 < k.length) : mcF k b = mcF (s2L k) b := by
  have e : kyL k = kyL (s2L k) := by
    have e1 : kyS k = s2L k := by unfold kyS; rw [if_pos h]
    have e2 : kyS (s2L k) = s2L k := by unfold kyS; rw [if_neg (by rw [s2L_length]; omega)]
    unfold kyL
    rw [e1, e2]
  unfold mcF
  rw [e]
end Go.Proofs.YtkoecgoajbgkgaaDoor

/- Noughts appended to an own row of bytes ('append(s, make([]byte, k)...)', which the model takes as one step). No program's text is named. -/
namespace Go.Proofs.YtkoecgoajbgkgaaDoor
open Go.ChangeShapes Go.WideShapes Go.ChangeAt Go.RowKit
set_option linter.unusedSimpArgs false
set_option linter.unusedVariables false

theorem zeroCells_u8 (m : Nat) : Builtin.zeroCells #[Value.int .u8 0] m = (List.replicate m (Value.int .u8 0)).toArray := by
  refine Array.ext (by simp [Builtin.zeroCells]) fun i h1 h2 => ?_
  simp [Builtin.zeroCells, Nat.mod_one]
theorem run_append_zeros {P : Program} (w : World) (base : Nat) (t tI ty e : TypeId) (i : TypeInfo) (ht : P.underlying t = some (.slice e)) (htI : P.underlying tI = some (.int .i64)) (hi : P.info? e = some i) (hz : i.zero = some (.int .u8 0)) (hs1 : i.size = 1) (hby : i.bytes = 1)
    (v : Value) (n : Nat) (xs : List Value) (hown : w.ownsRow base e 1 v n xs) (m : Nat) (hbytes : n + m ≤ 140737488355328) (hbase : base ≤ w.heap.size) :
    ∃ v' w', (Builtin.append_ #[t, tI] ty #[v, .int .i64 (m : Int)]).run P w = .ok v' w' ∧ w'.ownsRow base e 1 v' (n + m) (xs ++ List.replicate m (.int .u8 0)) ∧ w.grownBy w' v.ownBlock := by
  have hwr : IntKind.i64.wrap (m : Int) = (m : Int) := IntWalk.i64_in _ (by omega)
  have hneg : ¬ ((m : Int) < 0) := by omega
  have h48 : ¬ (281474976710656 < (m : Int)) := by omega
  have ha : ∀ W : World, (asInt (.int .i64 (m : Int))).run P W = .ok (m : Int) W := fun W => rfl
  have hcs : (Value.int .u8 0).cells = #[Value.int .u8 0] := rfl
  have hlen : (xs ++ List.replicate m (Value.int .u8 0)).length = (n + m) * 1 := by rw [List.length_append, hown.1, List.length_replicate]; omega
  have grown : ∀ (old : Nat), old < n + m → ∀ (row : Option Nat),
      (w.drew.alloc (.cells (xs.toArray ++ (List.replicate m (Value.int .u8 0)).toArray ++ Builtin.zeroCells #[Value.int .u8 0] (grownCap w (n + m) old e - (n + m))) e)).ownsRow base e 1
        (.slice (some ⟨w.heap.size, 0, none⟩) (n + m) (grownCap w (n + m) old e)) (n + m) (xs ++ List.replicate m (Value.int .u8 0)) ∧
      w.grownBy (w.drew.alloc (.cells (xs.toArray ++ (List.replicate m (Value.int .u8 0)).toArray ++ Builtin.zeroCells #[Value.int .u8 0] (grownCap w (n + m) old e - (n + m))) e)) row := by
    intro old ho row
    have hge := grownCap_ge w (n + m) old e
    have hcm : grownCap w (n + m) old e ≤ maxLen := grownCap_le_maxLen w (n + m) old e (by unfold maxLen; omega)
    have hx := hown.1
    refine ⟨⟨hlen, .inr ⟨w.heap.size, _, _, rfl, hbase, heap_alloc_new w.drew _, hge, hcm, ?_, ?_⟩⟩, ⟨rfl, rfl, rfl, by simp, fun k hk _ => by first | exact _root_.Go.heap_alloc_old w.drew _ k hk | exact heap_alloc_old w.drew _ hk⟩⟩
    · simp only [Array.size_append, List.size_toArray, size_zeroCells, List.length_replicate]
      simp
      omega
    · simp only [Array.toList_append, List.append_assoc]
      rw [← List.append_assoc, ← hlen]
      exact List.take_left
  by_cases hm : m = 0
  · subst hm
    refine ⟨v, w, ?_, by simpa using hown, ⟨rfl, rfl, rfl, Nat.le_refl _, fun _ _ _ => rfl⟩⟩
    have ha0 : ∀ W : World, (asInt (.int .i64 0)).run P W = .ok 0 W := fun W => rfl
    have hw0 : IntKind.i64.wrap 0 = 0 := by decide
    rcases hown.2 with ⟨rfl, rfl⟩ | ⟨g, cap, cur, rfl, hbg, hg, hnc, hcm, hcs2, htake⟩
    · simp [Builtin.append_, run_underlying ht, run_underlying htI, sizeOf, typeInfo, hi, hs1, hby, ha0, hw0]
    · simp [Builtin.append_, run_underlying ht, run_underlying htI, sizeOf, typeInfo, hi, hs1, hby, ha0, hw0, hnc, storeCells]
  · rcases hown.2 with ⟨rfl, rfl⟩ | ⟨g, cap, cur, rfl, hbg, hg, hnc, hcm, hcs2, htake⟩
    · have hx : xs = [] := List.eq_nil_of_length_eq_zero (by simpa using hown.1)
      subst hx
      have hgr := grown 0 (by omega) (Value.ownBlock (.slice none 0 0))
      simp only [Nat.zero_add, List.nil_append, Array.empty_append] at hgr ⊢
      refine ⟨_, _, ?_, hgr.1, hgr.2⟩
      have h63' : ¬ (9223372036854775807 < (m : Int)) := by omega
      have h48' : ¬ (281474976710656 < Builtin.nextslicecap m 0) := by rw [nextslicecap_zero (by omega)]; omega
      simp [Builtin.append_, run_underlying ht, run_underlying htI, sizeOf, typeInfo, zeroValue, hi, hz, hs1, hby, ha, hwr, hneg, h48, hm, h63', h48', Question.forced, run_firstCells_none, newRow, grownCap, hcs, zeroCells_u8]
    · by_cases hroom : n + m ≤ cap
      · have hfit : n + m ≤ cur.size := by omega
        have hst := run_storeCells_at P g n e (List.replicate m (Value.int .u8 0)) 0 cur w hg (by simpa using hfit) (by intro u hu; rw [List.eq_of_mem_replicate hu]; rfl)
        simp only [Nat.add_zero] at hst
        refine ⟨.slice (some ⟨g, 0, none⟩) (n + m) cap, w.setRow g (cur.toList.take n ++ List.replicate m (Value.int .u8 0) ++ cur.toList.drop (n + m)).toArray, ?_, ⟨hlen, .inr ⟨g, cap, _, rfl, hbg, setRow_heap w g cur _ e _ hg, hroom, hcm, ?_, ?_⟩⟩, ⟨rfl, rfl, rfl, by simp, fun k _ hk => setRow_other w g k _ (fun e => hk (by simp [Value.ownBlock, e]))⟩⟩
        · simp [Builtin.append_, run_underlying ht, run_underlying htI, sizeOf, typeInfo, zeroValue, hi, hz, hs1, hby, ha, hwr, hneg, h48, hm, hroom, Addr.add_lit, hcs, zeroCells_u8, hst]
        · simp only [List.size_toArray, List.length_append, List.length_take, List.length_drop, Array.length_toList, List.length_replicate]
          omega
        · simp only [Nat.mul_one] at htake hlen ⊢
          rw [htake, ← hlen]
          exact List.take_left
      · have holds : ∀ j u, xs[j]? = some u → w.cell? ((⟨g, 0, none⟩ : Addr).add j) = some u := hown.cells (g := g) rfl
        have hgr := grown cap (by omega) (Value.ownBlock (.slice (some ⟨g, 0, none⟩) n cap))
        refine ⟨_, _, ?_, hgr.1, hgr.2⟩
        have h63' : ¬ (9223372036854775807 < ((n : Int) + (m : Int))) := by omega
        have h48' : ¬ (281474976710656 < Builtin.nextslicecap (n + m) cap) := by
          have := growslice_fits (need := n + m) (old := cap) (bytes := 1) (by omega) (by omega)
          omega
        have hfo := run_firstCells_some (P := P) w.drew 1 n ⟨g, 0, none⟩ n cap xs hown.1 (by simpa using holds)
        simp [Builtin.append_, run_underlying ht, run_underlying htI, sizeOf, typeInfo, zeroValue, hi, hz, hs1, hby, ha, hwr, hneg, h48, hm, hroom, h63', h48', Question.forced, hfo, newRow, grownCap, hcs, zeroCells_u8]
/-- Noughts appended to a row of the call's own. -/
theorem wpList_append_zeros {P : Program} {w wr : World} {ops : Array Oper} {rest : List Oper} {o : Oper} {a : Act} {Q : Exit → Act → World → Prop} (hg : o.guard = none) (s x : Operand) (t tI : TypeId)
    (ho : o.op = .call { callee := .builtin .append, args := #[s, x], argTypes := #[t, tI] }) (e : TypeId) (ht : P.underlying t = some (.slice e)) (htI : P.underlying tI = some (.int .i64))
    (hinfo : (P.info? e).map (fun i => (i.zero, i.size, i.bytes)) = some (some (.int .u8 0), 1, 1)) (v : Value) (l : List UInt8) (hs : a.eval s = v) (hN : New e w v l wr) (m : Nat) (hx : a.eval x = .int .i64 (m : Int)) (hlen : l.length + m ≤ 140737488355328)
    (h : ∀ v' w', New e w v' (l ++ List.replicate m 0) w' → wpList P ops Q rest (a.put o.dst v') w') : wpList P ops Q (o :: rest) a wr := by
  obtain ⟨i, hi, hz0, hz1, hz2⟩ := info_parts hinfo
  obtain ⟨v', w', hr, r2, r3⟩ := run_append_zeros (P := P) wr w.heap.size t tI o.type e i ht htI hi hz0 hz1 hz2 v l.length _ hN.1 m hlen hN.2.size
  refine wpList_plain hg fun K hK => ?_
  unfold Oper.wp execOp
  simp only [ho, resolve, invoke, builtin, Sem.run_bind, Sem.run_pure, Result.andThen_ok, List.map_toArray, List.map_cons, List.map_nil, hs, hx, hr]
  refine hK _ _ (h v' w' ⟨?_, hN.2.grown r3 hN.2.size fun k hk => (hN.1.lt k hk).1⟩)
  have e1 : (l ++ List.replicate m (0 : UInt8)).map bv = l.map bv ++ List.replicate m (Value.int .u8 0) := by simp [bv]
  rw [e1, List.length_append, List.length_replicate]
  exact r2
end Go.Proofs.YtkoecgoajbgkgaaDoor

/- A region whose order is open, walked once, where only what was there at an earlier moment is known to stay. No program's text is named. -/
namespace Go.Proofs.YtkoecgoajbgkgaaDoor
set_option linter.unusedSimpArgs false
set_option linter.unusedVariables false
open Go.RowKit

section
variable {P : Program} {ops : Array Oper} {Q : Exit → Act → World → Prop} {md : Region.Mode}
theorem wpB_begin {w0 : World} {id : Nat} {a : Act} {w : World} (hb : Below w0.heap.size w0 w) (hm : P.follows .mixedOrders = true)
    (h : wpB P .any ops (NoPanic Q) w0 ops.size (Array.replicate ops.size false) a w.drew) : (Code.region id ops true).wp P Q a w :=
  wp_region_noPanic (wp_region_held hm h)
theorem wpB_done {w0 : World} {fuel : Nat} {listed : Array Bool} {a : Act} {w : World} (hr : Region.ready md ops listed = []) (h : Q .normal a w) : wpB P md ops (NoPanic Q) w0 fuel listed a w :=
  wpAnyH_done (Q := NoPanic Q) hr h fuel
end
end Go.Proofs.YtkoecgoajbgkgaaDoor
