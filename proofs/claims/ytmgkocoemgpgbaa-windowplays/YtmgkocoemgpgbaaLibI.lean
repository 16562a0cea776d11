/- Rows of numbers of any kind in memory as lists of numbers: what a slice reads as, how that lasts, new rows, rows that are filled. No program's text is named. -/
import Derived.WalkKit
import Derived.ProofKit
import Derived.OpenShut
import Derived.Below
import Derived.Handy
import Derived.Laws.AppendOwnNone
import Derived.Laws.CopyOwn
namespace Go.Proofs.Ytmgkocoemgpgbaa
set_option linter.unusedSimpArgs false
set_option linter.unusedVariables false
open Go.ChangeShapes Go.WideShapes Go.ChangeAt Go.RowKit

/-- The slice v reads as the numbers l of kind k. -/
def RdI (k : IntKind) (w : World) (v : Value) (l : List Int) : Prop :=
  ∃ a cap, v = .slice a l.length cap ∧ l.length ≤ cap ∧ cap ≤ maxLen ∧ (a = none → cap = 0) ∧
    (l = [] ∨ ∃ b off, a = some ⟨b, off, none⟩ ∧ ∀ i, i < l.length → w.cell? ⟨b, off + i, none⟩ = some (.int k (l.getD i 0)))

theorem RdI.kept {k : IntKind} {w w' : World} {v : Value} {l : List Int} (h : RdI k w v l) (hb : Below w.heap.size w w') : RdI k w' v l := by
  obtain ⟨a, cap, h1, h2, h3, h4, h5⟩ := h
  refine ⟨a, cap, h1, h2, h3, h4, h5.imp id ?_⟩
  rintro ⟨b, off, e, hc⟩
  refine ⟨b, off, e, fun i hi => ?_⟩
  have := hc i hi
  rw [hb.cell (p := ⟨b, off + i, none⟩) (World.block_lt_of_cell? w _ this)]
  exact this
theorem RdI.drew {k : IntKind} {w : World} {v : Value} {l : List Int} (h : RdI k w v l) : RdI k w.drew v l := h.kept (Below.refl _ _).drew
theorem RdI.of_row {k : IntKind} {w : World} {base : Nat} {e : TypeId} {v : Value} {l : List Int} (h : w.ownsRow base e 1 v l.length (l.map (Value.int k))) : RdI k w v l := by
  rcases h.2 with ⟨rfl, h0⟩ | ⟨g, cap, cur, rfl, hb, hg, hn, hm, hs, ht⟩
  · have : l = [] := List.eq_nil_of_length_eq_zero h0
    subst this
    exact ⟨none, 0, rfl, by simp, by simp, fun _ => rfl, .inl rfl⟩
  · refine ⟨_, cap, rfl, hn, hm, (fun h => by cases h), .inr ⟨g, 0, rfl, fun i hi => ?_⟩⟩
    have := h.cellAt i (by simpa using hi)
    simp [hi] at this
    simp [this, hi]
theorem RdI.nil (k : IntKind) (w : World) : RdI k w (.slice none 0 0) [] := ⟨none, 0, rfl, by simp, by simp, fun _ => rfl, .inl rfl⟩
theorem RdI.cellAt {k : IntKind} {w : World} {v : Value} {l : List Int} (h : RdI k w v l) {i : Nat} (hi : i < l.length) :
    ∃ b off cap, v = .slice (some ⟨b, off, none⟩) l.length cap ∧ l.length ≤ cap ∧ w.cell? ⟨b, off + i, none⟩ = some (.int k (l.getD i 0)) ∧ b < w.heap.size := by
  obtain ⟨a, cap, rfl, h2, h3, h4, h5⟩ := h
  rcases h5 with rfl | ⟨b, off, rfl, hc⟩
  · simp at hi
  · exact ⟨b, off, cap, rfl, h2, hc i hi, World.block_lt_of_cell? w _ (hc i hi)⟩
/-- All cells of what is not empty. -/
theorem RdI.cells {k : IntKind} {w : World} {v : Value} {l : List Int} (h : RdI k w v l) (hl : l ≠ []) :
    ∃ b off cap, v = .slice (some ⟨b, off, none⟩) l.length cap ∧ l.length ≤ cap ∧ cap ≤ maxLen ∧ b < w.heap.size ∧ ∀ i, i < l.length → w.cell? ⟨b, off + i, none⟩ = some (.int k (l.getD i 0)) := by
  obtain ⟨a, cap, rfl, h2, h3, h4, h5⟩ := h
  rcases h5 with rfl | ⟨b, off, rfl, hc⟩
  · exact absurd rfl hl
  · exact ⟨b, off, cap, rfl, h2, h3, World.block_lt_of_cell? w _ (hc 0 (List.length_pos_iff.2 hl)), hc⟩

/-- What a call that makes a new row says of it. -/
def NewI (k : IntKind) (e : TypeId) (w : World) (v : Value) (l : List Int) (w' : World) : Prop :=
  w'.ownsRow w.heap.size e 1 v l.length (l.map (Value.int k)) ∧ Below w.heap.size w w'
theorem NewI.rd {k : IntKind} {e : TypeId} {w w' : World} {v : Value} {l : List Int} (h : NewI k e w v l w') : RdI k w' v l := RdI.of_row h.1
theorem NewI.start {k : IntKind} {e : TypeId} (w : World) : NewI k e w (.slice none 0 0) [] w := ⟨World.ownsRow_nil _ _ _ _, Below.refl _ _⟩
theorem NewI.alloc {k : IntKind} {e : TypeId} {w wr : World} {v : Value} {l : List Int} (h : NewI k e w v l wr) (o : Obj) : NewI k e w v l (wr.alloc o) := ⟨h.1.alloc o, h.2.alloc h.2.size o⟩
theorem NewI.drew {k : IntKind} {e : TypeId} {w wr : World} {v : Value} {l : List Int} (h : NewI k e w v l wr) : NewI k e w v l wr.drew := ⟨h.1.drew, h.2.drew⟩
/-- The row is the call's own still, behind whatever grew. -/
theorem NewI.kept {k : IntKind} {e : TypeId} {w wr w2 : World} {v : Value} {l : List Int} (h : NewI k e w v l wr) (hb : Below wr.heap.size wr w2) : NewI k e w v l w2 := by
  refine ⟨⟨h.1.1, h.1.2.imp id ?_⟩, h.2.trans (hb.mono h.2.size)⟩
  rintro ⟨g, cap, cur, h1, h2, h3, h4⟩
  refine ⟨g, cap, cur, h1, h2, ?_, h4⟩
  rw [hb.block g (Array.getElem?_eq_some_iff.1 h3).1, h3]
theorem NewI.lit {k : IntKind} {w : World} {e : TypeId} (l : List Int) {cs : Array Value} {n b : Nat} (h : cs = (l.map (Value.int k)).toArray) (hn : n = l.length) (hb : b = w.heap.size) (hm : l.length ≤ maxLen) :
    NewI k e w (.slice (some ⟨b, 0, none⟩) n n) l (w.alloc (.cells cs e)) := by
  subst h hn hb
  exact ⟨World.ownsRow_lit w (l.map (Value.int k)).toArray l.length (Nat.le_refl _) hm (by simp), (Below.refl _ _).alloc (Nat.le_refl _) _⟩
theorem NewI.made {k : IntKind} {e : TypeId} {w w1 : World} {n : Nat} (hown : w1.ownsRow w.heap.size e 1 (.slice (some ⟨w.heap.size, 0, none⟩) n n) n (madeCells #[.int k 0] n).toList) (hgr : w.grownBy w1 none) :
    NewI k e w (.slice (some ⟨w.heap.size, 0, none⟩) n n) (List.replicate n 0) w1 := by
  rw [toList_madeCells_one] at hown
  exact ⟨by simpa using hown, (Below.refl _ _).grown hgr (Nat.le_refl _) (by simp)⟩
/-- A place of a row of the call's own: what it holds, that it may be written, and what the row is then. -/
theorem NewI.at {k : IntKind} {e : TypeId} {w wr : World} {v : Value} {l : List Int} (h : NewI k e w v l wr) {j : Nat} (hj : j < l.length) :
    ∃ g cap, v = .slice (some ⟨g, 0, none⟩) l.length cap ∧ w.heap.size ≤ g ∧ l.length ≤ cap ∧ wr.cell? ⟨g, j, none⟩ = some (.int k (l.getD j 0)) ∧ wr.frozen? ⟨g, j, none⟩ = false ∧
      ∀ x : Int, NewI k e w v (l.set j x) (wr.setCell ⟨g, j, none⟩ (.int k x)) := by
  rcases h.1.2 with ⟨h', h0⟩ | ⟨g, cap, cur, h', hb, hg, hn, hm, hs, ht⟩
  · omega
  · subst h'
    refine ⟨g, cap, rfl, hb, hn, ?_, h.1.frozenAt j, fun x => ⟨?_, h.2.setCell hb _⟩⟩
    · rw [h.1.cellAt j (by simpa using hj)]
      simp [hj]
    · have h1 := (h.1.stored j (.int k x)).1
      rw [List.length_set, List.map_set]
      exact h1
/-- All places of a row of the call's own. -/
theorem NewI.all {k : IntKind} {e : TypeId} {w wr : World} {v : Value} {l : List Int} (h : NewI k e w v l wr) (hl : l ≠ []) :
    ∃ g cap, v = .slice (some ⟨g, 0, none⟩) l.length cap ∧ w.heap.size ≤ g ∧ g < wr.heap.size ∧ l.length ≤ cap ∧ cap ≤ maxLen ∧ (∀ j, j < l.length → wr.cell? ⟨g, j, none⟩ = some (.int k (l.getD j 0))) ∧ (∀ j, wr.frozen? ⟨g, j, none⟩ = false) ∧
      ∀ (j : Nat) (x : Int), NewI k e w v (l.set j x) (wr.setCell ⟨g, j, none⟩ (.int k x)) := by
  have hpos : 0 < l.length := List.length_pos_iff.2 hl
  rcases h.1.2 with ⟨h', h0⟩ | ⟨g, cap, cur, h', hb, hg, hn, hm, hs, ht⟩
  · omega
  · subst h'
    refine ⟨g, cap, rfl, hb, (Array.getElem?_eq_some_iff.1 hg).1, hn, hm, fun j hj => ?_, fun j => h.1.frozenAt j, fun j x => ⟨?_, h.2.setCell hb _⟩⟩
    · rw [h.1.cellAt j (by simpa using hj)]
      simp [hj]
    · have h1 := (h.1.stored j (.int k x)).1
      rw [List.length_set, List.map_set]
      exact h1
theorem NewI.append {k : IntKind} {e : TypeId} {w wr w2 : World} {v v' : Value} {l l2 : List Int} {m : Nat} {news : List Value} (h : NewI k e w v l wr) (hown : w2.ownsRow w.heap.size e 1 v' (l.length + m) (l.map (Value.int k) ++ news))
    (hg : wr.grownBy w2 v.ownBlock) (hn : news = l2.map (Value.int k)) (hm : m = l2.length) : NewI k e w v' (l ++ l2) w2 := by
  subst hn hm
  refine ⟨by simpa using hown, h.2.grown hg h.2.size fun k hk => (h.1.lt k hk).1⟩

/-- Appending to the call's own row whatever reads as numbers. -/
theorem wp_append_newI {k : IntKind} {P : Program} {w wr : World} {o : Oper} {a : Act} {K : Act → World → Prop} {Q : Exit → Act → World → Prop} (s x : Operand) (t : TypeId)
    (ho : o.op = .call { callee := .builtin .append, args := #[s, x], argTypes := #[t, t] }) (e : TypeId) (ht : P.underlying t = some (.slice e)) (bytes : Nat)
    (hinfo : (P.info? e).map (fun i => (i.zero, i.size, i.bytes)) = some (some (.int k 0), 1, bytes)) (v : Value) (l : List Int) (hs : a.eval s = v) (hN : NewI k e w v l wr)
    (vx : Value) (l2 : List Int) (hx : a.eval x = vx) (hR : RdI k wr vx l2) (hlen : (l.length + l2.length) * bytes ≤ 140737488355328) (hlen2 : l.length + l2.length ≤ 140737488355328)
    (h : ∀ v' w', NewI k e w v' (l ++ l2) w' → wr.grownBy w' v.ownBlock → K (a.put o.dst v') w') : o.wp P a wr K Q := by
  obtain ⟨i, hi, hz0, hz1, hz2⟩ := info_parts hinfo
  obtain ⟨ax, cap, rfl, h2, h3, h4, h5⟩ := hR
  cases ax with
  | none =>
    have h0 := h4 rfl
    subst h0
    have hl2 : l2 = [] := List.eq_nil_of_length_eq_zero (by omega)
    subst hl2
    have hrun := run_append_owned_none (P := P) (w := wr) w.heap.size t o.type e i 1 ht hi v l.length _ hN.1
    have hx' : a.eval x = .slice none 0 0 := hx
    unfold Oper.wp
    simp [execOp, ho, resolve, invoke, builtin, hs, hx', hrun, Result.andThen]
    exact h v wr (by simpa using hN) (World.grownBy.refl _ _)
  | some ad =>
    refine wp_append_own wr s x t ho w.heap.size e i _ 1 bytes ht hi hz0 hz1 hz2 rfl (by decide) v _ _ hs hN.1 ad l2.length cap (l2.map (Value.int k)) hx (by simp) ?_ (ints_oneCell k l2) (by unfold maxLen; omega) (by simpa using hlen) hN.2.size ?_
    · intro j u hj
      have hjl : j < l2.length := by
        rcases Nat.lt_or_ge j l2.length with h | h
        · exact h
        · simp [List.getElem?_eq_none h] at hj
      rcases h5 with rfl | ⟨b, off, e1, hc⟩
      · simp at hjl
      · simp only [Option.some.injEq] at e1
        subst e1
        have hplain : (⟨b, off, none⟩ : Addr).add j = ⟨b, off + j, none⟩ := by unfold Addr.add; split <;> simp_all
        rw [hplain, hc j hjl]
        simp [List.getElem?_eq_getElem hjl] at hj
        subst hj
        simp [hjl]
    · intro v' w' r1 r2 _
      exact h v' w' (hN.append r1 r2 rfl rfl) r2
theorem wpList_append_newI {k : IntKind} {P : Program} {w wr : World} {ops : Array Oper} {rest : List Oper} {o : Oper} {a : Act} {Q : Exit → Act → World → Prop} (hg : o.guard = none) (s x : Operand) (t : TypeId)
    (ho : o.op = .call { callee := .builtin .append, args := #[s, x], argTypes := #[t, t] }) (e : TypeId) (ht : P.underlying t = some (.slice e)) (bytes : Nat)
    (hinfo : (P.info? e).map (fun i => (i.zero, i.size, i.bytes)) = some (some (.int k 0), 1, bytes)) (v : Value) (l : List Int) (hs : a.eval s = v) (hN : NewI k e w v l wr)
    (vx : Value) (l2 : List Int) (hx : a.eval x = vx) (hR : RdI k wr vx l2) (hlen : (l.length + l2.length) * bytes ≤ 140737488355328) (hlen2 : l.length + l2.length ≤ 140737488355328)
    (h : ∀ v' w', NewI k e w v' (l ++ l2) w' → wr.grownBy w' v.ownBlock → wpList P ops Q rest (a.put o.dst v') w') : wpList P ops Q (o :: rest) a wr :=
  wpList_plain hg fun _ hK => wp_append_newI s x t ho e ht bytes hinfo v l hs hN vx l2 hx hR hlen hlen2 fun v' w' h1 h2 => hK _ _ (h v' w' h1 h2)

/-- Copying onto a whole row of the call's own what reads as as many numbers. -/
theorem wpList_copy_newI {k : IntKind} {P : Program} {w wr : World} {ops : Array Oper} {rest : List Oper} {o : Oper} {a : Act} {Q : Exit → Act → World → Prop} (hg : o.guard = none) (d s : Operand) (t : TypeId)
    (ho : o.op = .call { callee := .builtin .copy, args := #[d, s], argTypes := #[t, t] }) (e : TypeId) (ht : P.underlying t = some (.slice e)) (hsz : (P.info? e).map (·.size) = some 1)
    (v : Value) (l : List Int) (hs : a.eval d = v) (hN : NewI k e w v l wr) (vx : Value) (l2 : List Int) (hx : a.eval s = vx) (hR : RdI k wr vx l2) (hlen : l2.length = l.length) (hne : l ≠ [])
    (h : ∀ w', NewI k e w v l2 w' → wpList P ops Q rest (a.put o.dst (goInt l2.length)) w') : wpList P ops Q (o :: rest) a wr := by
  have hpos : 0 < l.length := List.length_pos_iff.2 hne
  have hne2 : l2 ≠ [] := by intro h; rw [h] at hlen; simp at hlen; omega
  obtain ⟨b, off, cap2, rfl, h2, h3, h4, hc⟩ := hR.cells hne2
  rcases hN.1.2 with ⟨h', h0⟩ | ⟨g, cap, cur, rfl, hb, hgh, hn, hm, hss, htk⟩
  · omega
  · have hcl : (l2.map (Value.int k)).length = Nat.min l2.length l.length := by simp [hlen]
    have hsz2 : cur.size = cap := by simpa using hss
    refine wpList_copy_own hg d s t t ho e ht hsz g 0 l.length cap ⟨b, off, none⟩ l2.length cap2 hs hx cur e hgh (l2.map (Value.int k)) hcl ?_ (by simp; omega) (ints_oneCell k l2) ?_
    · intro j u hj
      have hjl : j < l2.length := by
        rcases Nat.lt_or_ge j l2.length with h | h
        · exact h
        · simp [List.getElem?_eq_none h] at hj
      have hplain : (⟨b, off, none⟩ : Addr).add j = ⟨b, off + j, none⟩ := by unfold Addr.add; split <;> simp_all
      rw [hplain, hc j hjl]
      simp [List.getElem?_eq_getElem hjl] at hj
      subst hj
      simp [hjl]
    · simp only [List.length_map]
      refine h _ ⟨⟨by simp, .inr ⟨g, cap, _, by rw [hlen], hb, setRow_heap wr g cur _ e _ hgh, by omega, hm, by simp; omega, by simp [List.take_append]⟩⟩, below_setRow hN.2 hb _⟩

/-- Block g holds a row whose first places are these numbers; it may be written. -/
structure RowAt (k : IntKind) (e : TypeId) (g cap : Nat) (l : List Int) (w : World) : Prop where
  own : w.ownsRow g e 1 (.slice (some ⟨g, 0, none⟩) l.length cap) l.length (l.map (Value.int k))
  lt : g < w.heap.size
theorem RowAt.cap {k : IntKind} {e : TypeId} {g cap : Nat} {l : List Int} {w : World} (h : RowAt k e g cap l w) : l.length ≤ cap ∧ cap ≤ maxLen := by
  rcases h.own.2 with ⟨h', _⟩ | ⟨g', cap', cur, h', _, _, hn, hm, _⟩
  · simp at h'
  · simp only [Value.slice.injEq, Option.some.injEq, Addr.mk.injEq, and_true, true_and] at h'
    obtain ⟨rfl, rfl⟩ := h'
    exact ⟨hn, hm⟩
theorem RowAt.cell {k : IntKind} {e : TypeId} {g cap : Nat} {l : List Int} {w : World} (h : RowAt k e g cap l w) {j : Nat} (hj : j < l.length) : w.cell? ⟨g, j, none⟩ = some (.int k (l.getD j 0)) := by
  rw [h.own.cellAt j (by simpa using hj)]
  simp [hj]
theorem RowAt.free {k : IntKind} {e : TypeId} {g cap : Nat} {l : List Int} {w : World} (h : RowAt k e g cap l w) (j : Nat) : w.frozen? ⟨g, j, none⟩ = false := h.own.frozenAt j
theorem RowAt.set {k : IntKind} {e : TypeId} {g cap : Nat} {l : List Int} {w : World} (h : RowAt k e g cap l w) (j : Nat) (x : Int) : RowAt k e g cap (l.set j x) (w.setCell ⟨g, j, none⟩ (.int k x)) := by
  have h1 := (h.own.stored j (.int k x)).1
  refine ⟨?_, by simpa using h.lt⟩
  rw [List.length_set, List.map_set]
  exact h1
theorem RowAt.of_block {k : IntKind} {e : TypeId} {g cap : Nat} {l : List Int} {w w' : World} (h : RowAt k e g cap l w) (hb : w'.heap[g]? = w.heap[g]?) (hs : w.heap.size ≤ w'.heap.size) : RowAt k e g cap l w' := by
  refine ⟨⟨h.own.1, h.own.2.imp id ?_⟩, Nat.lt_of_lt_of_le h.lt hs⟩
  rintro ⟨g', cap', cur, h1, h2, h3, h4⟩
  have hg : g = g' := by
    simp only [Value.slice.injEq, Option.some.injEq, Addr.mk.injEq, and_true, true_and] at h1
    exact h1.1
  subst hg
  exact ⟨g, cap', cur, h1, h2, by rw [hb]; exact h3, h4⟩
theorem RowAt.other {k : IntKind} {e : TypeId} {g cap : Nat} {l : List Int} {w : World} (h : RowAt k e g cap l w) {p : Addr} (hp : p.block ≠ g) (u : Value) : RowAt k e g cap l (w.setCell p u) :=
  h.of_block (Below.heap_setCell w p u g (Ne.symm hp)) (by simp)
theorem RowAt.kept {k : IntKind} {e : TypeId} {g cap : Nat} {l : List Int} {w w' : World} (h : RowAt k e g cap l w) (hb : Below w.heap.size w w') : RowAt k e g cap l w' := h.of_block (hb.block g h.lt) hb.size
theorem RowAt.drew {k : IntKind} {e : TypeId} {g cap : Nat} {l : List Int} {w : World} (h : RowAt k e g cap l w) : RowAt k e g cap l w.drew := h.kept (Below.refl _ _).drew
theorem RowAt.rd {k : IntKind} {e : TypeId} {g cap : Nat} {l : List Int} {w : World} (h : RowAt k e g cap l w) : RdI k w (.slice (some ⟨g, 0, none⟩) l.length cap) l := RdI.of_row h.own
theorem NewI.row {k : IntKind} {e : TypeId} {w wr : World} {v : Value} {l : List Int} (h : NewI k e w v l wr) (hl : l ≠ []) :
    ∃ g cap, v = .slice (some ⟨g, 0, none⟩) l.length cap ∧ w.heap.size ≤ g ∧ RowAt k e g cap l wr := by
  have hpos : 0 < l.length := List.length_pos_iff.2 hl
  rcases h.1.2 with ⟨h', h0⟩ | ⟨g, cap, cur, h', hb, hg, hn, hm, hs, ht⟩
  · omega
  · exact ⟨g, cap, h', hb, ⟨⟨by simp, .inr ⟨g, cap, cur, rfl, Nat.le_refl _, hg, hn, hm, hs, by simpa using ht⟩⟩, (Array.getElem?_eq_some_iff.1 hg).1⟩⟩
theorem RowAt.new {k : IntKind} {e : TypeId} {g cap : Nat} {l : List Int} {w wr : World} (h : RowAt k e g cap l wr) (hg : w.heap.size ≤ g) (hb : Below w.heap.size w wr) : NewI k e w (.slice (some ⟨g, 0, none⟩) l.length cap) l wr := by
  refine ⟨⟨h.own.1, h.own.2.imp id ?_⟩, hb⟩
  rintro ⟨g', cap', cur, h1, h2, h3⟩
  exact ⟨g', cap', cur, h1, by
    simp only [Value.slice.injEq, Option.some.injEq, Addr.mk.injEq, and_true, true_and] at h1
    omega, h3⟩

theorem growB {w : World} (o : Obj) : Below w.heap.size w (w.alloc o) := (Below.refl _ _).alloc (Nat.le_refl _) o
theorem stepB {w w1 w2 : World} (h1 : Below w.heap.size w w1) (h2 : Below w1.heap.size w1 w2) : Below w.heap.size w w2 := h1.trans (h2.mono h1.size)
theorem retI {k : IntKind} {a b : Int} (h : a = b) : Ending.returned (.int k a) = .returned (.int k b) := by rw [h]
theorem valI {k : IntKind} {a b : Int} (h : a = b) : Value.int k a = .int k b := by rw [h]
theorem RdI.take {k : IntKind} {w : World} {a : Option Addr} {len cap : Nat} {l : List Int} (h : RdI k w (.slice a len cap) l) {n : Nat} (hn : n ≤ len) : RdI k w (.slice a n cap) (l.take n) := by
  obtain ⟨a', cap', e, h2, h3, h4, h5⟩ := h
  simp only [Value.slice.injEq] at e
  obtain ⟨rfl, rfl, rfl⟩ := e
  have hl : (l.take n).length = n := by simp; omega
  refine ⟨a, cap, by rw [hl], by rw [hl]; omega, h3, h4, ?_⟩
  rcases h5 with rfl | ⟨b, off, e, hc⟩
  · exact .inl (by simp)
  · refine .inr ⟨b, off, e, fun i hi => ?_⟩
    rw [hl] at hi
    rw [hc i (by omega)]
    simp [hi]

/-- A slice's length. -/
def sLen : Value → Nat
  | .slice _ n _ => n
  | _ => 0
end Go.Proofs.Ytmgkocoemgpgbaa
