/- Rows of elements of several cells: parts of them, and appended to one's own. No program's text is named. -/
import Derived.Test.YtkljklfejaojaaaRowE
namespace Go.Proofs.Ytkljklfejaojaaa
open Go.ChangeShapes Go.WideShapes Go.ChangeAt Go.RowKit
set_option linter.unusedSimpArgs false
set_option linter.unusedVariables false

theorem RdE.take {w : World} {a : Option Addr} {m c sz n k : Nat} {xs : List Value} (h : RdE w (.slice a m c) sz n xs) (hk : k ≤ n) : RdE w (.slice a k c) sz k (xs.take (k * sz)) := by
  obtain ⟨hl, a', c', e1, h2, h3, h5⟩ := h
  simp only [Value.slice.injEq] at e1
  obtain ⟨rfl, rfl, rfl⟩ := e1
  have hm := Nat.mul_le_mul_right sz hk
  refine ⟨by rw [List.length_take, hl]; omega, a, c, rfl, by omega, h3, ?_⟩
  rcases h5 with h | ⟨b, off, e2, hc⟩
  · left
    rw [h]
    simp
  · right
    refine ⟨b, off, e2, fun i hi => ?_⟩
    rw [List.length_take] at hi
    rw [hc i (by omega), List.getElem?_take, if_pos (by omega)]
theorem RdE.drop {w : World} {b off m c sz n k : Nat} {xs : List Value} (h : RdE w (.slice (some ⟨b, off, none⟩) m c) sz n xs) (hk : k ≤ n) : RdE w (.slice (if c = k then some ⟨b, off, none⟩ else some ⟨b, off + k * sz, none⟩) (n - k) (c - k)) sz (n - k) (xs.drop (k * sz)) := by
  obtain ⟨hl, a', c', e1, h2, h3, h5⟩ := h
  simp only [Value.slice.injEq] at e1
  obtain ⟨rfl, rfl, rfl⟩ := e1
  have hm := Nat.mul_le_mul_right sz hk
  refine ⟨by rw [List.length_drop, hl, Nat.sub_mul], _, _, rfl, by omega, by omega, ?_⟩
  by_cases hck : c = k
  · left
    refine List.eq_nil_of_length_eq_zero ?_
    rw [List.length_drop, hl, ← Nat.sub_mul, show m - k = 0 by omega, Nat.zero_mul]
  rw [if_neg hck]
  rcases h5 with h | ⟨b2, off2, e2, hc⟩
  · left
    rw [h]
    simp
  · right
    simp only [Option.some.injEq, Addr.mk.injEq, and_true] at e2
    obtain ⟨rfl, rfl⟩ := e2
    refine ⟨b, off + k * sz, rfl, fun i hi => ?_⟩
    rw [List.length_drop] at hi
    rw [List.getElem?_drop, Nat.add_assoc, hc (k * sz + i) (by omega)]
theorem run_append_none18 {P : Program} {w : World} (base : Nat) (t ty e : TypeId) (i : TypeInfo) (size cap : Nat) (ht : P.underlying t = some (.slice e)) (hi : P.info? e = some i)
    (v : Value) (n : Nat) (xs : List Value) (hown : w.ownsRow base e size v n xs) : (Builtin.append_ #[t, t] ty #[v, .slice none 0 cap]).run P w = .ok v w := by
  rcases hown.2 with ⟨rfl, rfl⟩ | ⟨g, cap, cur, rfl, _, _, hnc, _⟩
  · simp [Builtin.append_, run_underlying ht, sizeOf, typeInfo, hi, Builtin.lenOf, Builtin.firstCells]
  · simp [Builtin.append_, run_underlying ht, sizeOf, typeInfo, hi, Builtin.lenOf, Builtin.firstCells, hnc, storeCells]
/-- Elements of several cells, some or none, are appended to the first row. -/
theorem wpList_append_R {P : Program} {w0 wr : World} {L : List Rw} {ops : Array Oper} {rest : List Oper} {o : Oper} {a : Act} {Q : Exit → Act → World → Prop} (hg : o.guard = none) (s x : Operand) (t : TypeId)
    (ho : o.op = .call { callee := .builtin .append, args := #[s, x], argTypes := #[t, t] }) (e : TypeId) (i : TypeInfo) (z : Value) (size bytes : Nat) (ht : P.underlying t = some (.slice e)) (hi : P.info? e = some i) (hz : i.zero = some z)
    (hsize : i.size = size) (hby : i.bytes = bytes) (hzs : z.cells.size = size) (hsz : 0 < size) (v : Value) (n : Nat) (xs : List Value) (hs : a.eval s = v) (hO : OwnG w0 (⟨e, size, v, n, xs⟩ :: L) wr)
    (vx : Value) (m : Nat) (ys : List Value) (hx : a.eval x = vx) (hR : RdE wr vx size m ys) (h1 : ∀ u ∈ ys, u.oneCell' = true) (h63 : n + m ≤ maxLen) (hbytes : (n + m) * bytes ≤ 140737488355328)
    (h : ∀ v' w', OwnG w0 (⟨e, size, v', n + m, xs ++ ys⟩ :: L) w' → Chg (fun b => some b = v.ownBlock) wr w' → wpList P ops Q rest (a.put o.dst v') w') : wpList P ops Q (o :: rest) a wr := by
  obtain ⟨hl, ax, cap, rfl, h2, h3, h5⟩ := hR
  cases ax with
  | none =>
    have hl2 : ys = [] := by
      rcases h5 with h | ⟨_, _, h, _⟩
      · exact h
      · cases h
    subst hl2
    have hm : m = 0 := by
      rcases Nat.eq_zero_or_pos m with h | h
      · exact h
      · have := Nat.mul_pos h hsz
        simp at hl
        omega
    subst hm
    refine wpList_plain hg fun K hK => ?_
    have hrun := run_append_none18 (P := P) (w := wr) w0.heap.size t o.type e i size cap ht hi v n _ (hO.rows _ (List.mem_cons_self ..))
    have hx' : a.eval x = .slice none 0 cap := hx
    unfold Oper.wp
    simp [execOp, ho, resolve, invoke, builtin, hs, hx', hrun, Result.andThen]
    exact hK _ _ (h v wr (by simpa using hO) (Chg.refl _ _))
  | some ad =>
    refine wpList_append_E hg s x t ho e i z size bytes ht hi hz hsize hby hzs hsz v n xs hs hO ad m cap ys hx hl (fun j u hj => ?_) h1 h63 hbytes h
    have hjl : j < ys.length := by
      rcases Nat.lt_or_ge j ys.length with h | h
      · exact h
      · simp [List.getElem?_eq_none h] at hj
    rcases h5 with rfl | ⟨b, off, e1, hc⟩
    · simp at hjl
    · simp only [Option.some.injEq] at e1
      subst e1
      have hplain : (⟨b, off, none⟩ : Addr).add j = ⟨b, off + j, none⟩ := by unfold Addr.add; split <;> simp_all
      rw [hplain, hc j hjl]
      exact hj
/-- A slice of one element. -/
theorem wpList_build18 {P : Program} {ops : Array Oper} {rest : List Oper} {op : Oper} {a : Act} {w : World} {Q : Exit → Act → World → Prop} (hgd : op.guard = none) (t : TypeId) (x : Operand) (ho : op.op = .buildSlice t 1 #[(0, x)])
    (V : Value) (hx : a.eval x = V) (e : TypeId) (cs : List Value) (hrun : (Instr.buildSlice t 1 #[(0, V)]).run P w = .ok (.slice (some ⟨w.heap.size, 0, none⟩) 1 1) (w.alloc (.cells cs.toArray e)))
    (h : ∀ w', BlkAt w.heap.size e cs w' → Below w.heap.size w w' → wpList P ops Q rest (a.put op.dst (.slice (some ⟨w.heap.size, 0, none⟩) 1 1)) w') : wpList P ops Q (op :: rest) a w := by
  refine wpList_plain hgd fun K hK => ?_
  unfold Oper.wp execOp
  simp only [ho, List.map_toArray, List.map_cons, List.map_nil, hx, Sem.run_bind, hrun, Result.andThen_ok, Sem.run_pure]
  exact hK _ _ (h _ (BlkAt.fresh rfl rfl) (growB _))
theorem RdE.blk {w : World} {g : Nat} {et : TypeId} {sz : Nat} {cs : List Value} (h : BlkAt g et cs w) (hl : cs.length = sz) : RdE w (.slice (some ⟨g, 0, none⟩) 1 1) sz 1 cs :=
  ⟨by rw [hl, Nat.one_mul], _, _, rfl, Nat.le_refl _, by unfold maxLen; omega, .inr ⟨g, 0, rfl, fun i _ => by rw [Nat.zero_add, h.cell]⟩⟩
/-- Three results: what lies in a block, and two plain ones. -/
theorem bodyPost_b3 {P : Program} {fn : Func} {p q r : Tmp} {ty bt : TypeId} {g : Nat} {cs : List Value} {d : TypeDesc} {v u : Value} {R : Ending → World → Prop} {a : Act} {w : World} (h : fn.results = #[.cell p ty, .tmp q, .tmp r]) (hd : a.defers = [])
    (hp : a.tmps.getD p undef = .pointer (some ⟨g, 0, none⟩)) (hq : a.tmps.getD q undef = v) (hr : a.tmps.getD r undef = u) (hb : BlkAt g bt cs w) (hu : P.underlying ty = some d) (hrow : d.isRow = true) (hi : (P.info? ty).map (·.size) = some cs.length)
    (hR : R (.returned (.tuple #[.agg cs.toArray, v, u])) w) : bodyPost P fn R .ret a w := by
  refine bodyPost_ret ?_ hd hR
  have hp' : a.tmps[p]?.getD undef = .pointer (some ⟨g, 0, none⟩) := by simpa using hp
  have hq' : a.tmps[q]?.getD undef = v := by simpa using hq
  have hr' : a.tmps[r]?.getD undef = u := by simpa using hr
  have hb' : BlkAt g bt (([] : List Value) ++ cs ++ []) w := by simpa using hb
  have hl := run_loadVar_mid (P := P) w g 0 ty cs d hb'.range hu hrow hi
  simp [results, h, hp', hq', hr', asAddr, hl]
/-- Cells none of which is a text. -/
def NoS (cs : List Value) : Prop := ∀ (j : Nat) (s : ByteArray), cs[j]? ≠ some (.string s)
theorem chg_cell18 {g : Nat} {w w' : World} (c : Chg (fun b => b = g) w w') {b o : Nat} {v : Value} (h : w.cell? ⟨b, o, none⟩ = some v) (hne : b ≠ g) : w'.cell? ⟨b, o, none⟩ = some v := by
  rw [World.cell?_of_block (w := w) (c.block b (World.block_lt_of_cell? _ _ h) hne)]
  exact h
/-- Texts do not lie in a block that holds none. -/
theorem RdC.past18 {w w' : World} {v : Value} {xs : List Value} {g : Nat} {ty : TypeId} {cs : List Value} (h : RdC w v xs) (hx : ∀ x ∈ xs, ∃ s, x = .string s) (hb : BlkAt g ty cs w) (hn : NoS cs) (c : Chg (fun b => b = g) w w') : RdC w' v xs := by
  obtain ⟨a, k, e1, h2, h3, h4, h5⟩ := h
  refine ⟨a, k, e1, h2, h3, h4, h5.imp id ?_⟩
  rintro ⟨b, off, e2, hc⟩
  refine ⟨b, off, e2, fun i hi => ?_⟩
  have h6 := hc i hi
  have h7 : xs[i]? = some xs[i] := by simp [hi]
  rw [h7] at h6 ⊢
  obtain ⟨s, hs⟩ := hx _ (List.getElem_mem hi)
  have hne : b ≠ g := by
    rintro rfl
    rw [hb.cell, hs] at h6
    exact hn _ _ h6
  exact chg_cell18 c h6 hne
/-- A cell of the first row is written. -/
theorem OwnG.stored {w0 w : World} {e : TypeId} {sz n cap g : Nat} {xs : List Value} {L : List Rw} (h : OwnG w0 (⟨e, sz, .slice (some ⟨g, 0, none⟩) n cap, n, xs⟩ :: L) w) (j : Nat) (u : Value) :
    OwnG w0 (⟨e, sz, .slice (some ⟨g, 0, none⟩) n cap, n, xs.set j u⟩ :: L) (w.setCell ⟨g, j, none⟩ u) := by
  have h1 := (h.rows _ (List.mem_cons_self ..)).stored j u
  exact h.grown (p' := ⟨e, sz, .slice (some ⟨g, 0, none⟩) n cap, n, xs.set j u⟩) h1.1 h1.2 (.inl rfl)
/-- Where a row that is not empty lies. -/
theorem own_place {w : World} {base sz : Nat} {e : TypeId} {v : Value} {n : Nat} {xs : List Value} (h : w.ownsRow base e sz v n xs) (hn : 0 < n) : ∃ g cap, v = .slice (some ⟨g, 0, none⟩) n cap ∧ n ≤ cap ∧ base ≤ g ∧ g < w.heap.size ∧ (∀ j, w.frozen? ⟨g, j, none⟩ = false) ∧ ∀ j, j < xs.length → w.cell? ⟨g, j, none⟩ = xs[j]? := by
  rcases h.2 with ⟨h', h0⟩ | ⟨g, cap, cur, h', hb, hg, hnc, hm, hs, ht⟩
  · omega
  · subst h'
    refine ⟨g, cap, rfl, hnc, hb, (Array.getElem?_eq_some_iff.1 hg).1, fun j => by simp [World.frozen?, hg], fun j hj => ?_⟩
    have h7 : xs[j]? = some xs[j] := by simp [hj]
    have := h.cells rfl j xs[j] h7
    have hp : (⟨g, 0, none⟩ : Addr).add j = ⟨g, j, none⟩ := by unfold Addr.add; split <;> simp_all
    rw [h7, ← hp]
    exact this
theorem RdC.rdE {w : World} {v : Value} {xs : List Value} (h : RdC w v xs) : RdE w v 1 xs.length xs := by
  obtain ⟨a, c, e1, h2, h3, -, h5⟩ := h
  exact ⟨by omega, a, c, e1, h2, h3, h5⟩
theorem RdC.chg18 {S : Nat → Prop} {w w' : World} {g o n c : Nat} {xs : List Value} (h : RdC w (.slice (some ⟨g, o, none⟩) n c) xs) (hc : Chg S w w') (hS : ¬ S g) : RdC w' (.slice (some ⟨g, o, none⟩) n c) xs := by
  obtain ⟨a, k, e1, h2, h3, h4, h5⟩ := h
  simp only [Value.slice.injEq] at e1
  obtain ⟨rfl, rfl, rfl⟩ := e1
  refine ⟨_, _, rfl, h2, h3, h4, h5.imp id ?_⟩
  rintro ⟨b, off, e2, hc2⟩
  simp only [Option.some.injEq, Addr.mk.injEq, and_true] at e2
  obtain ⟨rfl, rfl⟩ := e2
  refine ⟨_, _, rfl, fun i hi => ?_⟩
  have h6 := hc2 i hi
  have h7 : xs[i]? = some xs[i] := by simp [hi]
  rw [h7] at h6 ⊢
  rw [World.cell?_of_block (w := w) (hc.block g (World.block_lt_of_cell? _ _ h6) hS)]
  exact h6
theorem own_cell18 {w : World} {base sz g n cap : Nat} {e : TypeId} {xs : List Value} (h : w.ownsRow base e sz (.slice (some ⟨g, 0, none⟩) n cap) n xs) {j : Nat} (hj : j < xs.length) : w.cell? ⟨g, j, none⟩ = some xs[j] := by
  have := h.cells rfl j xs[j] (by simp [hj])
  have hp : (⟨g, 0, none⟩ : Addr).add j = ⟨g, j, none⟩ := by unfold Addr.add; split <;> simp_all
  rw [← hp]
  exact this
end Go.Proofs.Ytkljklfejaojaaa
