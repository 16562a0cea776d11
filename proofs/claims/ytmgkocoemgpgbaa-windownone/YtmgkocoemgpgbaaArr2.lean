/- Arrays by value that are stored whole: rows of numbers in blocks, written as a whole; what else stays. No program's text is named. -/
import Derived.Test.YtmgkocoemgpgbaaLibI
import Derived.Test.YtmgkocoemgpgbaaArr
namespace Go.Proofs.Ytmgkocoemgpgbaa
set_option linter.unusedSimpArgs false
open Go.ChangeShapes Go.WideShapes Go.ChangeAt Go.RowKit
set_option linter.unusedVariables false

/-- Only block g was written, in place. -/
structure Wrote (g : Nat) (w w' : World) : Prop where
  size : w'.heap.size = w.heap.size
  other : ∀ i, i ≠ g → w'.heap[i]? = w.heap[i]?
  below : ∀ B a, B ≤ g → Below B a w → Below B a w'
theorem Wrote.refl (g : Nat) (w : World) : Wrote g w w := ⟨rfl, fun _ _ => rfl, fun _ _ _ h => h⟩
theorem Wrote.trans {g : Nat} {a b c : World} (h1 : Wrote g a b) (h2 : Wrote g b c) : Wrote g a c :=
  ⟨h2.size.trans h1.size, fun i hi => (h2.other i hi).trans (h1.other i hi), fun B x hB hb => h2.below B x hB (h1.below B x hB hb)⟩
theorem Wrote.set (g j : Nat) (w : World) (v : Value) : Wrote g w (w.setCell ⟨g, j, none⟩ v) :=
  ⟨by simp, fun i hi => Below.heap_setCell w ⟨g, j, none⟩ v i hi, fun B a hB hb => hb.setCell hB _⟩
theorem Wrote.setCells (g : Nat) : ∀ (vs : List Value) (o : Nat) (w : World), Wrote g w (w.setCells g o vs)
  | [], _, w => Wrote.refl g w
  | v :: r, o, w => (Wrote.set g o w v).trans (Wrote.setCells g r (o + 1) _)
theorem RowAt.wrote {k : IntKind} {e : TypeId} {g g' cap : Nat} {l : List Int} {w w' : World} (h : RowAt k e g cap l w) (hw : Wrote g' w w') (hne : g ≠ g') : RowAt k e g cap l w' :=
  h.of_block (hw.other g hne) (Nat.le_of_eq hw.size.symm)
theorem RowAt.setCells {k : IntKind} {e : TypeId} {g cap : Nat} : ∀ (xs pre post : List Int) (w : World), RowAt k e g cap (pre ++ post) w → xs.length = post.length →
    RowAt k e g cap (pre ++ xs) (w.setCells g pre.length (xs.map (Value.int k)))
  | [], pre, post, w, h, hl => by
    have : post = [] := List.eq_nil_of_length_eq_zero hl.symm
    subst this
    exact h
  | x :: xs, pre, [], w, h, hl => by simp at hl
  | x :: xs, pre, p :: post, w, h, hl => by
    have h1 := h.set pre.length x
    rw [List.set_append_right _ _ (Nat.le_refl _), Nat.sub_self, List.set_cons_zero] at h1
    have h2 := RowAt.setCells xs (pre ++ [x]) post _ (by simpa using h1) (by simpa using hl)
    simpa [World.setCells] using h2
theorem RowAt.there {k : IntKind} {e : TypeId} {g cap : Nat} {l : List Int} {w : World} (h : RowAt k e g cap l w) : w.there g 0 l.length := fun j hj => by
  rw [Nat.zero_add]
  exact ⟨by rw [h.cell hj]; rfl, h.free j⟩
theorem ints_one (k : IntKind) (l : List Int) : (l.map (Value.int k)).toArray.all (·.oneCell') = true :=
  all_oneCell_toArray fun v hv => by
    obtain ⟨x, _, rfl⟩ := List.mem_map.1 hv
    rfl
/-- A whole array is stored at a row's head. -/
theorem wp_store_row {k : IntKind} {e : TypeId} {g cap : Nat} {l : List Int} {P : Program} {op : Oper} {a : Act} {w : World} {K : Act → World → Prop} {Q : Exit → Act → World → Prop} (ty : TypeId) (x y : Operand) (ho : op.op = .store ty x y)
    (l2 : List Int) (hx : a.eval x = .pointer (some ⟨g, 0, none⟩)) (hy : a.eval y = .agg (l2.map (Value.int k)).toArray) (hr : RowAt k e g cap l w) (hl : l2.length = l.length) (hi : (P.info? ty).map (·.size) = some l.length)
    (h : ∀ w', RowAt k e g cap l2 w' → Wrote g w w' → K (a.put op.dst undef) w') : op.wp P a w K Q := by
  refine wp_store_mid ty x y ho g 0 _ hx hy (by simpa [hl] using hr.there) (by simp [hl, hi]) (ints_one k l2) ?_
  refine h _ ?_ (Wrote.setCells g _ 0 w)
  exact RowAt.setCells l2 [] l w hr hl
theorem wpList_store_row {k : IntKind} {e : TypeId} {g cap : Nat} {l : List Int} {P : Program} {ops : Array Oper} {rest : List Oper} {op : Oper} {a : Act} {w : World} {Q : Exit → Act → World → Prop} (hgd : op.guard = none) (ty : TypeId) (x y : Operand) (ho : op.op = .store ty x y)
    (l2 : List Int) (hx : a.eval x = .pointer (some ⟨g, 0, none⟩)) (hy : a.eval y = .agg (l2.map (Value.int k)).toArray) (hr : RowAt k e g cap l w) (hl : l2.length = l.length) (hi : (P.info? ty).map (·.size) = some l.length)
    (h : ∀ w', RowAt k e g cap l2 w' → Wrote g w w' → wpList P ops Q rest (a.put op.dst undef) w') : wpList P ops Q (op :: rest) a w :=
  wpList_plain hgd fun _ hK => wp_store_row ty x y ho l2 hx hy hr hl hi fun w' h1 h2 => hK _ _ (h w' h1 h2)
/-- What is loaded of a row as a whole. -/
theorem RowAt.load {k : IntKind} {e : TypeId} {g cap : Nat} {l : List Int} {w : World} {P : Program} (hr : RowAt k e g cap l w) {ty : TypeId} {d : TypeDesc} (hu : P.underlying ty = some d) (hd : d.isRow = true) (hi : (P.info? ty).map (·.size) = some l.length) :
    (loadVar ty ⟨g, 0, none⟩).run P w = .ok (.agg (l.map (Value.int k)).toArray) w :=
  run_loadVar_mid w g 0 ty (l.map (Value.int k)) d (fun j v hv => by
    have hj : j < l.length := by
      rcases Nat.lt_or_ge j l.length with h | h
      · exact h
      · simp [List.getElem?_eq_none h] at hv
    rw [Nat.zero_add, hr.cell hj]
    simp [hj] at hv
    simp [hj, hv]) hu hd (by simpa using hi)
/-- A block that was just made holds the row. -/
theorem RowAt.fresh {k : IntKind} {e : TypeId} {w : World} (l : List Int) {cs : Array Value} {b n : Nat} (h : cs = (l.map (Value.int k)).toArray) (hb : b = w.heap.size) (hn : n = l.length) (hne : l ≠ []) (hm : l.length ≤ maxLen) :
    RowAt k e b n l (w.alloc (.cells cs e)) := by
  subst h hb hn
  have hN : NewI k e w (.slice (some ⟨w.heap.size, 0, none⟩) l.length l.length) l (w.alloc (.cells (l.map (Value.int k)).toArray e)) := NewI.lit l rfl rfl rfl hm
  obtain ⟨gs, caps, es, hgs, hrow⟩ := hN.row hne
  simp only [Value.slice.injEq, Option.some.injEq, Addr.mk.injEq, and_true, true_and] at es
  obtain ⟨rfl, rfl⟩ := es
  exact hrow
theorem cellU {w W : World} {p : Addr} {v : Value} (h : w.cell? p = some v) (hb : Below w.drew.heap.size w.drew W) : W.cell? p = some v := by
  have h1 : w.drew.cell? p = some v := h
  rw [hb.cell (World.block_lt_of_cell? _ _ h1)]
  exact h1
/-- A call returns the array that lies in its result's block. -/
theorem bodyPost_row {k : IntKind} {e : TypeId} {g cap : Nat} {l : List Int} {P : Program} {fn : Func} {p : Tmp} {ty : TypeId} {d : TypeDesc} {R : Ending → World → Prop} {a : Act} {w : World} (h : fn.results = #[.cell p ty]) (hd : a.defers = [])
    (hp : a.tmps.getD p undef = .pointer (some ⟨g, 0, none⟩)) (hr : RowAt k e g cap l w) (hu : P.underlying ty = some d) (hrow : d.isRow = true) (hi : (P.info? ty).map (·.size) = some l.length)
    (hR : R (.returned (.agg (l.map (Value.int k)).toArray)) w) : bodyPost P fn R .ret a w := by
  refine bodyPost_ret ?_ hd hR
  have hp' : a.tmps[p]?.getD undef = .pointer (some ⟨g, 0, none⟩) := by simpa using hp
  have hl := hr.load (P := P) hu hrow hi
  simp [results, h, hp', asAddr, hl]
end Go.Proofs.Ytmgkocoemgpgbaa
