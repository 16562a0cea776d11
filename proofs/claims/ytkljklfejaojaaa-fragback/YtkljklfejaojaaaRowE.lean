/- Slices that read as rows of elements of several cells each. No program's text is named. -/
import Derived.Test.YtkljklfejaojaaaRowC
namespace Go.Proofs.Ytkljklfejaojaaa
open Go.ChangeShapes Go.WideShapes Go.ChangeAt Go.RowKit
set_option linter.unusedSimpArgs false
set_option linter.unusedVariables false

/-- A slice of n elements of sz cells each, whose cells are these. -/
def RdE (w : World) (v : Value) (sz n : Nat) (xs : List Value) : Prop :=
  xs.length = n * sz ∧ ∃ a cap, v = .slice a n cap ∧ n ≤ cap ∧ cap ≤ maxLen ∧ (xs = [] ∨ ∃ b off, a = some ⟨b, off, none⟩ ∧ ∀ i, i < xs.length → w.cell? ⟨b, off + i, none⟩ = xs[i]?)
theorem RdE.nil (w : World) (sz : Nat) : RdE w (.slice none 0 0) sz 0 [] := ⟨by simp, none, 0, rfl, Nat.le_refl _, by simp [maxLen], .inl rfl⟩
theorem RdE.kept {w w' : World} {v : Value} {sz n : Nat} {xs : List Value} (h : RdE w v sz n xs) (hb : Below w.heap.size w w') : RdE w' v sz n xs := by
  obtain ⟨hl, a, c, e1, h2, h3, h5⟩ := h
  refine ⟨hl, a, c, e1, h2, h3, h5.imp id ?_⟩
  rintro ⟨b, off, e2, hc⟩
  refine ⟨b, off, e2, fun i hi => ?_⟩
  have h6 := hc i hi
  have h7 : xs[i]? = some xs[i] := by simp [hi]
  rw [h7] at h6
  rw [hb.cell (World.block_lt_of_cell? _ _ h6), h6, h7]
theorem RdE.len {w : World} {v : Value} {sz n : Nat} {xs : List Value} (h : RdE w v sz n xs) : ∃ a c, v = .slice a n c ∧ n ≤ c ∧ c ≤ maxLen := by
  obtain ⟨hl, a, c, e1, h2, h3, h5⟩ := h
  exact ⟨a, c, e1, h2, h3⟩
theorem RdE.cellAt {w : World} {a : Option Addr} {m c sz n : Nat} {xs : List Value} (h : RdE w (.slice a m c) sz n xs) {i : Nat} (hi : i < xs.length) : ∃ b off, a = some ⟨b, off, none⟩ ∧ w.cell? ⟨b, off + i, none⟩ = some xs[i] := by
  obtain ⟨hl, a', c', e1, h2, h3, h5⟩ := h
  simp only [Value.slice.injEq] at e1
  obtain ⟨rfl, -, -⟩ := e1
  rcases h5 with h | ⟨b, off, e2, hc⟩
  · rw [h] at hi
    cases hi
  · refine ⟨b, off, e2, ?_⟩
    rw [hc i hi]
    simp [hi]
theorem RdE.of_own {w : World} {base sz : Nat} {e : TypeId} {v : Value} {n : Nat} {xs : List Value} (h : w.ownsRow base e sz v n xs) : RdE w v sz n xs := by
  refine ⟨h.1, ?_⟩
  rcases h.2 with ⟨rfl, h0⟩ | ⟨g, cap, cur, hv, hb, hg, hle, hm, hss, htk⟩
  · subst h0
    have : xs = [] := List.eq_nil_of_length_eq_zero (by have := h.1; simpa using this)
    subst this
    exact ⟨none, 0, rfl, Nat.le_refl _, by simp [maxLen], .inl rfl⟩
  · refine ⟨some ⟨g, 0, none⟩, cap, hv, hle, hm, ?_⟩
    by_cases h0 : xs = []
    · exact .inl h0
    · right
      refine ⟨g, 0, rfl, fun i hi => ?_⟩
      have h7 : xs[i]? = some xs[i] := by simp [hi]
      have := h.cells (by rw [hv]; rfl) i xs[i] h7
      have hp : (⟨g, 0, none⟩ : Addr).add i = ⟨g, 0 + i, none⟩ := by unfold Addr.add; split <;> simp_all
      rw [h7, ← hp]
      exact this
/-- A row that was just written out. -/
theorem RdE.lit {w : World} {e : TypeId} {sz : Nat} (xs : List Value) {cs : Array Value} {n b : Nat} (h : cs = xs.toArray) (hn : xs.length = n * sz) (hb : b = w.heap.size) (hm : n ≤ maxLen) : RdE (w.alloc (.cells cs e)) (.slice (some ⟨b, 0, none⟩) n n) sz n xs := by
  subst h hb
  refine ⟨hn, _, _, rfl, Nat.le_refl _, hm, ?_⟩
  right
  refine ⟨_, 0, rfl, fun i hi => ?_⟩
  have hh : (w.alloc (.cells xs.toArray e)).heap[w.heap.size]? = some (.cells xs.toArray e) := by
    show (w.heap.push _)[w.heap.size]? = _
    simp
  unfold World.cell?
  rw [hh]
  simp [hi]
end Go.Proofs.Ytkljklfejaojaaa
