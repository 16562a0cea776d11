/- Slices that read as rows of any values of one cell each. No program's text is named. -/
import Derived.Test.YtkljklfejaojaaaOwnG
namespace Go.Proofs.Ytkljklfejaojaaa
open Go.ChangeShapes Go.WideShapes Go.ChangeAt Go.RowKit
set_option linter.unusedSimpArgs false
set_option linter.unusedVariables false

/-- A slice whose elements are these values. -/
def RdC (w : World) (v : Value) (xs : List Value) : Prop :=
  ∃ a cap, v = .slice a xs.length cap ∧ xs.length ≤ cap ∧ cap ≤ maxLen ∧ (a = none → cap = 0) ∧ (xs = [] ∨ ∃ b off, a = some ⟨b, off, none⟩ ∧ ∀ i, i < xs.length → w.cell? ⟨b, off + i, none⟩ = xs[i]?)
theorem RdC.nil (w : World) : RdC w (.slice none 0 0) [] := ⟨none, 0, rfl, Nat.le_refl _, by simp [maxLen], fun _ => rfl, .inl rfl⟩
theorem RdC.kept {w w' : World} {v : Value} {xs : List Value} (h : RdC w v xs) (hb : Below w.heap.size w w') : RdC w' v xs := by
  obtain ⟨a, c, e1, h2, h3, h4, h5⟩ := h
  refine ⟨a, c, e1, h2, h3, h4, h5.imp id ?_⟩
  rintro ⟨b, off, e2, hc⟩
  refine ⟨b, off, e2, fun i hi => ?_⟩
  have h6 := hc i hi
  have h7 : xs[i]? = some xs[i] := by simp [hi]
  rw [h7] at h6
  rw [hb.cell (World.block_lt_of_cell? _ _ h6), h6, h7]
theorem RdC.drew {w : World} {v : Value} {xs : List Value} (h : RdC w v xs) : RdC w.drew v xs := h.kept (Below.refl _ _).drew
theorem RdC.cellAt {w : World} {v : Value} {xs : List Value} (h : RdC w v xs) {i : Nat} (hi : i < xs.length) : ∃ b off cap, v = .slice (some ⟨b, off, none⟩) xs.length cap ∧ xs.length ≤ cap ∧ cap ≤ maxLen ∧ w.cell? ⟨b, off + i, none⟩ = some xs[i] := by
  obtain ⟨a, c, e1, h2, h3, h4, h5⟩ := h
  rcases h5 with h | ⟨b, off, e2, hc⟩
  · rw [h] at hi
    cases hi
  · refine ⟨b, off, c, by rw [e1, e2], h2, h3, ?_⟩
    rw [hc i hi]
    simp [hi]
theorem RdC.of_own {w : World} {base : Nat} {e : TypeId} {v : Value} {n : Nat} {xs : List Value} (h : w.ownsRow base e 1 v n xs) : RdC w v xs := by
  have hn : xs.length = n := by simpa using h.1
  subst hn
  rcases h.2 with ⟨rfl, h0⟩ | ⟨g, cap, cur, hv, hb, hg, hle, hm, hss, htk⟩
  · have : xs = [] := List.eq_nil_of_length_eq_zero h0
    subst this
    exact RdC.nil w
  · refine ⟨some ⟨g, 0, none⟩, cap, hv, hle, hm, (fun e => by cases e), ?_⟩
    by_cases h0 : xs = []
    · exact .inl h0
    · right
      refine ⟨g, 0, rfl, fun i hi => ?_⟩
      have h7 : xs[i]? = some xs[i] := by simp [hi]
      have := h.cells (by rw [hv]; rfl) i xs[i] h7
      have hp : (⟨g, 0, none⟩ : Addr).add i = ⟨g, 0 + i, none⟩ := by unfold Addr.add; split <;> simp_all
      rw [h7, ← hp]
      exact this
theorem OwnG.rdC {w0 w : World} {p : Rw} {L : List Rw} (h : OwnG w0 (p :: L) w) (hs : p.sz = 1) : RdC w p.v p.xs := by
  have := h.rows p (List.mem_cons_self ..)
  rw [hs] at this
  exact RdC.of_own this
/-- A row that was just written out. -/
theorem RdC.lit {w : World} {e : TypeId} (xs : List Value) {cs : Array Value} {n b : Nat} (h : cs = xs.toArray) (hn : n = xs.length) (hb : b = w.heap.size) (hm : xs.length ≤ maxLen) : RdC (w.alloc (.cells cs e)) (.slice (some ⟨b, 0, none⟩) n n) xs := by
  subst h hn hb
  refine ⟨_, _, rfl, Nat.le_refl _, hm, (fun h => by cases h), ?_⟩
  right
  refine ⟨_, 0, rfl, fun i hi => ?_⟩
  have hh : (w.alloc (.cells xs.toArray e)).heap[w.heap.size]? = some (.cells xs.toArray e) := by
    show (w.heap.push _)[w.heap.size]? = _
    simp
  unfold World.cell?
  rw [hh]
  simp [hi]
end Go.Proofs.Ytkljklfejaojaaa
