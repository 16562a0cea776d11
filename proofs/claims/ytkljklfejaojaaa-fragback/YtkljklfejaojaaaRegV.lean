/- A region whose order is open, walked once, where one operation, number n, may write what it likes, and what holds till then is a condition of one's own; what touches no memory may come whenever. No program's text is named. -/
import Derived.Test.YtkljklfejaojaaaRegS
namespace Go.Proofs.Ytkljklfejaojaaa
set_option linter.unusedSimpArgs false
set_option linter.unusedVariables false
open Go.RowKit

section
variable {P : Program} {ops : Array Oper} {Q : Exit → Act → World → Prop} {md : Region.Mode} {S : World → Prop} {n : Nat}

theorem wpS_skip {i : Nat} {oi : Oper} {fuel : Nat} {listed : Array Bool} {a : Act} {w : World} (hS : S w) (hi : ops[i]? = some oi)
    (hs : Region.noSelect ops = true) (hf : Region.free md ops listed i = true) (hr : (Region.ready md ops listed).contains i = true)
    (hw : Region.wanted oi (yielded ops a.tmps) = false)
    (h : wpAnyH P md ops (NoPanic Q) S fuel (listed.setIfInBounds i true) (a.put oi.dst undef) w) : wpAnyH P md ops (NoPanic Q) S (fuel + 1) listed a w :=
  wpAnyH_take hi hs hf hr (fun _ _ _ h => h) (.inr ⟨hw, rfl⟩) hS h
theorem wpV_begin (n : Nat) (S : World → Prop) {id : Nat} {a : Act} {w : World} (hm : P.follows .mixedOrders = true)
    (h : wpAnyF P .any ops (NoPanic Q) S n ops.size (Array.replicate ops.size false) a w.drew) : (Code.region id ops true).wp P Q a w :=
  wp_region_noPanic (wp_region_any hm (wpAny_of_F _ _ _ _ h))
theorem wpV_take {i : Nat} {oi : Oper} {v : Value} {fuel : Nat} {listed : Array Bool} {a : Act} {w : World} (hS : S w) (hi : ops[i]? = some oi) (hin : i ≠ n) (hl : waitsB md ops n i = true) (hnl : listed.getD n true = false)
    (hs : Region.noSelect ops = true) (hf : Region.free md ops listed i = true) (hr : (Region.ready md ops listed).contains i = true)
    (hw : Region.wanted oi (yielded ops a.tmps) = true) (hy : ∀ W, S W → (execOp a.eval oi).run P W = .ok (.value v) W)
    (h : wpAnyF P md ops (NoPanic Q) S n fuel (listed.setIfInBounds i true) (a.put oi.dst v) w) : wpAnyF P md ops (NoPanic Q) S n (fuel + 1) listed a w :=
  wpAnyF_first hi hin hl (Region.noSelect_spec hs) (fun _ _ _ h => h) fuel listed a w (Region.free_spec hi hf) (by simpa using hr) (.inl ⟨hw, hy⟩) hS hnl h
theorem wpV_pure {i : Nat} {oi : Oper} {v : Value} {fuel : Nat} {listed : Array Bool} {a : Act} {w : World} (hS : listed.getD n true = true ∨ S w) (hi : ops[i]? = some oi) (hin : i ≠ n)
    (hs : Region.noSelect ops = true) (hf : Region.free md ops listed i = true) (hr : (Region.ready md ops listed).contains i = true)
    (hw : Region.wanted oi (yielded ops a.tmps) = true) (hy : ∀ W, (execOp a.eval oi).run P W = .ok (.value v) W)
    (h : wpAnyF P md ops (NoPanic Q) S n fuel (listed.setIfInBounds i true) (a.put oi.dst v) w) : wpAnyF P md ops (NoPanic Q) S n (fuel + 1) listed a w :=
  wpAnyF_pure hi hin (Region.noSelect_spec hs) (fun _ _ _ h => h) fuel listed a w (Region.free_spec hi hf) (by simpa using hr) (.inl ⟨hw, fun W _ => hy W⟩) hS h
theorem wpV_do {i : Nat} {o : Oper} {fuel : Nat} {listed : Array Bool} {a : Act} {w : World} (hr : Region.ready md ops listed = [i]) (hi : ops[i]? = some o)
    (hw : Region.wanted o (yielded ops a.tmps) = true)
    (h : ∀ K : Act → World → Prop, Shut (∀ a' w', (i = n ∨ S w') → wpAnyF P md ops Q S n fuel (listed.setIfInBounds i true) a' w' → K a' w') → o.wp P a w K Q) : wpAnyF P md ops Q S n (fuel + 1) listed a w := by
  have hmem : i ∈ Region.ready md ops listed := by rw [hr]; simp
  refine ⟨(fun h0 => by rw [hr] at h0; cases h0), fun j hj => ?_⟩
  rw [hr] at hj
  obtain rfl : j = i := by simpa using hj
  have h1 := h (fun a' w' => ((listed.setIfInBounds j true).getD n true = true ∨ S w') ∧ wpAnyF P md ops Q S n fuel (listed.setIfInBounds j true) a' w')
    (fun a' w' hb hg => ⟨hb.imp (fun e => by
      subst e
      rcases Nat.lt_or_ge j listed.size with h' | h'
      · simp [h']
      · simp [Array.getElem?_eq_none h']) id, hg⟩)
  unfold wpOp
  simp only [hi, hw, if_true]
  exact .inl h1
theorem wpV_done {fuel : Nat} {listed : Array Bool} {a : Act} {w : World} (hr : Region.ready md ops listed = []) (h : Q .normal a w) : wpAnyF P md ops (NoPanic Q) S n fuel listed a w := by
  cases fuel with
  | zero => exact ⟨hr, h⟩
  | succ fuel => exact ⟨fun _ => h, by rw [hr]; intro i hi; cases hi⟩
theorem vU_ {fuel : Nat} {listed : Array Bool} {a : Act} {w : World} (hb : S w) (i : Nat) {oi : Oper} (hi : nthO ops.toList i = some oi)
    (h : ∃ v, (∀ W, S W → (execOp a.eval oi).run P W = .ok (.value v) W) ∧ wpAnyF P md ops (NoPanic Q) S n fuel (listed.setIfInBounds i true) (a.put oi.dst v) w)
    (hc : takeB md ops listed i = true := by kernel_rfl) (hw : Region.wanted oi (yielded ops a.tmps) = true := by rfl) (hin : i ≠ n := by decide) (hl : waitsB md ops n i = true := by kernel_rfl) (hnl : listed.getD n true = false := by kernel_rfl) : wpAnyF P md ops (NoPanic Q) S n (fuel + 1) listed a w := by
  obtain ⟨v, hy, h⟩ := h
  exact wpV_take hb (nA hi) hin hl hnl (takeB_1 hc) (takeB_2 hc) (takeB_3 hc) hw hy h
theorem vP_ {fuel : Nat} {listed : Array Bool} {a : Act} {w : World} (hb : listed.getD n true = true ∨ S w) (i : Nat) {oi : Oper} (hi : nthO ops.toList i = some oi)
    (h : ∃ v, (∀ W, (execOp a.eval oi).run P W = .ok (.value v) W) ∧ wpAnyF P md ops (NoPanic Q) S n fuel (listed.setIfInBounds i true) (a.put oi.dst v) w)
    (hc : takeB md ops listed i = true := by kernel_rfl) (hw : Region.wanted oi (yielded ops a.tmps) = true := by rfl) (hin : i ≠ n := by decide) : wpAnyF P md ops (NoPanic Q) S n (fuel + 1) listed a w := by
  obtain ⟨v, hy, h⟩ := h
  exact wpV_pure hb (nA hi) hin (takeB_1 hc) (takeB_2 hc) (takeB_3 hc) hw hy h
theorem vD_ (i : Nat) {o : Oper} {fuel : Nat} {listed : Array Bool} {a : Act} {w : World}
    (h : ∀ K : Act → World → Prop, Shut (∀ a' w', (i = n ∨ S w') → wpAnyF P md ops Q S n fuel (listed.setIfInBounds i true) a' w' → K a' w') → o.wp P a w K Q)
    (hr : Region.ready md ops listed = [i] := by kernel_rfl) (hi : ops[i]? = some o := by exact nA rfl) (hw : Region.wanted o (yielded ops a.tmps) = true := by rfl) : wpAnyF P md ops Q S n (fuel + 1) listed a w := wpV_do hr hi hw h
end
end Go.Proofs.Ytkljklfejaojaaa
