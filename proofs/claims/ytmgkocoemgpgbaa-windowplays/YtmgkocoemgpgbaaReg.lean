/- A region whose order is open, walked once: what only reads is taken first, what changes the world comes up in its one order; the world only grows. No program's text is named. -/
import Derived.Deep.RegionHeld3
import Derived.Below
import Derived.Test.YtmgkocoemgpgbaaRegA
namespace Go.Proofs.Ytmgkocoemgpgbaa
set_option linter.unusedSimpArgs false
set_option linter.unusedVariables false
open Go.RowKit

section
variable {P : Program} {ops : Array Oper} {Q : Exit → Act → World → Prop} {md : Region.Mode}

theorem wpAnyH_weaken {S S' : World → Prop} (hS : ∀ W, S' W → S W) : ∀ (fuel : Nat) (listed : Array Bool) (a : Act) (w : World), wpAnyH P md ops Q S' fuel listed a w → wpAnyH P md ops Q S fuel listed a w
  | 0, _, _, _, h => h
  | fuel + 1, _, _, _, h => ⟨h.1, fun i hi => wpOp_mono (fun a' w' h' => ⟨hS _ h'.1, wpAnyH_weaken hS fuel _ a' w' h'.2⟩) (h.2 i hi)⟩

/-- Whatever order is picked from here on; the world only grows. -/
def wpG (P : Program) (md : Region.Mode) (ops : Array Oper) (Q : Exit → Act → World → Prop) (fuel : Nat) (listed : Array Bool) (a : Act) (w : World) : Prop :=
  wpAnyH P md ops Q (fun W => Below w.heap.size w W) fuel listed a w

theorem wpG_begin {id : Nat} {a : Act} {w : World} (hm : P.follows .mixedOrders = true)
    (h : wpG P .any ops (NoPanic Q) ops.size (Array.replicate ops.size false) a w.drew) : (Code.region id ops true).wp P Q a w :=
  wp_region_noPanic (wp_region_held hm h)

/-- An operation that only reads is taken first. -/
theorem wpG_take {i : Nat} {oi : Oper} {v : Value} {fuel : Nat} {listed : Array Bool} {a : Act} {w : World} (hi : ops[i]? = some oi)
    (hs : Region.noSelect ops = true) (hf : Region.free md ops listed i = true) (hr : (Region.ready md ops listed).contains i = true)
    (hw : Region.wanted oi (yielded ops a.tmps) = true) (hy : ∀ W, Below w.heap.size w W → (execOp a.eval oi).run P W = .ok (.value v) W)
    (h : wpG P md ops (NoPanic Q) fuel (listed.setIfInBounds i true) (a.put oi.dst v) w) : wpG P md ops (NoPanic Q) (fuel + 1) listed a w :=
  wpAnyH_take hi hs hf hr (fun _ _ _ h => h) (.inl ⟨hw, hy⟩) (Below.refl _ _) h

/-- An operation whose guard says no. -/
theorem wpG_skip {i : Nat} {oi : Oper} {fuel : Nat} {listed : Array Bool} {a : Act} {w : World} (hi : ops[i]? = some oi)
    (hs : Region.noSelect ops = true) (hf : Region.free md ops listed i = true) (hr : (Region.ready md ops listed).contains i = true)
    (hw : Region.wanted oi (yielded ops a.tmps) = false)
    (h : wpG P md ops (NoPanic Q) fuel (listed.setIfInBounds i true) (a.put oi.dst undef) w) : wpG P md ops (NoPanic Q) (fuel + 1) listed a w :=
  wpAnyH_take hi hs hf hr (fun _ _ _ h => h) (.inr ⟨hw, rfl⟩) (Below.refl _ _) h

/-- The one operation that may come up changes the world: it only grows. -/
theorem wpG_do {i : Nat} {o : Oper} {fuel : Nat} {listed : Array Bool} {a : Act} {w : World} (hr : Region.ready md ops listed = [i]) (hi : ops[i]? = some o)
    (hw : Region.wanted o (yielded ops a.tmps) = true)
    (h : ∀ K : Act → World → Prop, Shut (∀ a' w', Below w.heap.size w w' → wpG P md ops Q fuel (listed.setIfInBounds i true) a' w' → K a' w') → o.wp P a w K Q) : wpG P md ops Q (fuel + 1) listed a w := by
  refine wpAnyH_all hr (by simp) fun j hj => ?_
  obtain rfl : j = i := by simpa using hj
  have h1 := h (fun a' w' => Below w.heap.size w w' ∧ wpAnyH P md ops Q (fun W => Below w.heap.size w W) fuel (listed.setIfInBounds j true) a' w')
    (fun a' w' hb hg => ⟨hb, wpAnyH_weaken (fun W hW => hb.trans (hW.mono hb.size)) fuel _ a' w' hg⟩)
  unfold wpOp
  simp only [hi, hw, if_true]
  exact .inl h1

theorem wpG_done {fuel : Nat} {listed : Array Bool} {a : Act} {w : World} (hr : Region.ready md ops listed = []) (h : Q .normal a w) : wpG P md ops (NoPanic Q) fuel listed a w :=
  wpAnyH_done (Q := NoPanic Q) hr h fuel
/-- The same, but only what was there at an earlier moment w0 is known to stay. -/
def wpB (P : Program) (md : Region.Mode) (ops : Array Oper) (Q : Exit → Act → World → Prop) (w0 : World) (fuel : Nat) (listed : Array Bool) (a : Act) (w : World) : Prop :=
  wpAnyH P md ops Q (fun W => Below w0.heap.size w0 W) fuel listed a w
theorem wpB_take {w0 : World} {i : Nat} {oi : Oper} {v : Value} {fuel : Nat} {listed : Array Bool} {a : Act} {w : World} (hb : Below w0.heap.size w0 w) (hi : ops[i]? = some oi)
    (hs : Region.noSelect ops = true) (hf : Region.free md ops listed i = true) (hr : (Region.ready md ops listed).contains i = true)
    (hw : Region.wanted oi (yielded ops a.tmps) = true) (hy : ∀ W, Below w0.heap.size w0 W → (execOp a.eval oi).run P W = .ok (.value v) W)
    (h : wpB P md ops (NoPanic Q) w0 fuel (listed.setIfInBounds i true) (a.put oi.dst v) w) : wpB P md ops (NoPanic Q) w0 (fuel + 1) listed a w :=
  wpAnyH_take hi hs hf hr (fun _ _ _ h => h) (.inl ⟨hw, hy⟩) hb h
theorem wpB_skip {w0 : World} {i : Nat} {oi : Oper} {fuel : Nat} {listed : Array Bool} {a : Act} {w : World} (hb : Below w0.heap.size w0 w) (hi : ops[i]? = some oi)
    (hs : Region.noSelect ops = true) (hf : Region.free md ops listed i = true) (hr : (Region.ready md ops listed).contains i = true)
    (hw : Region.wanted oi (yielded ops a.tmps) = false)
    (h : wpB P md ops (NoPanic Q) w0 fuel (listed.setIfInBounds i true) (a.put oi.dst undef) w) : wpB P md ops (NoPanic Q) w0 (fuel + 1) listed a w :=
  wpAnyH_take hi hs hf hr (fun _ _ _ h => h) (.inr ⟨hw, rfl⟩) hb h
/-- The one operation that may come up; only what was there at w0 is known to stay. -/
theorem wpB_do {w0 : World} {i : Nat} {o : Oper} {fuel : Nat} {listed : Array Bool} {a : Act} {w : World} (hr : Region.ready md ops listed = [i]) (hi : ops[i]? = some o)
    (hw : Region.wanted o (yielded ops a.tmps) = true)
    (h : ∀ K : Act → World → Prop, Shut (∀ a' w', Below w0.heap.size w0 w' → wpB P md ops Q w0 fuel (listed.setIfInBounds i true) a' w' → K a' w') → o.wp P a w K Q) : wpB P md ops Q w0 (fuel + 1) listed a w := by
  refine wpAnyH_all hr (by simp) fun j hj => ?_
  obtain rfl : j = i := by simpa using hj
  have h1 := h (fun a' w' => Below w0.heap.size w0 w' ∧ wpAnyH P md ops Q (fun W => Below w0.heap.size w0 W) fuel (listed.setIfInBounds j true) a' w') (fun a' w' hb hg => ⟨hb, hg⟩)
  unfold wpOp
  simp only [hi, hw, if_true]
  exact .inl h1
/-- From here on no longer all that is there is known to stay. -/
theorem wpG_keep {fuel : Nat} {listed : Array Bool} {a : Act} {w : World} (h : wpB P md ops Q w fuel listed a w) : wpG P md ops Q fuel listed a w := h
/-- From here on all that is there stays. -/
theorem wpB_renew {w0 : World} {fuel : Nat} {listed : Array Bool} {a : Act} {w : World} (hb : Below w0.heap.size w0 w) (h : wpG P md ops Q fuel listed a w) : wpB P md ops Q w0 fuel listed a w :=
  wpAnyH_weaken (fun W hW => hb.trans (hW.mono hb.size)) fuel _ a w h
theorem gU_ {fuel : Nat} {listed : Array Bool} {a : Act} {w : World} (i : Nat) {oi : Oper} (hi : nthO ops.toList i = some oi)
    (h : ∃ v, (∀ W, Below w.heap.size w W → (execOp a.eval oi).run P W = .ok (.value v) W) ∧ wpG P md ops (NoPanic Q) fuel (listed.setIfInBounds i true) (a.put oi.dst v) w)
    (hc : takeB md ops listed i = true := by kernel_rfl) (hw : Region.wanted oi (yielded ops a.tmps) = true := by rfl) : wpG P md ops (NoPanic Q) (fuel + 1) listed a w := by
  obtain ⟨v, hy, h⟩ := h
  exact wpG_take (nA hi) (takeB_1 hc) (takeB_2 hc) (takeB_3 hc) hw hy h
theorem gD_ (i : Nat) {o : Oper} {fuel : Nat} {listed : Array Bool} {a : Act} {w : World}
    (h : ∀ K : Act → World → Prop, Shut (∀ a' w', Below w.heap.size w w' → wpG P md ops Q fuel (listed.setIfInBounds i true) a' w' → K a' w') → o.wp P a w K Q)
    (hr : Region.ready md ops listed = [i] := by kernel_rfl) (hi : ops[i]? = some o := by exact nA rfl) (hw : Region.wanted o (yielded ops a.tmps) = true := by rfl) : wpG P md ops Q (fuel + 1) listed a w := wpG_do hr hi hw h
theorem bU_ {w0 : World} {fuel : Nat} {listed : Array Bool} {a : Act} {w : World} (hb : Below w0.heap.size w0 w) (i : Nat) {oi : Oper} (hi : nthO ops.toList i = some oi)
    (h : ∃ v, (∀ W, Below w0.heap.size w0 W → (execOp a.eval oi).run P W = .ok (.value v) W) ∧ wpB P md ops (NoPanic Q) w0 fuel (listed.setIfInBounds i true) (a.put oi.dst v) w)
    (hc : takeB md ops listed i = true := by kernel_rfl) (hw : Region.wanted oi (yielded ops a.tmps) = true := by rfl) : wpB P md ops (NoPanic Q) w0 (fuel + 1) listed a w := by
  obtain ⟨v, hy, h⟩ := h
  exact wpB_take hb (nA hi) (takeB_1 hc) (takeB_2 hc) (takeB_3 hc) hw hy h
theorem bD_ {w0 : World} (i : Nat) {o : Oper} {fuel : Nat} {listed : Array Bool} {a : Act} {w : World}
    (h : ∀ K : Act → World → Prop, Shut (∀ a' w', Below w0.heap.size w0 w' → wpB P md ops Q w0 fuel (listed.setIfInBounds i true) a' w' → K a' w') → o.wp P a w K Q)
    (hr : Region.ready md ops listed = [i] := by kernel_rfl) (hi : ops[i]? = some o := by exact nA rfl) (hw : Region.wanted o (yielded ops a.tmps) = true := by rfl) : wpB P md ops Q w0 (fuel + 1) listed a w := wpB_do hr hi hw h
end
end Go.Proofs.Ytmgkocoemgpgbaa
