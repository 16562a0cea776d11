/- A region whose order is open, walked once, where one operation waits for all others and may write what it likes (a store behind all reads). No program's text is named. -/
import Derived.Deep.RegionHeld3
import Derived.Below
import Derived.Test.YtmgkocoemgpgbaaRegA
namespace Go.Proofs.Ytmgkocoemgpgbaa
set_option linter.unusedSimpArgs false
set_option linter.unusedVariables false
open Go.RowKit

section
variable {P : Program} {ops : Array Oper} {Q : Exit → Act → World → Prop} {md : Region.Mode} {S : World → Prop} {n : Nat}

/-- Whatever order is picked from here on; S holds behind every operation but number n. -/
def wpAnyE (P : Program) (md : Region.Mode) (ops : Array Oper) (Q : Exit → Act → World → Prop) (S : World → Prop) (n : Nat) : Nat → Array Bool → Act → World → Prop
  | 0, listed, a, w => Region.ready md ops listed = [] ∧ Q .normal a w
  | fuel + 1, listed, a, w =>
    (Region.ready md ops listed = [] → Q .normal a w) ∧
    ∀ i ∈ Region.ready md ops listed, wpOp P ops Q i (fun a' w' => (i = n ∨ S w') ∧ wpAnyE P md ops Q S n fuel (listed.setIfInBounds i true) a' w') a w

theorem wpAny_of_E : ∀ (fuel : Nat) (listed : Array Bool) (a : Act) (w : World), wpAnyE P md ops Q S n fuel listed a w → wpAny P md ops Q fuel listed a w
  | 0, _, _, _, h => h
  | fuel + 1, _, _, _, h => ⟨h.1, fun i hi => wpOp_mono (fun a' w' h' => wpAny_of_E fuel _ a' w' h'.2) (h.2 i hi)⟩

theorem wpAnyE_weaken {S' : World → Prop} (hS : ∀ W, S' W → S W) : ∀ (fuel : Nat) (listed : Array Bool) (a : Act) (w : World), wpAnyE P md ops Q S' n fuel listed a w → wpAnyE P md ops Q S n fuel listed a w
  | 0, _, _, _, h => h
  | fuel + 1, _, _, _, h => ⟨h.1, fun i hi => wpOp_mono (fun a' w' h' => ⟨h'.1.imp id (hS _), wpAnyE_weaken hS fuel _ a' w' h'.2⟩) (h.2 i hi)⟩

/-- Number n waits for all others. -/
def lastB (md : Region.Mode) (ops : Array Oper) (n : Nat) : Bool :=
  (List.range ops.size).all fun j => j == n || match ops[n]? with
    | some o => o.after.any fun e => Region.binds md e && e.on == j
    | none => false

theorem lastB_spec (h : lastB md ops n = true) {listed : Array Bool} (hn : n ∈ Region.ready md ops listed) {j : Nat} (hj : j < ops.size) (hne : j ≠ n) : listed.getD j true = true := by
  obtain ⟨_, o, ho, hall⟩ := mem_ready.1 hn
  have h1 := List.all_eq_true.1 h j (List.mem_range.2 hj)
  simp only [ho, Bool.or_eq_true, beq_iff_eq, hne, false_or] at h1
  obtain ⟨e, he, hb⟩ := Array.any_eq_true'.1 h1
  simp only [Bool.and_eq_true, beq_iff_eq] at hb
  have h2 := hall e he hb.1
  rw [hb.2] at h2
  rcases Nat.lt_or_ge j listed.size with h' | h'
  · simp [h'] at h2 ⊢; exact h2
  · simp [Array.getElem?_eq_none h'] at h2

theorem wpAnyE_first {i : Nat} {oi : Oper} {v : Value} (hi : ops[i]? = some oi) (hin : i ≠ n) (hl : lastB md ops n = true) (hsel : ∀ (j : Nat) (o : Oper) cs b, ops[j]? = some o → o.op ≠ .select cs b)
    (hQ : ∀ c a w, Q (.panic c) (a.put oi.dst v) w → Q (.panic c) a w) :
    ∀ (fuel : Nat) (listed : Array Bool) (a : Act) (w : World),
      (∀ j oj, ops[j]? = some oj → j ≠ i → listed.getD j true = false → (∀ e ∈ oj.after, Region.binds md e = true → e.on ≠ i) → oi.apart ops oj = true) →
      i ∈ Region.ready md ops listed → YieldsIf P ops S oi v a → S w →
      wpAnyE P md ops Q S n fuel (listed.setIfInBounds i true) (a.put oi.dst v) w → wpAnyE P md ops Q S n (fuel + 1) listed a w := by
  intro fuel
  induction fuel with
  | zero =>
    intro listed a w _ hr hy hS H
    refine ⟨fun h => (by rw [h] at hr; cases hr), fun j hj => ?_⟩
    by_cases hji : j = i
    · subst hji; exact hy.wpOp hi hS ⟨.inr hS, H⟩
    · have := ready_mono hj hji
      rw [H.1] at this
      cases this
  | succ fuel ih =>
    intro listed a w hfree hr hy hS H
    refine ⟨fun h => (by rw [h] at hr; cases hr), fun j hj => ?_⟩
    by_cases hji : j = i
    · subst hji; exact hy.wpOp hi hS ⟨.inr hS, H⟩
    · have hjn : j ≠ n := by
        intro e
        subst e
        have h1 := lastB_spec hl hj (Array.getElem?_eq_some_iff.1 hi).1 hin
        have h0 := (mem_ready.1 hr).1
        rw [h1] at h0
        cases h0
      have h1 := H.2 j (ready_mono hj hji)
      obtain ⟨hjun, oj, hoj, hall⟩ := mem_ready.1 hj
      have hnot : ∀ e ∈ oj.after, Region.binds md e = true → e.on ≠ i := fun e he hb heq => by
        have h1 := hall e he hb
        have h0 := (mem_ready.1 hr).1
        rw [heq] at h1
        rcases Nat.lt_or_ge i listed.size with h' | h'
        · simp [h'] at h0 h1; rw [h0] at h1; cases h1
        · simp [Array.getElem?_eq_none h'] at h1
      have h2 := wpOp_putIf hoj (hfree j oj hoj hji hjun hnot) (fun cs b => hsel i oi cs b hi) (fun cs b => hsel j oj cs b hoj) hQ hy h1
      have hfree' : ∀ k ok, ops[k]? = some ok → k ≠ i → (listed.setIfInBounds j true).getD k true = false →
          (∀ e ∈ ok.after, Region.binds md e = true → e.on ≠ i) → oi.apart ops ok = true := fun k ok hk hki hun hno => by
        refine hfree k ok hk hki ?_ hno
        by_cases hjk : j = k
        · subst hjk; exact hjun
        · rw [getD_set_ne true hjk] at hun; exact hun
      refine wpOp_mono (fun a' w' h3 => ?_) h2
      have hS' : S w' := h3.2.1.resolve_left hjn
      refine ⟨.inr hS', ih (listed.setIfInBounds j true) a' w' hfree' (ready_mono hr (Ne.symm hji)) h3.1 hS' ?_⟩
      rw [Array.setIfInBounds_comm _ _ hji]
      exact h3.2.2

/-- Whatever order is picked from here on; the world only grows, till number n comes. -/
def wpE (P : Program) (md : Region.Mode) (ops : Array Oper) (Q : Exit → Act → World → Prop) (n fuel : Nat) (listed : Array Bool) (a : Act) (w : World) : Prop :=
  wpAnyE P md ops Q (fun W => Below w.heap.size w W) n fuel listed a w

theorem wpE_begin (n : Nat) {id : Nat} {a : Act} {w : World} (hm : P.follows .mixedOrders = true)
    (h : wpE P .any ops (NoPanic Q) n ops.size (Array.replicate ops.size false) a w.drew) : (Code.region id ops true).wp P Q a w :=
  wp_region_noPanic (wp_region_any hm (wpAny_of_E _ _ _ _ h))
theorem wpE_take {i : Nat} {oi : Oper} {v : Value} {fuel : Nat} {listed : Array Bool} {a : Act} {w : World} (hi : ops[i]? = some oi) (hin : i ≠ n) (hl : lastB md ops n = true)
    (hs : Region.noSelect ops = true) (hf : Region.free md ops listed i = true) (hr : (Region.ready md ops listed).contains i = true)
    (hw : Region.wanted oi (yielded ops a.tmps) = true) (hy : ∀ W, Below w.heap.size w W → (execOp a.eval oi).run P W = .ok (.value v) W)
    (h : wpE P md ops (NoPanic Q) n fuel (listed.setIfInBounds i true) (a.put oi.dst v) w) : wpE P md ops (NoPanic Q) n (fuel + 1) listed a w :=
  wpAnyE_first hi hin hl (Region.noSelect_spec hs) (fun _ _ _ h => h) fuel listed a w (Region.free_spec hi hf) (by simpa using hr) (.inl ⟨hw, hy⟩) (Below.refl _ _) h
theorem wpE_do {i : Nat} {o : Oper} {fuel : Nat} {listed : Array Bool} {a : Act} {w : World} (hr : Region.ready md ops listed = [i]) (hi : ops[i]? = some o)
    (hw : Region.wanted o (yielded ops a.tmps) = true)
    (h : ∀ K : Act → World → Prop, Shut (∀ a' w', Below w.heap.size w w' → wpE P md ops Q n fuel (listed.setIfInBounds i true) a' w' → K a' w') → o.wp P a w K Q) : wpE P md ops Q n (fuel + 1) listed a w := by
  refine ⟨(fun h0 => by rw [hr] at h0; cases h0), fun j hj => ?_⟩
  rw [hr] at hj
  obtain rfl : j = i := by simpa using hj
  have h1 := h (fun a' w' => (j = n ∨ Below w.heap.size w w') ∧ wpAnyE P md ops Q (fun W => Below w.heap.size w W) n fuel (listed.setIfInBounds j true) a' w')
    (fun a' w' hb hg => ⟨.inr hb, wpAnyE_weaken (fun W hW => hb.trans (hW.mono hb.size)) fuel _ a' w' hg⟩)
  unfold wpOp
  simp only [hi, hw, if_true]
  exact .inl h1
theorem wpE_last {o : Oper} {fuel : Nat} {listed : Array Bool} {a : Act} {w : World} (hr : Region.ready md ops listed = [n]) (hr2 : Region.ready md ops (listed.setIfInBounds n true) = []) (hi : ops[n]? = some o)
    (hw : Region.wanted o (yielded ops a.tmps) = true)
    (h : ∀ K : Act → World → Prop, Shut (∀ a' w', Q .normal a' w' → K a' w') → o.wp P a w K (NoPanic Q)) : wpE P md ops (NoPanic Q) n (fuel + 1) listed a w := by
  refine ⟨(fun h0 => by rw [hr] at h0; cases h0), fun j hj => ?_⟩
  rw [hr] at hj
  obtain rfl : j = n := by simpa using hj
  have hdone : ∀ fuel a' w', Q .normal a' w' → wpAnyE P md ops (NoPanic Q) (fun W => Below w.heap.size w W) j fuel (listed.setIfInBounds j true) a' w' := by
    intro fuel a' w' hq
    cases fuel with
    | zero => exact ⟨hr2, hq⟩
    | succ fuel => exact ⟨fun _ => hq, by rw [hr2]; intro i hi; cases hi⟩
  have h1 := h (fun a' w' => (j = j ∨ Below w.heap.size w w') ∧ wpAnyE P md ops (NoPanic Q) (fun W => Below w.heap.size w W) j fuel (listed.setIfInBounds j true) a' w')
    (fun a' w' hq => ⟨.inl rfl, hdone fuel a' w' hq⟩)
  unfold wpOp
  simp only [hi, hw, if_true]
  exact .inl (Oper.wp_mono (fun a' w' h => ⟨.inl trivial, h.2⟩) h1)
theorem eU_ {fuel : Nat} {listed : Array Bool} {a : Act} {w : World} (i : Nat) {oi : Oper} (hi : nthO ops.toList i = some oi)
    (h : ∃ v, (∀ W, Below w.heap.size w W → (execOp a.eval oi).run P W = .ok (.value v) W) ∧ wpE P md ops (NoPanic Q) n fuel (listed.setIfInBounds i true) (a.put oi.dst v) w)
    (hc : takeB md ops listed i = true := by kernel_rfl) (hw : Region.wanted oi (yielded ops a.tmps) = true := by rfl) (hin : i ≠ n := by decide) (hl : lastB md ops n = true := by kernel_rfl) : wpE P md ops (NoPanic Q) n (fuel + 1) listed a w := by
  obtain ⟨v, hy, h⟩ := h
  exact wpE_take (nA hi) hin hl (takeB_1 hc) (takeB_2 hc) (takeB_3 hc) hw hy h
theorem eD_ (i : Nat) {o : Oper} {fuel : Nat} {listed : Array Bool} {a : Act} {w : World}
    (h : ∀ K : Act → World → Prop, Shut (∀ a' w', Below w.heap.size w w' → wpE P md ops Q n fuel (listed.setIfInBounds i true) a' w' → K a' w') → o.wp P a w K Q)
    (hr : Region.ready md ops listed = [i] := by kernel_rfl) (hi : ops[i]? = some o := by exact nA rfl) (hw : Region.wanted o (yielded ops a.tmps) = true := by rfl) : wpE P md ops Q n (fuel + 1) listed a w := wpE_do hr hi hw h
theorem eL_ {o : Oper} {fuel : Nat} {listed : Array Bool} {a : Act} {w : World} (h : ∀ K : Act → World → Prop, Shut (∀ a' w', Q .normal a' w' → K a' w') → o.wp P a w K (NoPanic Q))
    (hr : Region.ready md ops listed = [n] := by kernel_rfl) (hr2 : Region.ready md ops (listed.setIfInBounds n true) = [] := by kernel_rfl) (hi : ops[n]? = some o := by exact nA rfl) (hw : Region.wanted o (yielded ops a.tmps) = true := by rfl) : wpE P md ops (NoPanic Q) n (fuel + 1) listed a w := wpE_last hr hr2 hi hw h
end
end Go.Proofs.Ytmgkocoemgpgbaa
