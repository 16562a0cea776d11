/- Regions whose order is open, walked once: where two operations may come up, where a condition of one's own is kept, and where one operation writes what was there before while others that touch no memory may still follow. No program's text is named. -/
import Derived.Test.YtmgkocoemgpgbaaReg
import Derived.Test.YtmgkocoemgpgbaaRegB
import Derived.Test.YtmgkocoemgpgbaaRegE
namespace Go.Proofs.Ytmgkocoemgpgbaa
set_option linter.unusedSimpArgs false
set_option linter.unusedVariables false
open Go.RowKit

section
variable {P : Program} {ops : Array Oper} {Q : Exit → Act → World → Prop} {md : Region.Mode} {S : World → Prop} {n : Nat}

/-- Two operations may come up. -/
theorem wpB_fork {w0 : World} {i j : Nat} {oi oj : Oper} {fuel : Nat} {listed : Array Bool} {a : Act} {w : World} (hr : Region.ready md ops listed = [i, j]) (hi : ops[i]? = some oi) (hj : ops[j]? = some oj)
    (hwi : Region.wanted oi (yielded ops a.tmps) = true) (hwj : Region.wanted oj (yielded ops a.tmps) = true)
    (h1 : ∀ K : Act → World → Prop, Shut (∀ a' w', Below w0.heap.size w0 w' → wpB P md ops Q w0 fuel (listed.setIfInBounds i true) a' w' → K a' w') → oi.wp P a w K Q)
    (h2 : ∀ K : Act → World → Prop, Shut (∀ a' w', Below w0.heap.size w0 w' → wpB P md ops Q w0 fuel (listed.setIfInBounds j true) a' w' → K a' w') → oj.wp P a w K Q) : wpB P md ops Q w0 (fuel + 1) listed a w := by
  refine wpAnyH_all hr (by simp) fun k hk => ?_
  have hk' : k = i ∨ k = j := by simpa using hk
  rcases hk' with rfl | rfl
  · have h := h1 (fun a' w' => Below w0.heap.size w0 w' ∧ wpAnyH P md ops Q (fun W => Below w0.heap.size w0 W) fuel (listed.setIfInBounds k true) a' w') (fun a' w' hb hg => ⟨hb, hg⟩)
    unfold wpOp
    simp only [hi, hwi, if_true]
    exact .inl h
  · have h := h2 (fun a' w' => Below w0.heap.size w0 w' ∧ wpAnyH P md ops Q (fun W => Below w0.heap.size w0 W) fuel (listed.setIfInBounds k true) a' w') (fun a' w' hb hg => ⟨hb, hg⟩)
    unfold wpOp
    simp only [hj, hwj, if_true]
    exact .inl h

/-! ### A condition of one's own -/
theorem wpS_begin (S : World → Prop) {id : Nat} {a : Act} {w : World} (hm : P.follows .mixedOrders = true)
    (h : wpAnyH P .any ops (NoPanic Q) S ops.size (Array.replicate ops.size false) a w.drew) : (Code.region id ops true).wp P Q a w :=
  wp_region_noPanic (wp_region_held hm h)
theorem wpS_take {i : Nat} {oi : Oper} {v : Value} {fuel : Nat} {listed : Array Bool} {a : Act} {w : World} (hS : S w) (hi : ops[i]? = some oi)
    (hs : Region.noSelect ops = true) (hf : Region.free md ops listed i = true) (hr : (Region.ready md ops listed).contains i = true)
    (hw : Region.wanted oi (yielded ops a.tmps) = true) (hy : ∀ W, S W → (execOp a.eval oi).run P W = .ok (.value v) W)
    (h : wpAnyH P md ops (NoPanic Q) S fuel (listed.setIfInBounds i true) (a.put oi.dst v) w) : wpAnyH P md ops (NoPanic Q) S (fuel + 1) listed a w :=
  wpAnyH_take hi hs hf hr (fun _ _ _ h => h) (.inl ⟨hw, hy⟩) hS h
theorem wpS_do {i : Nat} {o : Oper} {fuel : Nat} {listed : Array Bool} {a : Act} {w : World} (hr : Region.ready md ops listed = [i]) (hi : ops[i]? = some o)
    (hw : Region.wanted o (yielded ops a.tmps) = true)
    (h : ∀ K : Act → World → Prop, Shut (∀ a' w', S w' → wpAnyH P md ops Q S fuel (listed.setIfInBounds i true) a' w' → K a' w') → o.wp P a w K Q) : wpAnyH P md ops Q S (fuel + 1) listed a w := by
  refine wpAnyH_all hr (by simp) fun j hj => ?_
  obtain rfl : j = i := by simpa using hj
  have h1 := h (fun a' w' => S w' ∧ wpAnyH P md ops Q S fuel (listed.setIfInBounds j true) a' w') (fun a' w' hb hg => ⟨hb, hg⟩)
  unfold wpOp
  simp only [hi, hw, if_true]
  exact .inl h1
theorem wpS_done {fuel : Nat} {listed : Array Bool} {a : Act} {w : World} (hr : Region.ready md ops listed = []) (h : Q .normal a w) : wpAnyH P md ops (NoPanic Q) S fuel listed a w :=
  wpAnyH_done (Q := NoPanic Q) hr h fuel

/-! ### One operation, number n, may write what it likes; what follows it touches no memory -/
def wpAnyF (P : Program) (md : Region.Mode) (ops : Array Oper) (Q : Exit → Act → World → Prop) (S : World → Prop) (n : Nat) : Nat → Array Bool → Act → World → Prop
  | 0, listed, a, w => Region.ready md ops listed = [] ∧ Q .normal a w
  | fuel + 1, listed, a, w =>
    (Region.ready md ops listed = [] → Q .normal a w) ∧
    ∀ i ∈ Region.ready md ops listed, wpOp P ops Q i (fun a' w' => ((listed.setIfInBounds i true).getD n true = true ∨ S w') ∧ wpAnyF P md ops Q S n fuel (listed.setIfInBounds i true) a' w') a w
theorem wpAny_of_F : ∀ (fuel : Nat) (listed : Array Bool) (a : Act) (w : World), wpAnyF P md ops Q S n fuel listed a w → wpAny P md ops Q fuel listed a w
  | 0, _, _, _, h => h
  | fuel + 1, _, _, _, h => ⟨h.1, fun i hi => wpOp_mono (fun a' w' h' => wpAny_of_F fuel _ a' w' h'.2) (h.2 i hi)⟩
/-- Number n waits for number i. -/
def waitsB (md : Region.Mode) (ops : Array Oper) (n i : Nat) : Bool :=
  match ops[n]? with
  | some o => o.after.any fun e => Region.binds md e && e.on == i
  | none => false
theorem waitsB_spec {i : Nat} (h : waitsB md ops n i = true) {listed : Array Bool} (hn : n ∈ Region.ready md ops listed) : listed.getD i true = true := by
  obtain ⟨_, o, ho, hall⟩ := mem_ready.1 hn
  unfold waitsB at h
  simp only [ho] at h
  obtain ⟨e, he, hb⟩ := Array.any_eq_true'.1 h
  simp only [Bool.and_eq_true, beq_iff_eq] at hb
  have h2 := hall e he hb.1
  rw [hb.2] at h2
  rcases Nat.lt_or_ge i listed.size with h' | h'
  · simp [h'] at h2 ⊢; exact h2
  · simp [Array.getElem?_eq_none h'] at h2
theorem wpAnyF_first {i : Nat} {oi : Oper} {v : Value} (hi : ops[i]? = some oi) (hin : i ≠ n) (hl : waitsB md ops n i = true) (hsel : ∀ (j : Nat) (o : Oper) cs b, ops[j]? = some o → o.op ≠ .select cs b)
    (hQ : ∀ c a w, Q (.panic c) (a.put oi.dst v) w → Q (.panic c) a w) :
    ∀ (fuel : Nat) (listed : Array Bool) (a : Act) (w : World),
      (∀ j oj, ops[j]? = some oj → j ≠ i → listed.getD j true = false → (∀ e ∈ oj.after, Region.binds md e = true → e.on ≠ i) → oi.apart ops oj = true) →
      i ∈ Region.ready md ops listed → YieldsIf P ops S oi v a → S w → listed.getD n true = false →
      wpAnyF P md ops Q S n fuel (listed.setIfInBounds i true) (a.put oi.dst v) w → wpAnyF P md ops Q S n (fuel + 1) listed a w := by
  intro fuel
  induction fuel with
  | zero =>
    intro listed a w _ hr hy hS hn H
    refine ⟨fun h => (by rw [h] at hr; cases hr), fun j hj => ?_⟩
    by_cases hji : j = i
    · subst hji; exact hy.wpOp hi hS ⟨.inr hS, H⟩
    · have := ready_mono hj hji
      rw [H.1] at this
      cases this
  | succ fuel ih =>
    intro listed a w hfree hr hy hS hn H
    refine ⟨fun h => (by rw [h] at hr; cases hr), fun j hj => ?_⟩
    by_cases hji : j = i
    · subst hji; exact hy.wpOp hi hS ⟨.inr hS, H⟩
    · have hjn : j ≠ n := by
        intro e
        subst e
        have h1 := waitsB_spec hl hj
        have h0 := (mem_ready.1 hr).1
        rw [h1] at h0
        cases h0
      have h1 := H.2 j (ready_mono hj hji)
      obtain ⟨hjun, oj, hoj, hall⟩ := mem_ready.1 hj
      have hnot : ∀ e ∈ oj.after, Region.binds md e = true → e.on ≠ i := fun e he hb heq => by
        have h1 := hall e he hb
        have h0 := (mem_ready.1 hr).1
        rw [heq] at h1
        rcases Nat.lt_or_ge i listed.size with h' | h'
        · simp [h'] at h0 h1; rw [h0] at h1; cases h1
        · simp [Array.getElem?_eq_none h'] at h1
      have h2 := wpOp_putIf hoj (hfree j oj hoj hji hjun hnot) (fun cs b => hsel i oi cs b hi) (fun cs b => hsel j oj cs b hoj) hQ hy h1
      have hfree' : ∀ k ok, ops[k]? = some ok → k ≠ i → (listed.setIfInBounds j true).getD k true = false →
          (∀ e ∈ ok.after, Region.binds md e = true → e.on ≠ i) → oi.apart ops ok = true := fun k ok hk hki hun hno => by
        refine hfree k ok hk hki ?_ hno
        by_cases hjk : j = k
        · subst hjk; exact hjun
        · rw [getD_set_ne true hjk] at hun; exact hun
      refine wpOp_mono (fun a' w' h3 => ?_) h2
      have hn2 : (listed.setIfInBounds j true).getD n true = false := by rw [getD_set_ne true hjn]; exact hn
      have hS' : S w' := by
        rcases h3.2.1 with h4 | h4
        · rw [getD_set_ne true hjn, getD_set_ne true hin, hn] at h4
          cases h4
        · exact h4
      refine ⟨.inr hS', ih (listed.setIfInBounds j true) a' w' hfree' (ready_mono hr (Ne.symm hji)) h3.1 hS' hn2 ?_⟩
      rw [Array.setIfInBounds_comm _ _ hji]
      exact h3.2.2
/-- An operation that touches no memory. -/
theorem wpAnyF_pure {i : Nat} {oi : Oper} {v : Value} (hi : ops[i]? = some oi) (hin : i ≠ n) (hsel : ∀ (j : Nat) (o : Oper) cs b, ops[j]? = some o → o.op ≠ .select cs b)
    (hQ : ∀ c a w, Q (.panic c) (a.put oi.dst v) w → Q (.panic c) a w) :
    ∀ (fuel : Nat) (listed : Array Bool) (a : Act) (w : World),
      (∀ j oj, ops[j]? = some oj → j ≠ i → listed.getD j true = false → (∀ e ∈ oj.after, Region.binds md e = true → e.on ≠ i) → oi.apart ops oj = true) →
      i ∈ Region.ready md ops listed → YieldsIf P ops (fun _ => True) oi v a → (listed.getD n true = true ∨ S w) →
      wpAnyF P md ops Q S n fuel (listed.setIfInBounds i true) (a.put oi.dst v) w → wpAnyF P md ops Q S n (fuel + 1) listed a w := by
  intro fuel
  induction fuel with
  | zero =>
    intro listed a w _ hr hy hS H
    refine ⟨fun h => (by rw [h] at hr; cases hr), fun j hj => ?_⟩
    by_cases hji : j = i
    · subst hji; exact hy.wpOp hi trivial ⟨by rw [getD_set_ne true hin]; exact hS, H⟩
    · have := ready_mono hj hji
      rw [H.1] at this
      cases this
  | succ fuel ih =>
    intro listed a w hfree hr hy hS H
    refine ⟨fun h => (by rw [h] at hr; cases hr), fun j hj => ?_⟩
    by_cases hji : j = i
    · subst hji; exact hy.wpOp hi trivial ⟨by rw [getD_set_ne true hin]; exact hS, H⟩
    · have h1 := H.2 j (ready_mono hj hji)
      obtain ⟨hjun, oj, hoj, hall⟩ := mem_ready.1 hj
      have hnot : ∀ e ∈ oj.after, Region.binds md e = true → e.on ≠ i := fun e he hb heq => by
        have h1 := hall e he hb
        have h0 := (mem_ready.1 hr).1
        rw [heq] at h1
        rcases Nat.lt_or_ge i listed.size with h' | h'
        · simp [h'] at h0 h1; rw [h0] at h1; cases h1
        · simp [Array.getElem?_eq_none h'] at h1
      have h2 := wpOp_putIf hoj (hfree j oj hoj hji hjun hnot) (fun cs b => hsel i oi cs b hi) (fun cs b => hsel j oj cs b hoj) hQ hy h1
      have hfree' : ∀ k ok, ops[k]? = some ok → k ≠ i → (listed.setIfInBounds j true).getD k true = false →
          (∀ e ∈ ok.after, Region.binds md e = true → e.on ≠ i) → oi.apart ops ok = true := fun k ok hk hki hun hno => by
        refine hfree k ok hk hki ?_ hno
        by_cases hjk : j = k
        · subst hjk; exact hjun
        · rw [getD_set_ne true hjk] at hun; exact hun
      refine wpOp_mono (fun a' w' h3 => ?_) h2
      have hc : (listed.setIfInBounds j true).getD n true = true ∨ S w' := by
        have h4 := h3.2.1
        rw [Array.setIfInBounds_comm _ _ (Ne.symm hji), getD_set_ne true hin] at h4
        exact h4
      refine ⟨hc, ih (listed.setIfInBounds j true) a' w' hfree' (ready_mono hr (Ne.symm hji)) h3.1 hc ?_⟩
      rw [Array.setIfInBounds_comm _ _ hji]
      exact h3.2.2
/-- What was there at w0 stays, till number n comes. -/
def wpF (P : Program) (md : Region.Mode) (ops : Array Oper) (Q : Exit → Act → World → Prop) (w0 : World) (n fuel : Nat) (listed : Array Bool) (a : Act) (w : World) : Prop :=
  wpAnyF P md ops Q (fun W => Below w0.heap.size w0 W) n fuel listed a w
theorem wpF_begin (n : Nat) {w0 : World} {id : Nat} {a : Act} {w : World} (hm : P.follows .mixedOrders = true)
    (h : wpF P .any ops (NoPanic Q) w0 n ops.size (Array.replicate ops.size false) a w.drew) : (Code.region id ops true).wp P Q a w :=
  wp_region_noPanic (wp_region_any hm (wpAny_of_F _ _ _ _ h))
theorem wpF_take {w0 : World} {i : Nat} {oi : Oper} {v : Value} {fuel : Nat} {listed : Array Bool} {a : Act} {w : World} (hb : Below w0.heap.size w0 w) (hi : ops[i]? = some oi) (hin : i ≠ n) (hl : waitsB md ops n i = true) (hnl : listed.getD n true = false)
    (hs : Region.noSelect ops = true) (hf : Region.free md ops listed i = true) (hr : (Region.ready md ops listed).contains i = true)
    (hw : Region.wanted oi (yielded ops a.tmps) = true) (hy : ∀ W, Below w0.heap.size w0 W → (execOp a.eval oi).run P W = .ok (.value v) W)
    (h : wpF P md ops (NoPanic Q) w0 n fuel (listed.setIfInBounds i true) (a.put oi.dst v) w) : wpF P md ops (NoPanic Q) w0 n (fuel + 1) listed a w :=
  wpAnyF_first hi hin hl (Region.noSelect_spec hs) (fun _ _ _ h => h) fuel listed a w (Region.free_spec hi hf) (by simpa using hr) (.inl ⟨hw, hy⟩) hb hnl h
theorem wpF_pure {w0 : World} {i : Nat} {oi : Oper} {v : Value} {fuel : Nat} {listed : Array Bool} {a : Act} {w : World} (hb : listed.getD n true = true ∨ Below w0.heap.size w0 w) (hi : ops[i]? = some oi) (hin : i ≠ n)
    (hs : Region.noSelect ops = true) (hf : Region.free md ops listed i = true) (hr : (Region.ready md ops listed).contains i = true)
    (hw : Region.wanted oi (yielded ops a.tmps) = true) (hy : ∀ W, (execOp a.eval oi).run P W = .ok (.value v) W)
    (h : wpF P md ops (NoPanic Q) w0 n fuel (listed.setIfInBounds i true) (a.put oi.dst v) w) : wpF P md ops (NoPanic Q) w0 n (fuel + 1) listed a w :=
  wpAnyF_pure hi hin (Region.noSelect_spec hs) (fun _ _ _ h => h) fuel listed a w (Region.free_spec hi hf) (by simpa using hr) (.inl ⟨hw, fun W _ => hy W⟩) hb h
theorem wpF_do {w0 : World} {i : Nat} {o : Oper} {fuel : Nat} {listed : Array Bool} {a : Act} {w : World} (hr : Region.ready md ops listed = [i]) (hi : ops[i]? = some o)
    (hw : Region.wanted o (yielded ops a.tmps) = true)
    (h : ∀ K : Act → World → Prop, Shut (∀ a' w', (i = n ∨ Below w0.heap.size w0 w') → wpF P md ops Q w0 n fuel (listed.setIfInBounds i true) a' w' → K a' w') → o.wp P a w K Q) : wpF P md ops Q w0 n (fuel + 1) listed a w := by
  have hmem : i ∈ Region.ready md ops listed := by rw [hr]; simp
  refine ⟨(fun h0 => by rw [hr] at h0; cases h0), fun j hj => ?_⟩
  rw [hr] at hj
  obtain rfl : j = i := by simpa using hj
  have h1 := h (fun a' w' => ((listed.setIfInBounds j true).getD n true = true ∨ Below w0.heap.size w0 w') ∧ wpAnyF P md ops Q (fun W => Below w0.heap.size w0 W) n fuel (listed.setIfInBounds j true) a' w')
    (fun a' w' hb hg => ⟨hb.imp (fun e => by
      subst e
      rcases Nat.lt_or_ge j listed.size with h' | h'
      · simp [h']
      · simp [Array.getElem?_eq_none h']) id, hg⟩)
  unfold wpOp
  simp only [hi, hw, if_true]
  exact .inl h1
/-- Behind number n whatever may be written. -/
theorem wpF_more {w0 : World} {i : Nat} {o : Oper} {fuel : Nat} {listed : Array Bool} {a : Act} {w : World} (hl : listed.getD n true = true) (hr : Region.ready md ops listed = [i]) (hi : ops[i]? = some o)
    (hw : Region.wanted o (yielded ops a.tmps) = true)
    (h : ∀ K : Act → World → Prop, Shut (∀ a' w', wpF P md ops Q w0 n fuel (listed.setIfInBounds i true) a' w' → K a' w') → o.wp P a w K Q) : wpF P md ops Q w0 n (fuel + 1) listed a w := by
  refine ⟨(fun h0 => by rw [hr] at h0; cases h0), fun j hj => ?_⟩
  rw [hr] at hj
  obtain rfl : j = i := by simpa using hj
  have hl2 : (listed.setIfInBounds j true).getD n true = true := by
    by_cases e : j = n
    · subst e
      rcases Nat.lt_or_ge j listed.size with h' | h'
      · simp [h']
      · simp [Array.getElem?_eq_none h']
    · rw [getD_set_ne true e]
      exact hl
  have h1 := h (fun a' w' => ((listed.setIfInBounds j true).getD n true = true ∨ Below w0.heap.size w0 w') ∧ wpAnyF P md ops Q (fun W => Below w0.heap.size w0 W) n fuel (listed.setIfInBounds j true) a' w') (fun a' w' hg => ⟨.inl hl2, hg⟩)
  unfold wpOp
  simp only [hi, hw, if_true]
  exact .inl h1
theorem wpF_done {w0 : World} {fuel : Nat} {listed : Array Bool} {a : Act} {w : World} (hr : Region.ready md ops listed = []) (h : Q .normal a w) : wpF P md ops (NoPanic Q) w0 n fuel listed a w := by
  cases fuel with
  | zero => exact ⟨hr, h⟩
  | succ fuel => exact ⟨fun _ => h, by rw [hr]; intro i hi; cases hi⟩
theorem sU_ {fuel : Nat} {listed : Array Bool} {a : Act} {w : World} (hb : S w) (i : Nat) {oi : Oper} (hi : nthO ops.toList i = some oi)
    (h : ∃ v, (∀ W, S W → (execOp a.eval oi).run P W = .ok (.value v) W) ∧ wpAnyH P md ops (NoPanic Q) S fuel (listed.setIfInBounds i true) (a.put oi.dst v) w)
    (hc : takeB md ops listed i = true := by kernel_rfl) (hw : Region.wanted oi (yielded ops a.tmps) = true := by rfl) : wpAnyH P md ops (NoPanic Q) S (fuel + 1) listed a w := by
  obtain ⟨v, hy, h⟩ := h
  exact wpS_take hb (nA hi) (takeB_1 hc) (takeB_2 hc) (takeB_3 hc) hw hy h
theorem sD_ (i : Nat) {o : Oper} {fuel : Nat} {listed : Array Bool} {a : Act} {w : World}
    (h : ∀ K : Act → World → Prop, Shut (∀ a' w', S w' → wpAnyH P md ops Q S fuel (listed.setIfInBounds i true) a' w' → K a' w') → o.wp P a w K Q)
    (hr : Region.ready md ops listed = [i] := by kernel_rfl) (hi : ops[i]? = some o := by exact nA rfl) (hw : Region.wanted o (yielded ops a.tmps) = true := by rfl) : wpAnyH P md ops Q S (fuel + 1) listed a w := wpS_do hr hi hw h
theorem fU_ {w0 : World} {fuel : Nat} {listed : Array Bool} {a : Act} {w : World} (hb : Below w0.heap.size w0 w) (i : Nat) {oi : Oper} (hi : nthO ops.toList i = some oi)
    (h : ∃ v, (∀ W, Below w0.heap.size w0 W → (execOp a.eval oi).run P W = .ok (.value v) W) ∧ wpF P md ops (NoPanic Q) w0 n fuel (listed.setIfInBounds i true) (a.put oi.dst v) w)
    (hc : takeB md ops listed i = true := by kernel_rfl) (hw : Region.wanted oi (yielded ops a.tmps) = true := by rfl) (hin : i ≠ n := by decide) (hl : waitsB md ops n i = true := by kernel_rfl) (hnl : listed.getD n true = false := by kernel_rfl) : wpF P md ops (NoPanic Q) w0 n (fuel + 1) listed a w := by
  obtain ⟨v, hy, h⟩ := h
  exact wpF_take hb (nA hi) hin hl hnl (takeB_1 hc) (takeB_2 hc) (takeB_3 hc) hw hy h
theorem fP_ {w0 : World} {fuel : Nat} {listed : Array Bool} {a : Act} {w : World} (hb : listed.getD n true = true ∨ Below w0.heap.size w0 w) (i : Nat) {oi : Oper} (hi : nthO ops.toList i = some oi)
    (h : ∃ v, (∀ W, (execOp a.eval oi).run P W = .ok (.value v) W) ∧ wpF P md ops (NoPanic Q) w0 n fuel (listed.setIfInBounds i true) (a.put oi.dst v) w)
    (hc : takeB md ops listed i = true := by kernel_rfl) (hw : Region.wanted oi (yielded ops a.tmps) = true := by rfl) (hin : i ≠ n := by decide) : wpF P md ops (NoPanic Q) w0 n (fuel + 1) listed a w := by
  obtain ⟨v, hy, h⟩ := h
  exact wpF_pure hb (nA hi) hin (takeB_1 hc) (takeB_2 hc) (takeB_3 hc) hw hy h
theorem fD_ {w0 : World} (i : Nat) {o : Oper} {fuel : Nat} {listed : Array Bool} {a : Act} {w : World}
    (h : ∀ K : Act → World → Prop, Shut (∀ a' w', (i = n ∨ Below w0.heap.size w0 w') → wpF P md ops Q w0 n fuel (listed.setIfInBounds i true) a' w' → K a' w') → o.wp P a w K Q)
    (hr : Region.ready md ops listed = [i] := by kernel_rfl) (hi : ops[i]? = some o := by exact nA rfl) (hw : Region.wanted o (yielded ops a.tmps) = true := by rfl) : wpF P md ops Q w0 n (fuel + 1) listed a w := wpF_do hr hi hw h
theorem fM_ {w0 : World} (i : Nat) {o : Oper} {fuel : Nat} {listed : Array Bool} {a : Act} {w : World}
    (h : ∀ K : Act → World → Prop, Shut (∀ a' w', wpF P md ops Q w0 n fuel (listed.setIfInBounds i true) a' w' → K a' w') → o.wp P a w K Q)
    (hl : listed.getD n true = true := by kernel_rfl) (hr : Region.ready md ops listed = [i] := by kernel_rfl) (hi : ops[i]? = some o := by exact nA rfl) (hw : Region.wanted o (yielded ops a.tmps) = true := by rfl) : wpF P md ops Q w0 n (fuel + 1) listed a w := wpF_more hl hr hi hw h
theorem bF_ {w0 : World} (i j : Nat) {oi oj : Oper} {fuel : Nat} {listed : Array Bool} {a : Act} {w : World}
    (h1 : ∀ K : Act → World → Prop, Shut (∀ a' w', Below w0.heap.size w0 w' → wpB P md ops Q w0 fuel (listed.setIfInBounds i true) a' w' → K a' w') → oi.wp P a w K Q)
    (h2 : ∀ K : Act → World → Prop, Shut (∀ a' w', Below w0.heap.size w0 w' → wpB P md ops Q w0 fuel (listed.setIfInBounds j true) a' w' → K a' w') → oj.wp P a w K Q)
    (hr : Region.ready md ops listed = [i, j] := by kernel_rfl) (hi : ops[i]? = some oi := by exact nA rfl) (hj : ops[j]? = some oj := by exact nA rfl)
    (hwi : Region.wanted oi (yielded ops a.tmps) = true := by rfl) (hwj : Region.wanted oj (yielded ops a.tmps) = true := by rfl) : wpB P md ops Q w0 (fuel + 1) listed a w := wpB_fork hr hi hj hwi hwj h1 h2
end
end Go.Proofs.Ytmgkocoemgpgbaa
