/- No more is kept than may be: plain mathematics. No program's text is named. -/
import Derived.Test.YtkljklfejaojaaaFgMath
namespace Go.Proofs.Ytkljklfejaojaaa
set_option linter.unusedSimpArgs false
set_option linter.unusedVariables false

theorem hdB_nil (p : List UInt8) : hdB [] p = 0 := rfl
theorem hdB_cons (e : Ent) (l : List Ent) (p : List UInt8) : hdB (e :: l) p = (if e.peer = p then szE e else 0) + hdB l p := by simp [hdB]
theorem ttB_cons (e : Ent) (l : List Ent) : ttB (e :: l) = szE e + ttB l := by simp [ttB]
theorem hdB_append (l m : List Ent) (p : List UInt8) : hdB (l ++ m) p = hdB l p + hdB m p := by simp [hdB]
theorem ttB_append (l m : List Ent) : ttB (l ++ m) = ttB l + ttB m := by simp [ttB]
theorem hd_le_tt (l : List Ent) (p : List UInt8) : hdB l p ≤ ttB l := by
  induction l with
  | nil => simp [hdB, ttB]
  | cons e l ih =>
    rw [hdB_cons, ttB_cons]
    split <;> omega
theorem hd_sub {l m : List Ent} (h : l.Sublist m) (p : List UInt8) : hdB l p ≤ hdB m p := by
  induction h with
  | slnil => simp
  | cons e h ih => rw [hdB_cons]; omega
  | cons_cons e h ih => rw [hdB_cons, hdB_cons]; omega
theorem tt_sub {l m : List Ent} (h : l.Sublist m) : ttB l ≤ ttB m := by
  induction h with
  | slnil => simp
  | cons e h ih => rw [ttB_cons]; omega
  | cons_cons e h ih => rw [ttB_cons, ttB_cons]; omega
theorem ev_sub {lim : Int} {p : List UInt8} {m : Int} {n : Nat} : ∀ {k : Nat} {l l2 : List Ent}, evL lim p m n k l = some l2 → l2.Sublist l ∧ ((hdB l2 p : Nat) : Int) + (n : Int) ≤ lim
  | 0, l, l2, h => by
    unfold evL at h
    split at h
    · cases h
      exact ⟨List.Sublist.refl _, by assumption⟩
    · cases h
  | k + 1, l, l2, h => by
    unfold evL at h
    split at h
    · cases h
      exact ⟨List.Sublist.refl _, by assumption⟩
    · cases ho : odN p m l with
      | none => rw [ho] at h; cases h
      | some i =>
        rw [ho] at h
        have := ev_sub h
        exact ⟨this.1.trans (List.eraseIdx_sublist l i), this.2⟩
theorem sum_set (l : List (List UInt8)) (i : Nat) (b : List UInt8) : ((l.set i b).map List.length).sum ≤ (l.map List.length).sum + b.length := by
  induction l generalizing i with
  | nil => simp
  | cons x l ih =>
    cases i with
    | zero => simp; omega
    | succ i =>
      have := ih i
      simp only [List.set_cons_succ, List.map_cons, List.sum_cons]
      omega
theorem sz_in (e : Ent) (part : Nat) (b : List UInt8) : szE (inE e part b) ≤ szE e + b.length := sum_set e.parts part b
theorem hd_set (p : List UInt8) : ∀ (l : List Ent) (k : Nat) (e : Ent) (n : Nat), k < l.length → e.peer = (l.getD k noE).peer → szE e ≤ szE (l.getD k noE) + n → hdB (l.set k e) p ≤ hdB l p + (if e.peer = p then n else 0)
  | [], k, e, n, h, _, _ => by simp at h
  | x :: l, 0, e, n, _, h1, h2 => by
    simp only [List.getD_cons_zero] at h1 h2
    rw [List.set_cons_zero, hdB_cons, hdB_cons, h1]
    split <;> omega
  | x :: l, k + 1, e, n, h, h1, h2 => by
    rw [List.getD_cons_succ] at h1 h2
    have := hd_set p l k e n (by simpa using h) h1 h2
    rw [List.set_cons_succ, hdB_cons, hdB_cons]
    omega
theorem tt_set : ∀ (l : List Ent) (k : Nat) (e : Ent) (n : Nat), k < l.length → szE e ≤ szE (l.getD k noE) + n → ttB (l.set k e) ≤ ttB l + n
  | [], k, e, n, h, _ => by simp at h
  | x :: l, 0, e, n, _, h2 => by
    simp only [List.getD_cons_zero] at h2
    rw [List.set_cons_zero, ttB_cons, ttB_cons]
    omega
  | x :: l, k + 1, e, n, h, h2 => by
    rw [List.getD_cons_succ] at h2
    have := tt_set l k e n (by simpa using h) h2
    rw [List.set_cons_succ, ttB_cons, ttB_cons]
    omega
theorem sz_new (p : List UInt8) (m : Int) (now parts : Nat) : szE ⟨p, m, now, List.replicate parts []⟩ = 0 := by simp [szE]
/-- A buffer within its bounds. -/
structure InB (b : Bf) : Prop where
  pm : ∀ p, ((hdB b.l p : Nat) : Int) ≤ b.pm
  am : ((ttB b.l : Nat) : Int) ≤ b.am
theorem InB.sub {b : Bf} (h : InB b) {l : List Ent} (hl : l.Sublist b.l) : InB ⟨b.pm, b.am, b.age, l⟩ :=
  ⟨fun p => by have := hd_sub hl p; have := h.pm p; simp only; omega, by have := tt_sub hl; have := h.am; simp only; omega⟩
theorem InB.start (p a : Int) (g : Nat) : InB (nwF p a g) := ⟨fun q => by simp [nwF, hdB, lsN]; split <;> omega, by simp [nwF, ttB, lsN]; split <;> omega⟩
theorem InB.adG {b : Bf} (h : InB b) (p : List UInt8) (m : Int) (part parts : Nat) (body : List UInt8) (now : Nat) : InB (adG b p m part parts body now).1 := by
  unfold Go.Proofs.Ytkljklfejaojaaa.adG
  cases he : evL b.pm p m body.length b.l.length b.l with
  | none => exact h
  | some l2 =>
    obtain ⟨hs, hp⟩ := ev_sub he
    simp only
    split
    · exact h
    rename_i hall
    obtain ⟨l3, hl3⟩ : ∃ l3, l3 = if fdN p m l2 < l2.length then l2 else l2 ++ [⟨p, m, now, List.replicate parts []⟩] := ⟨_, rfl⟩
    obtain ⟨k, hk⟩ : ∃ k, k = fdN p m l2 := ⟨_, rfl⟩
    rw [← hl3, ← hk]
    have hk3 : k < l3.length ∧ (l3.getD k noE).peer = p ∧ (∀ q, hdB l3 q = hdB l2 q) ∧ ttB l3 = ttB l2 := by
      rw [hl3, hk]
      by_cases hf : fdN p m l2 < l2.length
      · rw [if_pos hf]
        have := fdN_is hf
        simp only [isE, Bool.and_eq_true, decide_eq_true_eq] at this
        exact ⟨hf, this.1, fun _ => rfl, rfl⟩
      · rw [if_neg hf]
        have hle := fdN_le p m l2
        have e : fdN p m l2 = l2.length := by omega
        refine ⟨by simp; omega, by rw [e]; simp, fun q => ?_, ?_⟩
        · rw [hdB_append, hdB_cons, sz_new]
          simp [hdB]
        · rw [ttB_append, ttB_cons, sz_new]
          simp [ttB]
    obtain ⟨g1, g2, g3, g4⟩ := hk3
    have hset : InB ⟨b.pm, b.am, b.age, l3.set k (inE (l3.getD k noE) part body)⟩ := by
      refine ⟨fun q => ?_, ?_⟩
      · have h1 := hd_set q l3 k (inE (l3.getD k noE) part body) body.length g1 rfl (sz_in _ _ _)
        have h2 : (inE (l3.getD k noE) part body).peer = p := g2
        rw [h2, g3 q] at h1
        have h3 := hd_sub hs q
        have h4 := h.pm q
        simp only
        by_cases hq : p = q
        · subst hq
          rw [if_pos rfl] at h1
          omega
        · rw [if_neg hq] at h1
          omega
      · have h1 := tt_set l3 k (inE (l3.getD k noE) part body) body.length g1 (sz_in _ _ _)
        rw [g4] at h1
        simp only
        omega
    split
    · exact hset.sub (List.eraseIdx_sublist _ _)
    · exact hset
/-- Whatever is put in, no more is kept than may be. -/
theorem InB.adF {b : Bf} (h : InB b) (p : List UInt8) (m part parts : Int) (body : List UInt8) (now : Nat) : InB (adF b p m part parts body now).1 := by
  have h1 : InB ⟨b.pm, b.am, b.age, exL b.age now b.l⟩ := h.sub List.filter_sublist
  unfold Go.Proofs.Ytkljklfejaojaaa.adF
  split
  · simp only
    split
    · split
      · exact h1
      · split
        · exact h1
        · exact h1.adG _ _ _ _ _ _
    · exact h1.adG _ _ _ _ _ _
  · exact h
theorem adF_lim (b : Bf) (p : List UInt8) (m part parts : Int) (body : List UInt8) (now : Nat) : (adF b p m part parts body now).1.pm = b.pm ∧ (adF b p m part parts body now).1.am = b.am ∧ (adF b p m part parts body now).1.age = b.age := by
  have hg : ∀ (b : Bf) (x y : Nat), (adG b p m x y body now).1.pm = b.pm ∧ (adG b p m x y body now).1.am = b.am ∧ (adG b p m x y body now).1.age = b.age := fun b x y => by
    unfold adG
    split
    · exact ⟨rfl, rfl, rfl⟩
    · split
      · exact ⟨rfl, rfl, rfl⟩
      · simp only
        refine ⟨?_, ?_, ?_⟩ <;> (repeat' split) <;> rfl
  unfold adF
  split
  · simp only
    split
    · split
      · exact ⟨rfl, rfl, rfl⟩
      · split
        · exact ⟨rfl, rfl, rfl⟩
        · exact hg _ _ _
    · exact hg _ _ _
  · exact ⟨rfl, rfl, rfl⟩
end Go.Proofs.Ytkljklfejaojaaa
