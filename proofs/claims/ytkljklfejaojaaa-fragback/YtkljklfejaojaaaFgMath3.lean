/- A message's pieces, put in in any order and twice, make the message: plain mathematics. No program's text is named. -/
import Derived.Test.YtkljklfejaojaaaFgMath
namespace Go.Proofs.Ytkljklfejaojaaa
set_option linter.unusedSimpArgs false
set_option linter.unusedVariables false

/-- The pieces that came so far. -/
def ptF (ps : List (List UInt8)) (f : Nat → Bool) : List (List UInt8) := (List.range ps.length).map fun i => if f i = true then ps.getD i [] else []
def upF (f : Nat → Bool) (i : Nat) : Nat → Bool := fun j => decide (j = i) || f j
/-- Did none come? Did all? -/
def noF (K : Nat) (f : Nat → Bool) : Bool := (List.range K).all fun i => !f i
def alF (K : Nat) (f : Nat → Bool) : Bool := (List.range K).all f
def bkL (p : List UInt8) (m : Int) (now : Nat) (ps : List (List UInt8)) (f : Nat → Bool) : List Ent := if noF ps.length f = true then [] else [⟨p, m, now, ptF ps f⟩]
theorem noF_iff {K : Nat} {f : Nat → Bool} : noF K f = true ↔ ∀ i, i < K → f i = false := by simp [noF]
theorem alF_iff {K : Nat} {f : Nat → Bool} : alF K f = true ↔ ∀ i, i < K → f i = true := by simp [alF]
theorem ptF_length (ps : List (List UInt8)) (f : Nat → Bool) : (ptF ps f).length = ps.length := by simp [ptF]
theorem ptF_get (ps : List (List UInt8)) (f : Nat → Bool) {i : Nat} (h : i < ps.length) : (ptF ps f).getD i [] = if f i = true then ps.getD i [] else [] := by simp [ptF, h]
theorem ptF_none {ps : List (List UInt8)} {f : Nat → Bool} (h : noF ps.length f = true) : ptF ps f = List.replicate ps.length [] := by
  rw [noF_iff] at h
  refine List.ext_getElem (by simp [ptF]) fun i h1 h2 => ?_
  have hi : i < ps.length := by simpa [ptF] using h1
  simp [ptF, h i hi]
theorem ptF_all {ps : List (List UInt8)} {f : Nat → Bool} (h : alF ps.length f = true) : ptF ps f = ps := by
  rw [alF_iff] at h
  refine List.ext_getElem (by simp [ptF]) fun i h1 h2 => ?_
  simp [ptF, h i h2, h2]
theorem ptF_up (ps : List (List UInt8)) (f : Nat → Bool) {i : Nat} (hi : i < ps.length) : (ptF ps f).set i (ps.getD i []) = ptF ps (upF f i) := by
  refine List.ext_getElem (by simp [ptF]) fun j h1 h2 => ?_
  have hj : j < ps.length := by simpa [ptF] using h2
  rw [List.getElem_set]
  by_cases h : i = j
  · subst h
    simp [ptF, upF, hi]
  · rw [if_neg h]
    have h' : ¬ j = i := fun e => h e.symm
    simp [ptF, upF, h']
theorem fu_pt {ps : List (List UInt8)} (hne : ∀ i, i < ps.length → ps.getD i [] ≠ []) (f : Nat → Bool) : fuB (ptF ps f) = alF ps.length f := by
  rw [Bool.eq_iff_iff, alF_iff]
  unfold fuB
  rw [List.all_eq_true]
  constructor
  · intro h i hi
    have h1 := h ((ptF ps f).getD i []) (by
      have h2 : i < (ptF ps f).length := by rw [ptF_length]; exact hi
      rw [List.getD_eq_getElem?_getD, List.getElem?_eq_getElem h2]
      exact List.getElem_mem h2)
    rw [ptF_get ps f hi] at h1
    by_cases hf : f i = true
    · exact hf
    · rw [if_neg hf] at h1
      simp at h1
  · intro h x hx
    rw [ptF_all (alF_iff.2 h)] at hx
    obtain ⟨i, hi, rfl⟩ := List.getElem_of_mem hx
    have := hne i hi
    simp [hi] at this
    simpa using this
theorem sum_le : ∀ (K : Nat) (g h : Nat → Nat), (∀ i, i < K → g i ≤ h i) → ((List.range K).map g).sum ≤ ((List.range K).map h).sum
  | 0, g, h, _ => by simp
  | K + 1, g, h, hh => by
    have := sum_le K g h fun i hi => hh i (by omega)
    have := hh K (by omega)
    simp only [List.range_succ, List.map_append, List.sum_append, List.map_cons, List.map_nil, List.sum_cons, List.sum_nil]
    omega
theorem sum_ps (ps : List (List UInt8)) : ((List.range ps.length).map fun i => (ps.getD i []).length).sum = (ps.map List.length).sum := by
  congr 1
  refine List.ext_getElem (by simp) fun i h1 h2 => ?_
  have hi : i < ps.length := by simpa using h2
  simp [hi]
theorem pt_sum (ps : List (List UInt8)) (f : Nat → Bool) : ((ptF ps f).map List.length).sum ≤ (ps.map List.length).sum := by
  rw [← sum_ps ps]
  have e : (ptF ps f).map List.length = (List.range ps.length).map fun i => if f i = true then (ps.getD i []).length else 0 := by
    unfold ptF
    rw [List.map_map]
    congr 1
    funext i
    simp only [Function.comp]
    split <;> simp
  rw [e]
  exact sum_le _ _ _ fun i _ => by split <;> omega
theorem sum_put : ∀ (l : List (List UInt8)) (i : Nat) (b : List UInt8), i < l.length → l.getD i [] = [] → ((l.set i b).map List.length).sum = (l.map List.length).sum + b.length
  | [], i, b, h, _ => by simp at h
  | x :: l, 0, b, _, h => by
    simp only [List.getD_cons_zero] at h
    subst h
    simp
    omega
  | x :: l, i + 1, b, h, h2 => by
    rw [List.getD_cons_succ] at h2
    have := sum_put l i b (by simpa using h) h2
    simp only [List.set_cons_succ, List.map_cons, List.sum_cons]
    omega
/-- What is put in, and what came before, are no more than the message. -/
theorem pt_room (ps : List (List UInt8)) (f : Nat → Bool) {i : Nat} (hi : i < ps.length) (hf : f i = false) : ((ptF ps f).map List.length).sum + (ps.getD i []).length ≤ (ps.map List.length).sum := by
  have h1 := pt_sum ps (upF f i)
  rw [← ptF_up ps f hi, sum_put _ _ _ (by rw [ptF_length]; exact hi) (by rw [ptF_get ps f hi, hf]; rfl)] at h1
  exact h1
/-- A message whose pieces are put in. -/
structure Bkm (p : List UInt8) (m : Int) (ps : List (List UInt8)) : Prop where
  may : ∀ i, i < ps.length → mayG m (i : Int) (ps.length : Int) (ps.getD i []).length = true
  ne : ∀ i, i < ps.length → ps.getD i [] ≠ []
  room : (ps.map List.length).sum ≤ 20000
def bkB (l : List Ent) : Bf := ⟨20000, 20000, 10, l⟩
theorem ex_bk (p : List UInt8) (m : Int) (ps : List (List UInt8)) (f : Nat → Bool) (now : Nat) (h : now = 7 ∨ now = 8) : exL 10 now (bkL p m 7 ps f) = bkL p m 7 ps f := by
  unfold bkL
  split
  · rfl
  · rcases h with rfl | rfl <;> simp [exL, yoE]
theorem hdB_nil3 (p : List UInt8) : hdB [] p = 0 := rfl
theorem hd_one (p : List UInt8) (m : Int) (now : Nat) (q : List (List UInt8)) : hdB [⟨p, m, now, q⟩] p = (q.map List.length).sum := by simp [hdB, szE]
theorem tt_one (p : List UInt8) (m : Int) (now : Nat) (q : List (List UInt8)) : ttB [⟨p, m, now, q⟩] = (q.map List.length).sum := by simp [ttB, szE]
theorem ev_room {lim : Int} {p : List UInt8} {m : Int} {n k : Nat} {l : List Ent} (h : ((hdB l p : Nat) : Int) + (n : Int) ≤ lim) : evL lim p m n k l = some l := by
  cases k with
  | zero => unfold evL; rw [if_pos h]
  | succ k => unfold evL; rw [if_pos h]
theorem fd_one (p : List UInt8) (m : Int) (now : Nat) (q : List (List UInt8)) : fdN p m [⟨p, m, now, q⟩] = 0 := by simp [fdN, isE]
/-- A piece that did not come. -/
theorem bk_add {p : List UInt8} {m : Int} {ps : List (List UInt8)} (h : Bkm p m ps) (f : Nat → Bool) {i : Nat} (hi : i < ps.length) (hf : f i = false) :
    adF (bkB (bkL p m 7 ps f)) p m (i : Int) (ps.length : Int) (ps.getD i []) 7 = if alF ps.length (upF f i) = true then (bkB [], ps.flatten, 0) else (bkB (bkL p m 7 ps (upF f i)), [], 0) := by
  have hroom := pt_room ps f hi hf
  have h2 := h.room
  have hG : ∀ l, (l = [] ∧ noF ps.length f = true) ∨ l = [⟨p, m, 7, ptF ps f⟩] → adG (bkB l) p m i ps.length (ps.getD i []) 7 = if alF ps.length (upF f i) = true then (bkB [], ps.flatten, 0) else (bkB (bkL p m 7 ps (upF f i)), [], 0) := by
    intro l hl
    have hn : noF ps.length (upF f i) = false := by
      rw [Bool.eq_false_iff]
      intro h1
      have := noF_iff.1 h1 i hi
      simp [upF] at this
    have hfin : (if fuB (inE ⟨p, m, 7, ptF ps f⟩ i (ps.getD i [])).parts = true then (bkB ([inE ⟨p, m, 7, ptF ps f⟩ i (ps.getD i [])].eraseIdx 0), (inE ⟨p, m, 7, ptF ps f⟩ i (ps.getD i [])).parts.flatten, (0 : Int)) else (bkB [inE ⟨p, m, 7, ptF ps f⟩ i (ps.getD i [])], [], 0)) = if alF ps.length (upF f i) = true then (bkB [], ps.flatten, 0) else (bkB (bkL p m 7 ps (upF f i)), [], 0) := by
      unfold inE
      simp only [ptF_up ps f hi, fu_pt h.ne]
      by_cases ha : alF ps.length (upF f i) = true
      · rw [if_pos ha, if_pos ha, ptF_all ha]
        rfl
      · rw [if_neg ha, if_neg ha]
        unfold bkL
        rw [if_neg (by rw [hn]; decide)]
    rcases hl with ⟨rfl, hno⟩ | rfl
    · have h3 : (ps.getD i []).length ≤ 20000 := by omega
      have h4 : (((ps.getD i []).length : Nat) : Int) ≤ 20000 := by omega
      unfold adG
      simp only [show ∀ l, (bkB l).l = l from fun _ => rfl, show ∀ l, (bkB l).pm = 20000 from fun _ => rfl, show ∀ l, (bkB l).am = 20000 from fun _ => rfl, show ∀ l, (bkB l).age = 10 from fun _ => rfl]
      rw [ev_room (by rw [hdB_nil3]; omega)]
      simp only
      rw [if_neg (by rw [show ttB [] = 0 from rfl]; omega), show fdN p m [] = 0 from rfl, ← ptF_none hno]
      simp only [List.length_nil, Nat.lt_irrefl, if_false, List.nil_append, List.getD_cons_zero, List.set_cons_zero]
      exact hfin
    · unfold adG
      simp only [show ∀ l, (bkB l).l = l from fun _ => rfl, show ∀ l, (bkB l).pm = 20000 from fun _ => rfl, show ∀ l, (bkB l).am = 20000 from fun _ => rfl, show ∀ l, (bkB l).age = 10 from fun _ => rfl]
      rw [ev_room (by rw [hd_one]; omega)]
      simp only
      rw [if_neg (by rw [tt_one]; omega), fd_one]
      simp only [List.length_cons, List.length_nil, Nat.zero_add, Nat.zero_lt_one, if_true, List.getD_cons_zero, List.set_cons_zero]
      exact hfin
  unfold adF
  rw [if_pos (h.may i hi)]
  simp only [show (bkB (bkL p m 7 ps f)).l = bkL p m 7 ps f from rfl, show (bkB (bkL p m 7 ps f)).age = 10 from rfl, show (bkB (bkL p m 7 ps f)).pm = 20000 from rfl, show (bkB (bkL p m 7 ps f)).am = 20000 from rfl, ex_bk p m ps f 7 (.inl rfl), Int.toNat_natCast]
  by_cases hno : noF ps.length f = true
  · have e : bkL p m 7 ps f = [] := by unfold bkL; rw [if_pos hno]
    rw [e, if_neg (by simp [fdN])]
    exact hG [] (.inl ⟨rfl, hno⟩)
  · have e : bkL p m 7 ps f = [⟨p, m, 7, ptF ps f⟩] := by unfold bkL; rw [if_neg hno]
    rw [e, fd_one, if_pos (by simp)]
    simp only [List.getD_cons_zero, ptF_get ps f hi, hf, ptF_length]
    rw [if_neg (by simp), if_neg (by simp)]
    exact hG _ (.inr rfl)
/-- A piece that came. -/
theorem bk_again {p : List UInt8} {m : Int} {ps : List (List UInt8)} (h : Bkm p m ps) (f : Nat → Bool) {i : Nat} (hi : i < ps.length) (hf : f i = true) :
    adF (bkB (bkL p m 7 ps f)) p m (i : Int) (ps.length : Int) (ps.getD i []) 8 = (bkB (bkL p m 7 ps f), [], 0) := by
  have hno : ¬ noF ps.length f = true := fun h1 => by
    have := noF_iff.1 h1 i hi
    rw [hf] at this
    cases this
  unfold adF
  rw [if_pos (h.may i hi)]
  simp only [show (bkB (bkL p m 7 ps f)).l = bkL p m 7 ps f from rfl, show (bkB (bkL p m 7 ps f)).age = 10 from rfl, show (bkB (bkL p m 7 ps f)).pm = 20000 from rfl, show (bkB (bkL p m 7 ps f)).am = 20000 from rfl, ex_bk p m ps f 8 (.inr rfl), Int.toNat_natCast]
  have e : bkL p m 7 ps f = [⟨p, m, 7, ptF ps f⟩] := by unfold bkL; rw [if_neg hno]
  have hne := h.ne i hi
  rw [e, fd_one, if_pos (by simp)]
  simp only [List.getD_cons_zero, ptF_get ps f hi, hf, ptF_length, if_true]
  rw [if_neg (by simp), if_pos hne]
  rfl
/-- A message's own pieces. -/
theorem sp_length (m : List UInt8) : ∀ k, (spP m k).length = k
  | 0 => rfl
  | k + 1 => by simp [spP, sp_length m k]
theorem sp_get (m : List UInt8) : ∀ {k i : Nat}, i < k → (spP m k).getD i [] = (m.drop (1024 * i)).take 1024
  | 0, i, h => by omega
  | k + 1, i, h => by
    unfold spP
    rw [List.getD_eq_getElem?_getD]
    by_cases h1 : i < k
    · rw [List.getElem?_append_left (by rw [sp_length]; exact h1), ← List.getD_eq_getElem?_getD]
      exact sp_get m h1
    · have e : i = k := by omega
      subst e
      rw [List.getElem?_append_right (by rw [sp_length]; exact Nat.le_refl _), sp_length]
      simp
theorem sp_flat (m : List UInt8) : ∀ k, (spP m k).flatten = m.take (1024 * k)
  | 0 => by simp [spP]
  | k + 1 => by
    unfold spP
    rw [List.flatten_append, sp_flat m k]
    simp only [List.flatten_cons, List.flatten_nil, List.append_nil]
    rw [show 1024 * (k + 1) = 1024 * k + 1024 by omega, List.take_add]
theorem sp_all (m : List UInt8) : (spP m ((m.length + 1023) / 1024)).flatten = m := by
  rw [sp_flat]
  exact List.take_of_length_le (by omega)
theorem sp_sum (m : List UInt8) (k : Nat) : ((spP m k).map List.length).sum = (m.take (1024 * k)).length := by
  rw [← sp_flat, List.length_flatten]
/-- .. are such as make it. -/
theorem sp_bk (p : List UInt8) (m : List UInt8) (h0 : m.length ≠ 0) (h1 : m.length ≤ 20000) : Bkm p 3 (spP m ((m.length + 1023) / 1024)) := by
  refine ⟨fun i hi => ?_, fun i hi => ?_, ?_⟩
  · rw [sp_length] at hi ⊢
    rw [sp_get m hi]
    refine decide_eq_true ?_
    rw [List.length_take, List.length_drop]
    omega
  · rw [sp_length] at hi
    rw [sp_get m hi]
    intro h
    have := congrArg List.length h
    rw [List.length_take, List.length_drop] at this
    simp at this
    omega
  · rw [sp_sum]
    simp
    omega
end Go.Proofs.Ytkljklfejaojaaa
