/- Which pieces are left to be put in: plain mathematics. No program's text is named. -/
import Derived.Test.YtkljklfejaojaaaFgMath3
namespace Go.Proofs.Ytkljklfejaojaaa
set_option linter.unusedSimpArgs false
set_option linter.unusedVariables false

/-- The numbers that are left, once n of K came. -/
structure LfS (K : Nat) (lf : List Nat) (f : Nat → Bool) (n : Nat) : Prop where
  nod : lf.Nodup
  mem : ∀ x, x ∈ lf ↔ x < K ∧ f x = false
  len : n + lf.length = K
theorem LfS.start (K : Nat) : LfS K (List.range K) (fun _ => false) 0 := ⟨List.nodup_range, fun x => by simp, by simp⟩
theorem getD_memB {lf : List Nat} {k : Nat} (h : k < lf.length) : lf.getD k 0 ∈ lf := by
  have : lf.getD k 0 = lf[k] := by simp [h]
  rw [this]
  exact List.getElem_mem h
theorem LfS.at {K : Nat} {lf : List Nat} {f : Nat → Bool} {n k : Nat} (h : LfS K lf f n) (hk : k < lf.length) : lf.getD k 0 < K ∧ f (lf.getD k 0) = false := (h.mem _).1 (getD_memB hk)
theorem nodup_erase : ∀ {lf : List Nat} {k : Nat}, lf.Nodup → k < lf.length → ∀ x, x ∈ lf.eraseIdx k ↔ x ∈ lf ∧ x ≠ lf.getD k 0
  | [], k, _, h, x => by simp at h
  | y :: lf, 0, hn, _, x => by
    have hy := (List.nodup_cons.1 hn).1
    simp only [List.eraseIdx_cons_zero, List.getD_cons_zero, List.mem_cons]
    constructor
    · intro hx
      exact ⟨.inr hx, fun e => hy (e ▸ hx)⟩
    · rintro ⟨rfl | hx, hne⟩
      · exact absurd rfl hne
      · exact hx
  | y :: lf, k + 1, hn, h, x => by
    have hk : k < lf.length := by simpa using h
    have ih := nodup_erase (List.nodup_cons.1 hn).2 hk x
    have hy := (List.nodup_cons.1 hn).1
    rw [List.eraseIdx_cons_succ, List.getD_cons_succ, List.mem_cons, ih, List.mem_cons]
    constructor
    · rintro (rfl | ⟨h1, h2⟩)
      · exact ⟨.inl rfl, fun e => hy (by rw [e]; exact getD_memB hk)⟩
      · exact ⟨.inr h1, h2⟩
    · rintro ⟨rfl | h1, h2⟩
      · exact .inl rfl
      · exact .inr ⟨h1, h2⟩
theorem LfS.step {K : Nat} {lf : List Nat} {f : Nat → Bool} {n k : Nat} (h : LfS K lf f n) (hk : k < lf.length) : LfS K (lf.eraseIdx k) (upF f (lf.getD k 0)) (n + 1) := by
  refine ⟨h.nod.sublist (List.eraseIdx_sublist lf k), fun x => ?_, ?_⟩
  · rw [nodup_erase h.nod hk x, h.mem x]
    unfold upF
    by_cases e : x = lf.getD k 0
    · simp [e]
    · rw [decide_eq_false e, Bool.false_or]
      exact ⟨fun h => h.1, fun h => ⟨h, e⟩⟩
  · have := h.len
    rw [List.length_eraseIdx, if_pos hk]
    omega
theorem LfS.all {K : Nat} {lf : List Nat} {f : Nat → Bool} {n : Nat} (h : LfS K lf f n) : alF K f = true ↔ lf = [] := by
  rw [alF_iff]
  constructor
  · intro ha
    refine List.eq_nil_iff_forall_not_mem.2 fun x hx => ?_
    obtain ⟨h1, h2⟩ := (h.mem x).1 hx
    rw [ha x h1] at h2
    cases h2
  · intro he i hi
    cases hf : f i with
    | true => rfl
    | false =>
      have := (h.mem i).2 ⟨hi, hf⟩
      rw [he] at this
      cases this
theorem bkL_len (p : List UInt8) (m : Int) (now : Nat) (ps : List (List UInt8)) (f : Nat → Bool) : (bkL p m now ps f).length ≤ 1 := by
  unfold bkL
  split
  · exact Nat.zero_le _
  · exact Nat.le_refl _
/-- What is kept. -/
def stB9 (ps : List (List UInt8)) (lf : List Nat) (f : Nat → Bool) : List Ent := if lf = [] then [] else bkL [112] 3 7 ps f
theorem stB9_len (ps : List (List UInt8)) (lf : List Nat) (f : Nat → Bool) : (stB9 ps lf f).length ≤ 1 := by
  unfold stB9
  split
  · exact Nat.zero_le _
  · exact bkL_len _ _ _ _ _
theorem stB9_start (ps : List (List UInt8)) : stB9 ps (List.range ps.length) (fun _ => false) = [] := by
  unfold stB9
  split
  · rfl
  · unfold bkL
    rw [if_pos (noF_iff.2 fun _ _ => rfl)]
/-- A piece that did not come is put in. -/
theorem st_add {ps : List (List UInt8)} {lf : List Nat} {f : Nat → Bool} {n k : Nat} (hb : Bkm [112] 3 ps) (h : LfS ps.length lf f n) (hk : k < lf.length) :
    adF (bkB (stB9 ps lf f)) [112] 3 ((lf.getD k 0 : Nat) : Int) (ps.length : Int) (ps.getD (lf.getD k 0) []) 7 = (bkB (stB9 ps (lf.eraseIdx k) (upF f (lf.getD k 0))), if lf.eraseIdx k = [] then ps.flatten else [], 0) := by
  have hne : lf ≠ [] := by rintro rfl; simp at hk
  obtain ⟨h1, h2⟩ := h.at hk
  have h3 := bk_add hb f h1 h2
  have h4 := (h.step hk).all
  unfold stB9
  rw [if_neg hne, h3]
  by_cases he : lf.eraseIdx k = []
  · rw [if_pos (h4.2 he), if_pos he, if_pos he]
  · rw [if_neg (fun ha => he (h4.1 ha)), if_neg he, if_neg he]
/-- A piece that came is put in again. -/
theorem st_again {ps : List (List UInt8)} {lf : List Nat} {f : Nat → Bool} {i : Nat} (hb : Bkm [112] 3 ps) (hne : lf ≠ []) (hi : i < ps.length) :
    adF (bkB (stB9 ps lf (upF f i))) [112] 3 (i : Int) (ps.length : Int) (ps.getD i []) 8 = (bkB (stB9 ps lf (upF f i)), [], 0) := by
  unfold stB9
  rw [if_neg hne]
  exact bk_again hb (upF f i) hi (by simp [upF])
end Go.Proofs.Ytkljklfejaojaaa
