/- Numbers near to one another, in any order, and which of them were seen: plain mathematics. No program's text is named. -/
import Derived.Test.YtmgkocoemgpgbaaWnMath4
namespace Go.Proofs.Ytmgkocoemgpgbaa
set_option linter.unusedSimpArgs false
set_option linter.unusedVariables false

/-- The numbers that came are the first so many ones. -/
def NrL (B : Nat) (xs : Nat → Nat) (i : Nat) (l : List Nat) : Prop := ∀ x, x ∈ l ↔ ∃ m, m < i ∧ x = B + xs m
/-- .. the last so many ones of n. -/
def NrD (B : Nat) (xs : Nat → Nat) (n i : Nat) (l : List Nat) : Prop := ∀ x, x ∈ l ↔ ∃ m, n ≤ m + i ∧ m < n ∧ x = B + xs m
theorem mk_near {l : List Nat} {n B : Nat} (hl : ∀ x ∈ l, B ≤ x ∧ x < B + 128) (hn : B ≤ n) : mkL l n = (if n ∈ l then l else l ++ [n], if n ∈ l then 43 else 0) := by
  unfold mkL
  rw [cm_near hl hn]
  by_cases h : n ∈ l
  · rw [if_pos h, if_pos h, if_neg (by decide)]
  · rw [if_neg h, if_neg h, if_pos rfl]
theorem mk_in {l : List Nat} {n B : Nat} (hl : ∀ x ∈ l, B ≤ x ∧ x < B + 128) (hn : B ≤ n) (x : Nat) : x ∈ (mkL l n).1 ↔ x ∈ l ∨ x = n := by
  rw [mk_near hl hn]
  by_cases h : n ∈ l
  · rw [if_pos h]
    exact ⟨.inl, fun h1 => h1.elim id fun e => e ▸ h⟩
  · rw [if_neg h]
    simp
theorem NrL.start (B : Nat) (xs : Nat → Nat) : NrL B xs 0 [] := fun x => by simp
theorem NrL.near {B : Nat} {xs : Nat → Nat} (hx : ∀ m, xs m < 128) {i : Nat} {l : List Nat} (h : NrL B xs i l) : ∀ x ∈ l, B ≤ x ∧ x < B + 128 := by
  intro x hm
  obtain ⟨m, -, rfl⟩ := (h x).1 hm
  have := hx m
  omega
theorem NrL.step {B : Nat} {xs : Nat → Nat} (hx : ∀ m, xs m < 128) {i : Nat} {l : List Nat} (h : NrL B xs i l) : NrL B xs (i + 1) (mkL l (B + xs i)).1 := by
  intro x
  rw [mk_in (h.near hx) (by omega), h x]
  constructor
  · rintro (⟨m, h1, h2⟩ | h1)
    · exact ⟨m, by omega, h2⟩
    · exact ⟨i, by omega, h1⟩
  · rintro ⟨m, h1, h2⟩
    by_cases hm : m = i
    · subst hm
      exact .inr h2
    · exact .inl ⟨m, by omega, h2⟩
theorem NrD.start (B : Nat) (xs : Nat → Nat) (n : Nat) : NrD B xs n 0 [] := fun x => by
  simp
  intro m h1 h2
  omega
theorem NrD.near {B : Nat} {xs : Nat → Nat} (hx : ∀ m, xs m < 128) {n i : Nat} {l : List Nat} (h : NrD B xs n i l) : ∀ x ∈ l, B ≤ x ∧ x < B + 128 := by
  intro x hm
  obtain ⟨m, -, -, rfl⟩ := (h x).1 hm
  have := hx m
  omega
theorem NrD.step {B : Nat} {xs : Nat → Nat} (hx : ∀ m, xs m < 128) {n i k : Nat} {l : List Nat} (h : NrD B xs n i l) (hk : n = k + i + 1) : NrD B xs n (i + 1) (mkL l (B + xs k)).1 := by
  intro x
  rw [mk_in (h.near hx) (by omega), h x]
  constructor
  · rintro (⟨m, h1, h2, h3⟩ | h1)
    · exact ⟨m, by omega, h2, h3⟩
    · exact ⟨k, by omega, by omega, h1⟩
  · rintro ⟨m, h1, h2, h3⟩
    by_cases hm : m = k
    · subst hm
      exact .inr h3
    · exact .inl ⟨m, by omega, h2, h3⟩
theorem nr_same {B : Nat} {xs : Nat → Nat} {n : Nat} {l m : List Nat} (h : NrL B xs n l) (h2 : NrD B xs n n m) : ∀ x, x ∈ l ↔ x ∈ m := by
  intro x
  rw [h x, h2 x]
  constructor
  · rintro ⟨k, h3, h4⟩
    exact ⟨k, by omega, h3, h4⟩
  · rintro ⟨k, -, h3, h4⟩
    exact ⟨k, h3, h4⟩
theorem some_congr {l m : List Nat} (h : ∀ x, x ∈ l ↔ x ∈ m) : decide (0 < l.length) = decide (0 < m.length) := by
  refine decide_eq_decide.2 ⟨fun h1 => ?_, fun h1 => ?_⟩
  · exact List.length_pos_of_mem ((h _).1 (tpN_mem (List.length_pos_iff.1 h1)))
  · exact List.length_pos_of_mem ((h _).2 (tpN_mem (List.length_pos_iff.1 h1)))
/-- Which of n were seen. -/
def snB (n B : Nat) (l : List Nat) : List Bool := (List.range n).map fun k => decide (B + k ∈ l)
theorem snB_length (n B : Nat) (l : List Nat) : (snB n B l).length = n := by simp [snB]
theorem snB_at (n B : Nat) (l : List Nat) {i : Nat} (h : i < (snB n B l).length) : (snB n B l)[i] = decide (B + i ∈ l) := by simp [snB]
theorem snB_none (n B : Nat) : snB n B [] = List.replicate n false := by
  refine List.ext_getElem (by simp [snB]) fun i h1 h2 => ?_
  rw [snB_at]
  simp
theorem snB_get (n B : Nat) (l : List Nat) {k : Nat} (h : k < n) : (snB n B l)[k]? = some (decide (B + k ∈ l)) := by
  rw [List.getElem?_eq_getElem (by rw [snB_length]; exact h), snB_at]
theorem snB_set (n : Nat) {B : Nat} {l : List Nat} (hl : ∀ x ∈ l, B ≤ x ∧ x < B + 128) (k : Nat) : (snB n B l).set k true = snB n B (mkL l (B + k)).1 := by
  refine List.ext_getElem (by rw [List.length_set, snB_length, snB_length]) fun i h1 h2 => ?_
  rw [List.getElem_set]
  by_cases hk : k = i
  · subst hk
    rw [if_pos rfl, snB_at]
    exact (decide_eq_true ((mk_in hl (Nat.le_add_right B k) _).2 (.inr rfl))).symm
  · rw [if_neg hk, snB_at, snB_at]
    refine decide_eq_decide.2 ?_
    rw [mk_in hl (Nat.le_add_right B k)]
    exact ⟨.inl, fun h => h.elim id fun h => absurd (by omega : k = i) hk⟩
end Go.Proofs.Ytmgkocoemgpgbaa
