/- Which numbers may come, by the bits of two words: plain mathematics. No program's text is named. -/
import Derived.Test.YtmgkocoemgpgbaaWnMath2
namespace Go.Proofs.Ytmgkocoemgpgbaa
set_option linter.unusedSimpArgs false
set_option linter.unusedVariables false

theorem Wn.none : Wn [] 0 0 := ⟨by decide, by decide, fun j hj => by simp [wbF]⟩
theorem wb_or {a b c d : Nat} (j : Nat) : wbF (a ||| c) (b ||| d) j = (wbF a b j || wbF c d j) := by
  unfold wbF
  split <;> simp [Nat.testBit_or]
/-- One bit alone. -/
theorem wb_one (d j : Nat) : wbF (if d < 64 then 2 ^ d else 0) (if d < 64 then 0 else 2 ^ (d - 64)) j = true ↔ j = d := by
  unfold wbF
  by_cases h : d < 64
  · rw [if_pos h, if_pos h]
    split
    · rw [Nat.testBit_two_pow]
      simp
      omega
    · simp
      omega
  · rw [if_neg h, if_neg h]
    split
    · simp
      omega
    · rw [Nat.testBit_two_pow]
      simp
      omega
/-- A number that is not above the greatest one. -/
theorem Wn.check {l : List Nat} {a b : Nat} (h : Wn l a b) {n : Nat} (h1 : n ≤ tpN l) : cmE l n = if 128 ≤ tpN l - n then 43 else if wbF a b (tpN l - n) = true then 43 else 0 := by
  unfold cmE
  by_cases h2 : 128 ≤ tpN l - n
  · rw [if_pos h2]
    split
    · rfl
    · rw [if_pos ⟨by omega, h2⟩]
  · rw [if_neg h2]
    have hb := h.bits (tpN l - n) (by omega)
    have e : tpN l - (tpN l - n) = n := by omega
    rw [e] at hb
    by_cases h3 : n ∈ l
    · rw [if_pos h3, if_pos (hb.2 ⟨by omega, h3⟩)]
    · rw [if_neg h3, if_neg (fun h => h2 h.2), if_neg (fun h => h3 (hb.1 h).2)]
/-- One above all. -/
theorem cm_above {l : List Nat} {n : Nat} (h : tpN l < n) : cmE l n = 0 := by
  unfold cmE
  rw [if_neg (fun h1 => by have := tpN_ge h1; omega), if_neg (by omega)]
theorem cm_none (n : Nat) : cmE [] n = 0 := by
  unfold cmE
  simp [tpN]
theorem Wn.first (n : Nat) : Wn [n] 1 0 := by
  refine ⟨by decide, by decide, fun j hj => ?_⟩
  have e : tpN [n] = n := by simp [tpN]
  rw [e]
  have h := wb_one 0 j
  simp only [show (0 : Nat) < 64 from by decide, if_true, Nat.pow_zero] at h
  rw [h]
  constructor
  · rintro rfl
    simp
  · rintro ⟨h1, h2⟩
    simp at h2
    omega
/-- A number that comes within the window. -/
theorem Wn.mark {l : List Nat} {a b n : Nat} (h : Wn l a b) (h1 : n ≤ tpN l) (h2 : tpN l - n < 128) :
    Wn (l ++ [n]) (a ||| (if tpN l - n < 64 then 2 ^ (tpN l - n) else 0)) (b ||| (if tpN l - n < 64 then 0 else 2 ^ (tpN l - n - 64))) ∧ tpN (l ++ [n]) = tpN l := by
  have ht : tpN (l ++ [n]) = tpN l := by rw [tpN_snoc]; omega
  refine ⟨⟨?_, ?_, fun j hj => ?_⟩, ht⟩
  · rw [← two64]
    refine Nat.or_lt_two_pow (by rw [two64]; exact h.lo) ?_
    split
    · exact Nat.pow_lt_pow_right (by decide) (by assumption)
    · exact Nat.pow_pos (by decide)
  · rw [← two64]
    refine Nat.or_lt_two_pow (by rw [two64]; exact h.hi) ?_
    split
    · exact Nat.pow_pos (by decide)
    · exact Nat.pow_lt_pow_right (by decide) (by omega)
  · rw [wb_or, Bool.or_eq_true, wb_one, h.bits j hj, ht, List.mem_append, List.mem_singleton]
    constructor
    · rintro (⟨h3, h4⟩ | h3)
      · exact ⟨h3, .inl h4⟩
      · exact ⟨by omega, .inr (by omega)⟩
    · rintro ⟨h3, h4 | h4⟩
      · exact .inl ⟨h3, h4⟩
      · exact .inr (by omega)
/-- A number above all: the bits move. -/
theorem Wn.up {l : List Nat} {a b n k : Nat} (h : Wn l a b) (h1 : tpN l < n) (hk : k = n - tpN l ∨ (128 ≤ k ∧ 128 ≤ n - tpN l)) :
    Wn (l ++ [n]) ((mvN k (a, b)).1 ||| 1) (mvN k (a, b)).2 ∧ tpN (l ++ [n]) = n := by
  have ht : tpN (l ++ [n]) = n := by rw [tpN_snoc]; omega
  have hlt := mvN_lt k (a, b) h.lo h.hi
  refine ⟨⟨?_, hlt.2, fun j hj => ?_⟩, ht⟩
  · rw [← two64]
    exact Nat.or_lt_two_pow (by rw [two64]; exact hlt.1) (by decide)
  · have e1 : wbF ((mvN k (a, b)).1 ||| 1) (mvN k (a, b)).2 j = wbF ((mvN k (a, b)).1 ||| 1) ((mvN k (a, b)).2 ||| 0) j := by rw [Nat.or_zero]
    have h5 := wb_one 0 j
    simp only [show (0 : Nat) < 64 from by decide, if_true, Nat.pow_zero] at h5
    rw [e1, wb_or, Bool.or_eq_true, h5, mvN_bits k a b h.lo h.hi j hj, ht, List.mem_append, List.mem_singleton, Bool.and_eq_true, decide_eq_true_eq]
    constructor
    · rintro (⟨h3, h4⟩ | rfl)
      · have h6 := (h.bits (j - k) (by omega)).1 h4
        rcases hk with rfl | hk
        · refine ⟨by omega, .inl ?_⟩
          rw [show n - j = tpN l - (j - (n - tpN l)) by omega]
          exact h6.2
        · omega
      · exact ⟨by omega, .inr rfl⟩
    · rintro ⟨h3, h4 | h4⟩
      · have h6 := tpN_ge h4
        left
        rcases hk with rfl | hk
        · refine ⟨by omega, (h.bits (j - (n - tpN l)) (by omega)).2 ⟨by omega, ?_⟩⟩
          rw [show tpN l - (j - (n - tpN l)) = n - j by omega]
          exact h4
        · omega
      · right
        omega
theorem tpN_congr {l m : List Nat} (h : ∀ x, x ∈ l ↔ x ∈ m) : tpN l = tpN m := by
  have key : ∀ {l m : List Nat}, (∀ x, x ∈ l ↔ x ∈ m) → tpN l ≤ tpN m := fun {l m} h => by
    by_cases h0 : l = []
    · subst h0
      simp [tpN]
    · exact tpN_ge ((h _).1 (tpN_mem h0))
  exact Nat.le_antisymm (key h) (key fun x => (h x).symm)
/-- Which numbers may come hangs on which came alone. -/
theorem cm_congr {l m : List Nat} (h : ∀ x, x ∈ l ↔ x ∈ m) (n : Nat) : cmE l n = cmE m n := by
  unfold cmE
  rw [tpN_congr h]
  by_cases h1 : n ∈ l
  · rw [if_pos h1, if_pos ((h n).1 h1)]
  · rw [if_neg h1, if_neg fun h2 => h1 ((h n).2 h2)]
/-- Near to one another each one may come that didn't. -/
theorem cm_near {l : List Nat} {n B : Nat} (hl : ∀ x ∈ l, B ≤ x ∧ x < B + 128) (hn : B ≤ n) : cmE l n = if n ∈ l then 43 else 0 := by
  unfold cmE
  by_cases h1 : n ∈ l
  · rw [if_pos h1, if_pos h1]
  · rw [if_neg h1, if_neg h1]
    by_cases h0 : l = []
    · subst h0
      simp [tpN]
    · have := hl _ (tpN_mem h0)
      rw [if_neg (by omega)]
theorem mk_mem (l : List Nat) (n x : Nat) : x ∈ (mkL l n).1 ↔ x ∈ l ∨ (x = n ∧ cmE l n = 0) := by
  unfold mkL
  by_cases h : cmE l n = 0
  · rw [if_pos h]
    simp [h]
  · rw [if_neg h]
    simp [h]
/-- Did any come? -/
theorem Wn.some {l : List Nat} {a b : Nat} (h : Wn l a b) : wbF a b 0 = decide (0 < l.length) := by
  have h1 := h.bits 0 (by decide)
  rw [Bool.eq_iff_iff, h1, decide_eq_true_eq]
  constructor
  · rintro ⟨-, h2⟩
    exact List.length_pos_of_mem h2
  · intro h2
    exact ⟨Nat.zero_le _, tpN_mem (List.length_pos_iff.1 h2)⟩
end Go.Proofs.Ytmgkocoemgpgbaa
