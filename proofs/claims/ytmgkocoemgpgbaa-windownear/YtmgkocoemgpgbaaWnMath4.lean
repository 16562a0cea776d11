/- Numbers one behind the other, and numbers near to one another: plain mathematics. No program's text is named. -/
import Derived.Test.YtmgkocoemgpgbaaWnMath3
namespace Go.Proofs.Ytmgkocoemgpgbaa
set_option linter.unusedSimpArgs false
set_option linter.unusedVariables false

/-- So many numbers, one behind the other. -/
def rwN (b i : Nat) : List Nat := (List.range i).map (b + ·)
theorem rwN_succ (b i : Nat) : rwN b (i + 1) = rwN b i ++ [b + i] := by
  unfold rwN
  rw [List.range_succ, List.map_append]
  rfl
theorem rwN_mem {b i x : Nat} : x ∈ rwN b i ↔ b ≤ x ∧ x < b + i := by
  unfold rwN
  simp only [List.mem_map, List.mem_range]
  constructor
  · rintro ⟨j, h1, rfl⟩
    omega
  · rintro ⟨h1, h2⟩
    exact ⟨x - b, by omega, by omega⟩
theorem rwN_top (b : Nat) : ∀ i, tpN (rwN b (i + 1)) = b + i
  | 0 => by rw [rwN_succ, tpN_snoc]; simp [rwN, tpN]
  | i + 1 => by rw [rwN_succ, tpN_snoc, rwN_top b i]; omega
theorem rwN_cm (b : Nat) : ∀ i, cmE (rwN b i) (b + i) = 0
  | 0 => cm_none _
  | i + 1 => cm_above (by rw [rwN_top]; omega)
theorem mk_ok {l : List Nat} {n : Nat} (h : cmE l n = 0) : mkL l n = (l ++ [n], 0) := by
  unfold mkL
  rw [if_pos h]
theorem rwN_mk (b i : Nat) : mkL (rwN b i) (b + i) = (rwN b (i + 1), 0) := by rw [mk_ok (rwN_cm b i), rwN_succ]
theorem cm_in {l : List Nat} {n : Nat} (h : n ∈ l) : cmE l n = 43 := by unfold cmE; rw [if_pos h]
theorem rwN_again (b i : Nat) : cmE (rwN b (i + 1)) (b + i) = 43 := cm_in (rwN_mem.2 ⟨by omega, by omega⟩)
theorem rwN_step (b k s : Nat) : mkL (rwN b (k + 1)) (b + k + 1 + s) = (rwN b (k + 1) ++ [b + k + 1 + s], 0) := mk_ok (cm_above (by rw [rwN_top]; omega))
theorem rwN_gap (b k s i : Nat) (h : i < s) : cmE (rwN b (k + 1) ++ [b + k + 1 + s]) (b + k + 1 + i) = if 128 ≤ s - i then 43 else 0 := by
  have ht : tpN (rwN b (k + 1) ++ [b + k + 1 + s]) = b + k + 1 + s := by rw [tpN_snoc, rwN_top]; omega
  unfold cmE
  rw [ht, if_neg (by
    intro hm
    rcases List.mem_append.1 hm with h1 | h1
    · have := (rwN_mem.1 h1).2
      omega
    · have := List.mem_singleton.1 h1
      omega)]
  by_cases h2 : 128 ≤ s - i
  · rw [if_pos h2, if_pos ⟨by omega, by omega⟩]
  · rw [if_neg h2, if_neg (by omega)]
theorem rwN_first (b k s : Nat) : cmE (rwN b (k + 1) ++ [b + k + 1 + s]) b = 43 := cm_in (List.mem_append_left _ (rwN_mem.2 ⟨by omega, by omega⟩))
end Go.Proofs.Ytmgkocoemgpgbaa
