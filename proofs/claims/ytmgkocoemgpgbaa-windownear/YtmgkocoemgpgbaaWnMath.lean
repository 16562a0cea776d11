/- Which numbers came, as the document has it: plain mathematics. No program's text is named. -/
import Derived.Test.YtmgkocoemgpgbaaLibI
namespace Go.Proofs.Ytmgkocoemgpgbaa
set_option linter.unusedSimpArgs false
set_option linter.unusedVariables false

/-- The greatest one of some numbers. -/
def tpN : List Nat → Nat
  | [] => 0
  | x :: l => max x (tpN l)
theorem tpN_snoc : ∀ (l : List Nat) (x : Nat), tpN (l ++ [x]) = max (tpN l) x
  | [], x => by simp [tpN]
  | y :: l, x => by
    simp only [List.cons_append, tpN, tpN_snoc l x]
    omega
theorem tpN_ge : ∀ {l : List Nat} {x : Nat}, x ∈ l → x ≤ tpN l
  | y :: l, x, h => by
    rcases List.mem_cons.1 h with rfl | h
    · simp only [tpN]; omega
    · have := tpN_ge h
      simp only [tpN]
      omega
theorem tpN_mem : ∀ {l : List Nat}, l ≠ [] → tpN l ∈ l
  | [x], _ => by simp [tpN]
  | x :: y :: l, _ => by
    have := tpN_mem (l := y :: l) (by simp)
    rw [show tpN (x :: y :: l) = max x (tpN (y :: l)) from rfl]
    rcases Nat.le_total x (tpN (y :: l)) with h | h
    · rw [Nat.max_eq_right h]; exact List.mem_cons_of_mem _ this
    · rw [Nat.max_eq_left h]; exact List.mem_cons_self ..
theorem tpN_lt {l : List Nat} {m : Nat} (hm : 0 < m) (h : ∀ x ∈ l, x < m) : tpN l < m := by
  by_cases h0 : l = []
  · subst h0; exact hm
  · exact h _ (tpN_mem h0)
/-- May a number come? -/
def cmE (l : List Nat) (n : Nat) : Int := if n ∈ l then 43 else if n < tpN l ∧ 128 ≤ tpN l - n then 43 else 0
/-- It comes. -/
def mkL (l : List Nat) (n : Nat) : List Nat × Int := if cmE l n = 0 then (l ++ [n], 0) else (l, cmE l n)
theorem cmE_ways (l : List Nat) (n : Nat) : (cmE l n = 43 ∧ (n ∈ l ∨ (n < tpN l ∧ 128 ≤ tpN l - n))) ∨ (cmE l n = 0 ∧ n ∉ l ∧ ¬ (n < tpN l ∧ 128 ≤ tpN l - n)) := by
  unfold cmE
  by_cases h : n ∈ l
  · rw [if_pos h]; exact .inl ⟨rfl, .inl h⟩
  · rw [if_neg h]
    by_cases h2 : n < tpN l ∧ 128 ≤ tpN l - n
    · rw [if_pos h2]; exact .inl ⟨rfl, .inr h2⟩
    · rw [if_neg h2]; exact .inr ⟨rfl, h, h2⟩
/-- Numbers as cells. -/
def nU (l : List Nat) : List Int := l.map fun x => ((x : Nat) : Int)
theorem nU_length (l : List Nat) : (nU l).length = l.length := by simp [nU]
theorem nU_getD (l : List Nat) (i : Nat) : (nU l).getD i 0 = ((l.getD i 0 : Nat) : Int) := by
  unfold nU
  by_cases h : i < l.length <;> simp [h]
theorem nU_snoc (l : List Nat) (x : Nat) : nU (l ++ [x]) = nU l ++ [((x : Nat) : Int)] := by simp [nU]
theorem take_snoc {l : List Nat} {i : Nat} (h : i < l.length) : l.take (i + 1) = l.take i ++ [l.getD i 0] := by
  rw [List.take_succ_eq_append_getElem h]
  simp [h]
theorem mem_take {l : List Nat} {i n : Nat} (h : i < l.length) (hn : n ∉ l.take i) (he : l.getD i 0 ≠ n) : n ∉ l.take (i + 1) := by
  rw [take_snoc h]
  intro hm
  rcases List.mem_append.1 hm with h1 | h1
  · exact hn h1
  · exact he (List.mem_singleton.1 h1).symm
end Go.Proofs.Ytmgkocoemgpgbaa
